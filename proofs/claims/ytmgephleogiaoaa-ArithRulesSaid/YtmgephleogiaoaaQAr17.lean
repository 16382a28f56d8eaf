/-
  The law ArithRules, walked. No condition but that its numbers are of 64 bits.
-/
import Derived.Test.YtmgephleogiaoaaQAr16
namespace Go.Proofs.Ytmgephleogiaoaa
open Go.RowKit Go.Maps
set_option linter.unusedVariables false
set_option linter.unusedSimpArgs false
def oA5_0_0 : Oper := ⟨some 4, Op.assign (Operand.const (Value.bool false)), 4, "law.go:71", #[], none⟩
def OA5_0 : Array Oper := List.toArray (oA5_0_0 :: [])
theorem gA5_0_0 : OA5_0[0]? = some oA5_0_0 := rfl
def cA5_1 : Code := Code.region 0 OA5_0 false
def oA5_1_0 : Oper := ⟨some 25, Op.call { callee := Callee.value (Operand.func 9), args := #[], argTypes := #[] }, 4, "law.go:72", #[], none⟩
def oA5_1_1 : Oper := ⟨some 26, Op.unOp Go.UnOp.not 4 (Operand.tmp 25), 4, "law.go:72", #[ed_ 0], none⟩
def OA5_1 : Array Oper := List.toArray (oA5_1_0 :: oA5_1_1 :: [])
theorem gA5_1_0 : OA5_1[0]? = some oA5_1_0 := rfl
theorem gA5_1_1 : OA5_1[1]? = some oA5_1_1 := rfl
def cA5_4 : Code := Code.region 1 OA5_1 false
def oA5_2_0 : Oper := ⟨some 4, Op.assign (Operand.const (Value.bool false)), 4, "law.go:73", #[], none⟩
def OA5_2 : Array Oper := List.toArray (oA5_2_0 :: [])
def cA5_7 : Code := Code.region 2 OA5_2 false
def cA5_6 : Code := Code.seq cA5_7 Code.ret
def cA5_5 : Code := Code.cond (Operand.tmp 26) cA5_6 Code.skip
def cA5_3 : Code := Code.seq cA5_4 cA5_5
def oA5_3_0 : Oper := ⟨some 28, Op.move (Operand.tmp 0), 2, "law.go:75", #[], none⟩
def oA5_3_1 : Oper := ⟨some 29, Op.move (Operand.tmp 1), 2, "law.go:75", #[], none⟩
def oA5_3_2 : Oper := ⟨some 30, Op.call { callee := Callee.value (Operand.func 19), args := #[Operand.const (Value.string { data := #[43] }), Operand.tmp 28, Operand.tmp 29], argTypes := #[9, 2, 2] }, 39, "law.go:75", #[ed_ 0, ed_ 1], none⟩
def oA5_3_3 : Oper := ⟨some 27, Op.move (Operand.tmp 30), 39, "law.go:75", #[ed_ 2], none⟩
def oA5_3_4 : Oper := ⟨some 31, Op.extract (Operand.tmp 27) 0, 2, "law.go:75", #[ed_ 3], none⟩
def oA5_3_5 : Oper := ⟨some 32, Op.extract (Operand.tmp 27) 1, 4, "law.go:75", #[ed_ 3, { on := 6, ground := Go.Ground.gcOnly Go.Departure.lateStores }], none⟩
def oA5_3_6 : Oper := ⟨some 5, Op.assign (Operand.tmp 31), 2, "law.go:75", #[ed_ 4, ec_ 2, ep_ 0, ep_ 1, ep_ 2, ep_ 3, ep_ 4, { on := 5, ground := Go.Ground.textOnly Go.Departure.lateStores }], none⟩
def oA5_3_7 : Oper := ⟨some 6, Op.assign (Operand.tmp 32), 4, "law.go:75", #[ed_ 5, ec_ 6, ep_ 0, ep_ 1, ep_ 2, ep_ 3, ep_ 4, ep_ 5, ep_ 6], none⟩
def OA5_3 : Array Oper := List.toArray (oA5_3_0 :: oA5_3_1 :: oA5_3_2 :: oA5_3_3 :: oA5_3_4 :: oA5_3_5 :: oA5_3_6 :: oA5_3_7 :: [])
theorem gA5_3_0 : OA5_3[0]? = some oA5_3_0 := rfl
theorem gA5_3_1 : OA5_3[1]? = some oA5_3_1 := rfl
theorem gA5_3_2 : OA5_3[2]? = some oA5_3_2 := rfl
theorem gA5_3_3 : OA5_3[3]? = some oA5_3_3 := rfl
theorem gA5_3_4 : OA5_3[4]? = some oA5_3_4 := rfl
theorem gA5_3_5 : OA5_3[5]? = some oA5_3_5 := rfl
theorem gA5_3_6 : OA5_3[6]? = some oA5_3_6 := rfl
theorem gA5_3_7 : OA5_3[7]? = some oA5_3_7 := rfl
def cA5_11 : Code := Code.region 3 OA5_3 false
def oA5_4_0 : Oper := ⟨some 33, Op.move (Operand.tmp 6), 4, "law.go:76", #[], none⟩
def OA5_4 : Array Oper := List.toArray (oA5_4_0 :: [])
theorem gA5_4_0 : OA5_4[0]? = some oA5_4_0 := rfl
def cA5_14 : Code := Code.region 4 OA5_4 false
def oA5_5_0 : Oper := ⟨some 35, Op.move (Operand.tmp 5), 2, "law.go:77", #[], none⟩
def oA5_5_1 : Oper := ⟨some 36, Op.move (Operand.tmp 1), 2, "law.go:77", #[], none⟩
def oA5_5_2 : Oper := ⟨some 37, Op.call { callee := Callee.value (Operand.func 19), args := #[Operand.const (Value.string { data := #[45] }), Operand.tmp 35, Operand.tmp 36], argTypes := #[9, 2, 2] }, 39, "law.go:77", #[ed_ 0, ed_ 1], none⟩
def oA5_5_3 : Oper := ⟨some 34, Op.move (Operand.tmp 37), 39, "law.go:77", #[ed_ 2], none⟩
def oA5_5_4 : Oper := ⟨some 38, Op.extract (Operand.tmp 34) 0, 2, "law.go:77", #[ed_ 3], none⟩
def oA5_5_5 : Oper := ⟨some 39, Op.extract (Operand.tmp 34) 1, 4, "law.go:77", #[ed_ 3, { on := 6, ground := Go.Ground.gcOnly Go.Departure.lateStores }], none⟩
def oA5_5_6 : Oper := ⟨some 7, Op.assign (Operand.tmp 38), 2, "law.go:77", #[ed_ 4, ec_ 2, ep_ 0, ep_ 1, ep_ 2, ep_ 3, ep_ 4, { on := 5, ground := Go.Ground.textOnly Go.Departure.lateStores }], none⟩
def oA5_5_7 : Oper := ⟨some 8, Op.assign (Operand.tmp 39), 4, "law.go:77", #[ed_ 5, ec_ 6, ep_ 0, ep_ 1, ep_ 2, ep_ 3, ep_ 4, ep_ 5, ep_ 6], none⟩
def OA5_5 : Array Oper := List.toArray (oA5_5_0 :: oA5_5_1 :: oA5_5_2 :: oA5_5_3 :: oA5_5_4 :: oA5_5_5 :: oA5_5_6 :: oA5_5_7 :: [])
theorem gA5_5_0 : OA5_5[0]? = some oA5_5_0 := rfl
theorem gA5_5_1 : OA5_5[1]? = some oA5_5_1 := rfl
theorem gA5_5_2 : OA5_5[2]? = some oA5_5_2 := rfl
theorem gA5_5_3 : OA5_5[3]? = some oA5_5_3 := rfl
theorem gA5_5_4 : OA5_5[4]? = some oA5_5_4 := rfl
theorem gA5_5_5 : OA5_5[5]? = some oA5_5_5 := rfl
theorem gA5_5_6 : OA5_5[6]? = some oA5_5_6 := rfl
theorem gA5_5_7 : OA5_5[7]? = some oA5_5_7 := rfl
def cA5_17 : Code := Code.region 5 OA5_5 false
def oA5_6_0 : Oper := ⟨some 40, Op.move (Operand.tmp 8), 4, "law.go:78", #[], none⟩
def oA5_6_1 : Oper := ⟨some 41, Op.unOp Go.UnOp.not 4 (Operand.tmp 40), 4, "law.go:78", #[ed_ 0], none⟩
def oA5_6_2 : Oper := ⟨some 42, Op.move (Operand.tmp 41), 4, "law.go:78", #[ed_ 1], none⟩
def oA5_6_3 : Oper := ⟨some 43, Op.move (Operand.tmp 7), 2, "law.go:78", #[eg_ 2], some (2, false)⟩
def oA5_6_4 : Oper := ⟨some 44, Op.move (Operand.tmp 0), 2, "law.go:78", #[eg_ 2], some (2, false)⟩
def oA5_6_5 : Oper := ⟨some 45, Op.binOp Go.BinOp.neq 2 (Operand.tmp 43) (Operand.tmp 44) 2, 4, "law.go:78", #[ed_ 3, ed_ 4, eg_ 2], some (2, false)⟩
def oA5_6_6 : Oper := ⟨some 46, Op.pick (Operand.tmp 42) (Operand.const (Value.bool true)) (Operand.tmp 45), 4, "law.go:78", #[ed_ 2, ed_ 5], none⟩
def OA5_6 : Array Oper := List.toArray (oA5_6_0 :: oA5_6_1 :: oA5_6_2 :: oA5_6_3 :: oA5_6_4 :: oA5_6_5 :: oA5_6_6 :: [])
theorem gA5_6_0 : OA5_6[0]? = some oA5_6_0 := rfl
theorem gA5_6_1 : OA5_6[1]? = some oA5_6_1 := rfl
theorem gA5_6_2 : OA5_6[2]? = some oA5_6_2 := rfl
theorem gA5_6_3 : OA5_6[3]? = some oA5_6_3 := rfl
theorem gA5_6_4 : OA5_6[4]? = some oA5_6_4 := rfl
theorem gA5_6_5 : OA5_6[5]? = some oA5_6_5 := rfl
theorem gA5_6_6 : OA5_6[6]? = some oA5_6_6 := rfl
def cA5_19 : Code := Code.region 6 OA5_6 false
def oA5_7_0 : Oper := ⟨some 4, Op.assign (Operand.const (Value.bool false)), 4, "law.go:79", #[], none⟩
def OA5_7 : Array Oper := List.toArray (oA5_7_0 :: [])
def cA5_22 : Code := Code.region 7 OA5_7 false
def cA5_21 : Code := Code.seq cA5_22 Code.ret
def cA5_20 : Code := Code.cond (Operand.tmp 46) cA5_21 Code.skip
def cA5_18 : Code := Code.seq cA5_19 cA5_20
def cA5_16 : Code := Code.seq cA5_17 cA5_18
def cA5_15 : Code := Code.cond (Operand.tmp 33) cA5_16 Code.skip
def cA5_13 : Code := Code.seq cA5_14 cA5_15
def oA5_8_0 : Oper := ⟨some 48, Op.move (Operand.tmp 0), 2, "law.go:82", #[], none⟩
def oA5_8_1 : Oper := ⟨some 49, Op.move (Operand.tmp 1), 2, "law.go:82", #[], none⟩
def oA5_8_2 : Oper := ⟨some 50, Op.call { callee := Callee.value (Operand.func 19), args := #[Operand.const (Value.string { data := #[42] }), Operand.tmp 48, Operand.tmp 49], argTypes := #[9, 2, 2] }, 39, "law.go:82", #[ed_ 0, ed_ 1], none⟩
def oA5_8_3 : Oper := ⟨some 47, Op.move (Operand.tmp 50), 39, "law.go:82", #[ed_ 2], none⟩
def oA5_8_4 : Oper := ⟨some 51, Op.extract (Operand.tmp 47) 0, 2, "law.go:82", #[ed_ 3], none⟩
def oA5_8_5 : Oper := ⟨some 52, Op.extract (Operand.tmp 47) 1, 4, "law.go:82", #[ed_ 3, { on := 6, ground := Go.Ground.gcOnly Go.Departure.lateStores }], none⟩
def oA5_8_6 : Oper := ⟨some 9, Op.assign (Operand.tmp 51), 2, "law.go:82", #[ed_ 4, ec_ 2, ep_ 0, ep_ 1, ep_ 2, ep_ 3, ep_ 4, { on := 5, ground := Go.Ground.textOnly Go.Departure.lateStores }], none⟩
def oA5_8_7 : Oper := ⟨some 6, Op.assign (Operand.tmp 52), 4, "law.go:82", #[ed_ 5, ec_ 6, ep_ 0, ep_ 1, ep_ 2, ep_ 3, ep_ 4, ep_ 5, ep_ 6], none⟩
def OA5_8 : Array Oper := List.toArray (oA5_8_0 :: oA5_8_1 :: oA5_8_2 :: oA5_8_3 :: oA5_8_4 :: oA5_8_5 :: oA5_8_6 :: oA5_8_7 :: [])
theorem gA5_8_0 : OA5_8[0]? = some oA5_8_0 := rfl
theorem gA5_8_1 : OA5_8[1]? = some oA5_8_1 := rfl
theorem gA5_8_2 : OA5_8[2]? = some oA5_8_2 := rfl
theorem gA5_8_3 : OA5_8[3]? = some oA5_8_3 := rfl
theorem gA5_8_4 : OA5_8[4]? = some oA5_8_4 := rfl
theorem gA5_8_5 : OA5_8[5]? = some oA5_8_5 := rfl
theorem gA5_8_6 : OA5_8[6]? = some oA5_8_6 := rfl
theorem gA5_8_7 : OA5_8[7]? = some oA5_8_7 := rfl
def cA5_27 : Code := Code.region 8 OA5_8 false
def oA5_9_0 : Oper := ⟨some 53, Op.move (Operand.tmp 6), 4, "law.go:83", #[], none⟩
def oA5_9_1 : Oper := ⟨some 54, Op.move (Operand.tmp 53), 4, "law.go:83", #[ed_ 0], none⟩
def oA5_9_2 : Oper := ⟨some 55, Op.move (Operand.tmp 1), 2, "law.go:83", #[eg_ 1], some (1, true)⟩
def oA5_9_3 : Oper := ⟨some 56, Op.binOp Go.BinOp.neq 2 (Operand.tmp 55) (Operand.const (Value.int IntKind.i64 0)) 2, 4, "law.go:83", #[ed_ 2, eg_ 1], some (1, true)⟩
def oA5_9_4 : Oper := ⟨some 57, Op.pick (Operand.tmp 54) (Operand.tmp 56) (Operand.const (Value.bool false)), 4, "law.go:83", #[ed_ 1, ed_ 3], none⟩
def OA5_9 : Array Oper := List.toArray (oA5_9_0 :: oA5_9_1 :: oA5_9_2 :: oA5_9_3 :: oA5_9_4 :: [])
theorem gA5_9_0 : OA5_9[0]? = some oA5_9_0 := rfl
theorem gA5_9_1 : OA5_9[1]? = some oA5_9_1 := rfl
theorem gA5_9_2 : OA5_9[2]? = some oA5_9_2 := rfl
theorem gA5_9_3 : OA5_9[3]? = some oA5_9_3 := rfl
theorem gA5_9_4 : OA5_9[4]? = some oA5_9_4 := rfl
def cA5_30 : Code := Code.region 9 OA5_9 false
def oA5_10_0 : Oper := ⟨some 59, Op.move (Operand.tmp 9), 2, "law.go:84", #[], none⟩
def oA5_10_1 : Oper := ⟨some 60, Op.move (Operand.tmp 1), 2, "law.go:84", #[], none⟩
def oA5_10_2 : Oper := ⟨some 61, Op.call { callee := Callee.value (Operand.func 19), args := #[Operand.const (Value.string { data := #[47, 47] }), Operand.tmp 59, Operand.tmp 60], argTypes := #[9, 2, 2] }, 39, "law.go:84", #[ed_ 0, ed_ 1], none⟩
def oA5_10_3 : Oper := ⟨some 58, Op.move (Operand.tmp 61), 39, "law.go:84", #[ed_ 2], none⟩
def oA5_10_4 : Oper := ⟨some 62, Op.extract (Operand.tmp 58) 0, 2, "law.go:84", #[ed_ 3], none⟩
def oA5_10_5 : Oper := ⟨some 63, Op.extract (Operand.tmp 58) 1, 4, "law.go:84", #[ed_ 3, { on := 6, ground := Go.Ground.gcOnly Go.Departure.lateStores }], none⟩
def oA5_10_6 : Oper := ⟨some 10, Op.assign (Operand.tmp 62), 2, "law.go:84", #[ed_ 4, ec_ 2, ep_ 0, ep_ 1, ep_ 2, ep_ 3, ep_ 4, { on := 5, ground := Go.Ground.textOnly Go.Departure.lateStores }], none⟩
def oA5_10_7 : Oper := ⟨some 11, Op.assign (Operand.tmp 63), 4, "law.go:84", #[ed_ 5, ec_ 6, ep_ 0, ep_ 1, ep_ 2, ep_ 3, ep_ 4, ep_ 5, ep_ 6], none⟩
def OA5_10 : Array Oper := List.toArray (oA5_10_0 :: oA5_10_1 :: oA5_10_2 :: oA5_10_3 :: oA5_10_4 :: oA5_10_5 :: oA5_10_6 :: oA5_10_7 :: [])
theorem gA5_10_0 : OA5_10[0]? = some oA5_10_0 := rfl
theorem gA5_10_1 : OA5_10[1]? = some oA5_10_1 := rfl
theorem gA5_10_2 : OA5_10[2]? = some oA5_10_2 := rfl
theorem gA5_10_3 : OA5_10[3]? = some oA5_10_3 := rfl
theorem gA5_10_4 : OA5_10[4]? = some oA5_10_4 := rfl
theorem gA5_10_5 : OA5_10[5]? = some oA5_10_5 := rfl
theorem gA5_10_6 : OA5_10[6]? = some oA5_10_6 := rfl
theorem gA5_10_7 : OA5_10[7]? = some oA5_10_7 := rfl
def cA5_33 : Code := Code.region 10 OA5_10 false
def oA5_11_0 : Oper := ⟨some 64, Op.move (Operand.tmp 11), 4, "law.go:85", #[], none⟩
def oA5_11_1 : Oper := ⟨some 65, Op.unOp Go.UnOp.not 4 (Operand.tmp 64), 4, "law.go:85", #[ed_ 0], none⟩
def oA5_11_2 : Oper := ⟨some 66, Op.move (Operand.tmp 65), 4, "law.go:85", #[ed_ 1], none⟩
def oA5_11_3 : Oper := ⟨some 67, Op.move (Operand.tmp 10), 2, "law.go:85", #[eg_ 2], some (2, false)⟩
def oA5_11_4 : Oper := ⟨some 68, Op.move (Operand.tmp 0), 2, "law.go:85", #[eg_ 2], some (2, false)⟩
def oA5_11_5 : Oper := ⟨some 69, Op.binOp Go.BinOp.neq 2 (Operand.tmp 67) (Operand.tmp 68) 2, 4, "law.go:85", #[ed_ 3, ed_ 4, eg_ 2], some (2, false)⟩
def oA5_11_6 : Oper := ⟨some 70, Op.pick (Operand.tmp 66) (Operand.const (Value.bool true)) (Operand.tmp 69), 4, "law.go:85", #[ed_ 2, ed_ 5], none⟩
def OA5_11 : Array Oper := List.toArray (oA5_11_0 :: oA5_11_1 :: oA5_11_2 :: oA5_11_3 :: oA5_11_4 :: oA5_11_5 :: oA5_11_6 :: [])
theorem gA5_11_0 : OA5_11[0]? = some oA5_11_0 := rfl
theorem gA5_11_1 : OA5_11[1]? = some oA5_11_1 := rfl
theorem gA5_11_2 : OA5_11[2]? = some oA5_11_2 := rfl
theorem gA5_11_3 : OA5_11[3]? = some oA5_11_3 := rfl
theorem gA5_11_4 : OA5_11[4]? = some oA5_11_4 := rfl
theorem gA5_11_5 : OA5_11[5]? = some oA5_11_5 := rfl
theorem gA5_11_6 : OA5_11[6]? = some oA5_11_6 := rfl
def cA5_35 : Code := Code.region 11 OA5_11 false
def oA5_12_0 : Oper := ⟨some 4, Op.assign (Operand.const (Value.bool false)), 4, "law.go:86", #[], none⟩
def OA5_12 : Array Oper := List.toArray (oA5_12_0 :: [])
def cA5_38 : Code := Code.region 12 OA5_12 false
def cA5_37 : Code := Code.seq cA5_38 Code.ret
def cA5_36 : Code := Code.cond (Operand.tmp 70) cA5_37 Code.skip
def cA5_34 : Code := Code.seq cA5_35 cA5_36
def cA5_32 : Code := Code.seq cA5_33 cA5_34
def cA5_31 : Code := Code.cond (Operand.tmp 57) cA5_32 Code.skip
def cA5_29 : Code := Code.seq cA5_30 cA5_31
def oA5_13_0 : Oper := ⟨some 72, Op.move (Operand.tmp 0), 2, "law.go:89", #[], none⟩
def oA5_13_1 : Oper := ⟨some 73, Op.move (Operand.tmp 1), 2, "law.go:89", #[], none⟩
def oA5_13_2 : Oper := ⟨some 74, Op.call { callee := Callee.value (Operand.func 19), args := #[Operand.const (Value.string { data := #[47, 47] }), Operand.tmp 72, Operand.tmp 73], argTypes := #[9, 2, 2] }, 39, "law.go:89", #[ed_ 0, ed_ 1], none⟩
def oA5_13_3 : Oper := ⟨some 71, Op.move (Operand.tmp 74), 39, "law.go:89", #[ed_ 2], none⟩
def oA5_13_4 : Oper := ⟨some 75, Op.extract (Operand.tmp 71) 0, 2, "law.go:89", #[ed_ 3], none⟩
def oA5_13_5 : Oper := ⟨some 76, Op.extract (Operand.tmp 71) 1, 4, "law.go:89", #[ed_ 3, { on := 6, ground := Go.Ground.gcOnly Go.Departure.lateStores }], none⟩
def oA5_13_6 : Oper := ⟨some 12, Op.assign (Operand.tmp 75), 2, "law.go:89", #[ed_ 4, ec_ 2, ep_ 0, ep_ 1, ep_ 2, ep_ 3, ep_ 4, { on := 5, ground := Go.Ground.textOnly Go.Departure.lateStores }], none⟩
def oA5_13_7 : Oper := ⟨some 6, Op.assign (Operand.tmp 76), 4, "law.go:89", #[ed_ 5, ec_ 6, ep_ 0, ep_ 1, ep_ 2, ep_ 3, ep_ 4, ep_ 5, ep_ 6], none⟩
def OA5_13 : Array Oper := List.toArray (oA5_13_0 :: oA5_13_1 :: oA5_13_2 :: oA5_13_3 :: oA5_13_4 :: oA5_13_5 :: oA5_13_6 :: oA5_13_7 :: [])
theorem gA5_13_0 : OA5_13[0]? = some oA5_13_0 := rfl
theorem gA5_13_1 : OA5_13[1]? = some oA5_13_1 := rfl
theorem gA5_13_2 : OA5_13[2]? = some oA5_13_2 := rfl
theorem gA5_13_3 : OA5_13[3]? = some oA5_13_3 := rfl
theorem gA5_13_4 : OA5_13[4]? = some oA5_13_4 := rfl
theorem gA5_13_5 : OA5_13[5]? = some oA5_13_5 := rfl
theorem gA5_13_6 : OA5_13[6]? = some oA5_13_6 := rfl
theorem gA5_13_7 : OA5_13[7]? = some oA5_13_7 := rfl
def cA5_43 : Code := Code.region 13 OA5_13 false
def oA5_14_0 : Oper := ⟨some 78, Op.move (Operand.tmp 0), 2, "law.go:90", #[], none⟩
def oA5_14_1 : Oper := ⟨some 79, Op.move (Operand.tmp 1), 2, "law.go:90", #[], none⟩
def oA5_14_2 : Oper := ⟨some 80, Op.call { callee := Callee.value (Operand.func 19), args := #[Operand.const (Value.string { data := #[114, 101, 109] }), Operand.tmp 78, Operand.tmp 79], argTypes := #[9, 2, 2] }, 39, "law.go:90", #[ed_ 0, ed_ 1], none⟩
def oA5_14_3 : Oper := ⟨some 77, Op.move (Operand.tmp 80), 39, "law.go:90", #[ed_ 2], none⟩
def oA5_14_4 : Oper := ⟨some 81, Op.extract (Operand.tmp 77) 0, 2, "law.go:90", #[ed_ 3], none⟩
def oA5_14_5 : Oper := ⟨some 82, Op.extract (Operand.tmp 77) 1, 4, "law.go:90", #[ed_ 3, { on := 6, ground := Go.Ground.gcOnly Go.Departure.lateStores }], none⟩
def oA5_14_6 : Oper := ⟨some 13, Op.assign (Operand.tmp 81), 2, "law.go:90", #[ed_ 4, ec_ 2, ep_ 0, ep_ 1, ep_ 2, ep_ 3, ep_ 4, { on := 5, ground := Go.Ground.textOnly Go.Departure.lateStores }], none⟩
def oA5_14_7 : Oper := ⟨some 14, Op.assign (Operand.tmp 82), 4, "law.go:90", #[ed_ 5, ec_ 6, ep_ 0, ep_ 1, ep_ 2, ep_ 3, ep_ 4, ep_ 5, ep_ 6], none⟩
def OA5_14 : Array Oper := List.toArray (oA5_14_0 :: oA5_14_1 :: oA5_14_2 :: oA5_14_3 :: oA5_14_4 :: oA5_14_5 :: oA5_14_6 :: oA5_14_7 :: [])
theorem gA5_14_0 : OA5_14[0]? = some oA5_14_0 := rfl
theorem gA5_14_1 : OA5_14[1]? = some oA5_14_1 := rfl
theorem gA5_14_2 : OA5_14[2]? = some oA5_14_2 := rfl
theorem gA5_14_3 : OA5_14[3]? = some oA5_14_3 := rfl
theorem gA5_14_4 : OA5_14[4]? = some oA5_14_4 := rfl
theorem gA5_14_5 : OA5_14[5]? = some oA5_14_5 := rfl
theorem gA5_14_6 : OA5_14[6]? = some oA5_14_6 := rfl
theorem gA5_14_7 : OA5_14[7]? = some oA5_14_7 := rfl
def cA5_45 : Code := Code.region 14 OA5_14 false
def oA5_15_0 : Oper := ⟨some 84, Op.move (Operand.tmp 0), 2, "law.go:91", #[], none⟩
def oA5_15_1 : Oper := ⟨some 85, Op.move (Operand.tmp 1), 2, "law.go:91", #[], none⟩
def oA5_15_2 : Oper := ⟨some 86, Op.call { callee := Callee.value (Operand.func 19), args := #[Operand.const (Value.string { data := #[109, 111, 100] }), Operand.tmp 84, Operand.tmp 85], argTypes := #[9, 2, 2] }, 39, "law.go:91", #[ed_ 0, ed_ 1], none⟩
def oA5_15_3 : Oper := ⟨some 83, Op.move (Operand.tmp 86), 39, "law.go:91", #[ed_ 2], none⟩
def oA5_15_4 : Oper := ⟨some 87, Op.extract (Operand.tmp 83) 0, 2, "law.go:91", #[ed_ 3], none⟩
def oA5_15_5 : Oper := ⟨some 88, Op.extract (Operand.tmp 83) 1, 4, "law.go:91", #[ed_ 3, { on := 6, ground := Go.Ground.gcOnly Go.Departure.lateStores }], none⟩
def oA5_15_6 : Oper := ⟨some 15, Op.assign (Operand.tmp 87), 2, "law.go:91", #[ed_ 4, ec_ 2, ep_ 0, ep_ 1, ep_ 2, ep_ 3, ep_ 4, { on := 5, ground := Go.Ground.textOnly Go.Departure.lateStores }], none⟩
def oA5_15_7 : Oper := ⟨some 16, Op.assign (Operand.tmp 88), 4, "law.go:91", #[ed_ 5, ec_ 6, ep_ 0, ep_ 1, ep_ 2, ep_ 3, ep_ 4, ep_ 5, ep_ 6], none⟩
def OA5_15 : Array Oper := List.toArray (oA5_15_0 :: oA5_15_1 :: oA5_15_2 :: oA5_15_3 :: oA5_15_4 :: oA5_15_5 :: oA5_15_6 :: oA5_15_7 :: [])
theorem gA5_15_0 : OA5_15[0]? = some oA5_15_0 := rfl
theorem gA5_15_1 : OA5_15[1]? = some oA5_15_1 := rfl
theorem gA5_15_2 : OA5_15[2]? = some oA5_15_2 := rfl
theorem gA5_15_3 : OA5_15[3]? = some oA5_15_3 := rfl
theorem gA5_15_4 : OA5_15[4]? = some oA5_15_4 := rfl
theorem gA5_15_5 : OA5_15[5]? = some oA5_15_5 := rfl
theorem gA5_15_6 : OA5_15[6]? = some oA5_15_6 := rfl
theorem gA5_15_7 : OA5_15[7]? = some oA5_15_7 := rfl
def cA5_47 : Code := Code.region 15 OA5_15 false
def oA5_16_0 : Oper := ⟨some 89, Op.move (Operand.tmp 1), 2, "law.go:92", #[], none⟩
def oA5_16_1 : Oper := ⟨some 90, Op.binOp Go.BinOp.neq 2 (Operand.tmp 89) (Operand.const (Value.int IntKind.i64 0)) 2, 4, "law.go:92", #[ed_ 0], none⟩
def oA5_16_2 : Oper := ⟨some 91, Op.move (Operand.tmp 90), 4, "law.go:92", #[ed_ 1], none⟩
def oA5_16_3 : Oper := ⟨some 92, Op.move (Operand.tmp 14), 4, "law.go:92", #[eg_ 2], some (2, true)⟩
def oA5_16_4 : Oper := ⟨some 93, Op.unOp Go.UnOp.not 4 (Operand.tmp 92), 4, "law.go:92", #[ed_ 3, eg_ 2], some (2, true)⟩
def oA5_16_5 : Oper := ⟨some 94, Op.move (Operand.tmp 93), 4, "law.go:92", #[ed_ 4, ec_ 2, eg_ 2], some (2, true)⟩
def oA5_16_6 : Oper := ⟨some 95, Op.move (Operand.tmp 16), 4, "law.go:92", #[eg_ 5], some (5, false)⟩
def oA5_16_7 : Oper := ⟨some 96, Op.unOp Go.UnOp.not 4 (Operand.tmp 95), 4, "law.go:92", #[ed_ 6, eg_ 5], some (5, false)⟩
def oA5_16_8 : Oper := ⟨some 97, Op.pick (Operand.tmp 94) (Operand.const (Value.bool true)) (Operand.tmp 96), 4, "law.go:92", #[ed_ 5, ed_ 7, eg_ 2], some (2, true)⟩
def oA5_16_9 : Oper := ⟨some 98, Op.move (Operand.tmp 97), 4, "law.go:92", #[ed_ 8, ec_ 5, eg_ 2], some (2, true)⟩
def oA5_16_10 : Oper := ⟨some 99, Op.move (Operand.tmp 6), 4, "law.go:92", #[eg_ 9], some (9, false)⟩
def oA5_16_11 : Oper := ⟨some 100, Op.unOp Go.UnOp.not 4 (Operand.tmp 99), 4, "law.go:92", #[ed_ 10, eg_ 9], some (9, false)⟩
def oA5_16_12 : Oper := ⟨some 101, Op.move (Operand.tmp 100), 4, "law.go:92", #[ed_ 11, ec_ 9, eg_ 9], some (9, false)⟩
def oA5_16_13 : Oper := ⟨some 102, Op.move (Operand.tmp 1), 2, "law.go:92", #[eg_ 12], some (12, true)⟩
def oA5_16_14 : Oper := ⟨some 103, Op.binOp Go.BinOp.neq 2 (Operand.tmp 102) (Operand.const (Value.int IntKind.i64 (-1))) 2, 4, "law.go:92", #[ed_ 13, eg_ 12], some (12, true)⟩
def oA5_16_15 : Oper := ⟨some 104, Op.move (Operand.tmp 103), 4, "law.go:92", #[ed_ 14, ec_ 12, eg_ 12], some (12, true)⟩
def oA5_16_16 : Oper := ⟨some 105, Op.move (Operand.tmp 0), 2, "law.go:92", #[eg_ 15], some (15, false)⟩
def oA5_16_17 : Oper := ⟨some 106, Op.binOp Go.BinOp.neq 2 (Operand.tmp 105) (Operand.const (Value.int IntKind.i64 (-9223372036854775808))) 2, 4, "law.go:92", #[ed_ 16, eg_ 15], some (15, false)⟩
def oA5_16_18 : Oper := ⟨some 107, Op.pick (Operand.tmp 104) (Operand.const (Value.bool true)) (Operand.tmp 106), 4, "law.go:92", #[ed_ 15, ed_ 17, eg_ 12], some (12, true)⟩
def oA5_16_19 : Oper := ⟨some 108, Op.pick (Operand.tmp 101) (Operand.tmp 107) (Operand.const (Value.bool false)), 4, "law.go:92", #[ed_ 12, ed_ 18, eg_ 9], some (9, false)⟩
def oA5_16_20 : Oper := ⟨some 109, Op.pick (Operand.tmp 98) (Operand.const (Value.bool true)) (Operand.tmp 108), 4, "law.go:92", #[ed_ 9, ed_ 19, eg_ 2], some (2, true)⟩
def oA5_16_21 : Oper := ⟨some 110, Op.pick (Operand.tmp 91) (Operand.tmp 109) (Operand.const (Value.bool false)), 4, "law.go:92", #[ed_ 2, ed_ 20], none⟩
def oA5_16_22 : Oper := ⟨some 111, Op.move (Operand.tmp 110), 4, "law.go:92", #[ed_ 21, ec_ 15], none⟩
def oA5_16_23 : Oper := ⟨some 112, Op.move (Operand.tmp 1), 2, "law.go:92", #[eg_ 22], some (22, false)⟩
def oA5_16_24 : Oper := ⟨some 113, Op.binOp Go.BinOp.eql 2 (Operand.tmp 112) (Operand.const (Value.int IntKind.i64 0)) 2, 4, "law.go:92", #[ed_ 23, eg_ 22], some (22, false)⟩
def oA5_16_25 : Oper := ⟨some 114, Op.move (Operand.tmp 113), 4, "law.go:92", #[ed_ 24, ec_ 22, eg_ 22], some (22, false)⟩
def oA5_16_26 : Oper := ⟨some 115, Op.move (Operand.tmp 6), 4, "law.go:92", #[eg_ 25], some (25, true)⟩
def oA5_16_27 : Oper := ⟨some 116, Op.move (Operand.tmp 115), 4, "law.go:92", #[ed_ 26, ec_ 25, eg_ 25], some (25, true)⟩
def oA5_16_28 : Oper := ⟨some 117, Op.move (Operand.tmp 14), 4, "law.go:92", #[eg_ 27], some (27, false)⟩
def oA5_16_29 : Oper := ⟨some 118, Op.pick (Operand.tmp 116) (Operand.const (Value.bool true)) (Operand.tmp 117), 4, "law.go:92", #[ed_ 27, ed_ 28, eg_ 25], some (25, true)⟩
def oA5_16_30 : Oper := ⟨some 119, Op.move (Operand.tmp 118), 4, "law.go:92", #[ed_ 29, ec_ 27, eg_ 25], some (25, true)⟩
def oA5_16_31 : Oper := ⟨some 120, Op.move (Operand.tmp 16), 4, "law.go:92", #[eg_ 30], some (30, false)⟩
def oA5_16_32 : Oper := ⟨some 121, Op.pick (Operand.tmp 119) (Operand.const (Value.bool true)) (Operand.tmp 120), 4, "law.go:92", #[ed_ 30, ed_ 31, eg_ 25], some (25, true)⟩
def oA5_16_33 : Oper := ⟨some 122, Op.pick (Operand.tmp 114) (Operand.tmp 121) (Operand.const (Value.bool false)), 4, "law.go:92", #[ed_ 25, ed_ 32, eg_ 22], some (22, false)⟩
def oA5_16_34 : Oper := ⟨some 123, Op.pick (Operand.tmp 111) (Operand.const (Value.bool true)) (Operand.tmp 122), 4, "law.go:92", #[ed_ 22, ed_ 33], none⟩
def OA5_16 : Array Oper := List.toArray (oA5_16_0 :: oA5_16_1 :: oA5_16_2 :: oA5_16_3 :: oA5_16_4 :: oA5_16_5 :: oA5_16_6 :: oA5_16_7 :: oA5_16_8 :: oA5_16_9 :: oA5_16_10 :: oA5_16_11 :: oA5_16_12 :: oA5_16_13 :: oA5_16_14 :: oA5_16_15 :: oA5_16_16 :: oA5_16_17 :: oA5_16_18 :: oA5_16_19 :: oA5_16_20 :: oA5_16_21 :: oA5_16_22 :: oA5_16_23 :: oA5_16_24 :: oA5_16_25 :: oA5_16_26 :: oA5_16_27 :: oA5_16_28 :: oA5_16_29 :: oA5_16_30 :: oA5_16_31 :: oA5_16_32 :: oA5_16_33 :: oA5_16_34 :: [])
theorem gA5_16_0 : OA5_16[0]? = some oA5_16_0 := rfl
theorem gA5_16_1 : OA5_16[1]? = some oA5_16_1 := rfl
theorem gA5_16_2 : OA5_16[2]? = some oA5_16_2 := rfl
theorem gA5_16_3 : OA5_16[3]? = some oA5_16_3 := rfl
theorem gA5_16_4 : OA5_16[4]? = some oA5_16_4 := rfl
theorem gA5_16_5 : OA5_16[5]? = some oA5_16_5 := rfl
theorem gA5_16_6 : OA5_16[6]? = some oA5_16_6 := rfl
theorem gA5_16_7 : OA5_16[7]? = some oA5_16_7 := rfl
theorem gA5_16_8 : OA5_16[8]? = some oA5_16_8 := rfl
theorem gA5_16_9 : OA5_16[9]? = some oA5_16_9 := rfl
theorem gA5_16_10 : OA5_16[10]? = some oA5_16_10 := rfl
theorem gA5_16_11 : OA5_16[11]? = some oA5_16_11 := rfl
theorem gA5_16_12 : OA5_16[12]? = some oA5_16_12 := rfl
theorem gA5_16_13 : OA5_16[13]? = some oA5_16_13 := rfl
theorem gA5_16_14 : OA5_16[14]? = some oA5_16_14 := rfl
theorem gA5_16_15 : OA5_16[15]? = some oA5_16_15 := rfl
theorem gA5_16_16 : OA5_16[16]? = some oA5_16_16 := rfl
theorem gA5_16_17 : OA5_16[17]? = some oA5_16_17 := rfl
theorem gA5_16_18 : OA5_16[18]? = some oA5_16_18 := rfl
theorem gA5_16_19 : OA5_16[19]? = some oA5_16_19 := rfl
theorem gA5_16_20 : OA5_16[20]? = some oA5_16_20 := rfl
theorem gA5_16_21 : OA5_16[21]? = some oA5_16_21 := rfl
theorem gA5_16_22 : OA5_16[22]? = some oA5_16_22 := rfl
theorem gA5_16_23 : OA5_16[23]? = some oA5_16_23 := rfl
theorem gA5_16_24 : OA5_16[24]? = some oA5_16_24 := rfl
theorem gA5_16_25 : OA5_16[25]? = some oA5_16_25 := rfl
theorem gA5_16_26 : OA5_16[26]? = some oA5_16_26 := rfl
theorem gA5_16_27 : OA5_16[27]? = some oA5_16_27 := rfl
theorem gA5_16_28 : OA5_16[28]? = some oA5_16_28 := rfl
theorem gA5_16_29 : OA5_16[29]? = some oA5_16_29 := rfl
theorem gA5_16_30 : OA5_16[30]? = some oA5_16_30 := rfl
theorem gA5_16_31 : OA5_16[31]? = some oA5_16_31 := rfl
theorem gA5_16_32 : OA5_16[32]? = some oA5_16_32 := rfl
theorem gA5_16_33 : OA5_16[33]? = some oA5_16_33 := rfl
theorem gA5_16_34 : OA5_16[34]? = some oA5_16_34 := rfl
def cA5_50 : Code := Code.region 16 OA5_16 false
def oA5_17_0 : Oper := ⟨some 4, Op.assign (Operand.const (Value.bool false)), 4, "law.go:93", #[], none⟩
def OA5_17 : Array Oper := List.toArray (oA5_17_0 :: [])
theorem gA5_17_0 : OA5_17[0]? = some oA5_17_0 := rfl
def cA5_53 : Code := Code.region 17 OA5_17 false
def cA5_52 : Code := Code.seq cA5_53 Code.ret
def cA5_51 : Code := Code.cond (Operand.tmp 123) cA5_52 Code.skip
def cA5_49 : Code := Code.seq cA5_50 cA5_51
def oA5_18_0 : Oper := ⟨some 124, Op.move (Operand.tmp 6), 4, "law.go:95", #[], none⟩
def oA5_18_1 : Oper := ⟨some 125, Op.move (Operand.tmp 124), 4, "law.go:95", #[ed_ 0], none⟩
def oA5_18_2 : Oper := ⟨some 126, Op.move (Operand.tmp 12), 2, "law.go:95", #[eg_ 1], some (1, true)⟩
def oA5_18_3 : Oper := ⟨some 127, Op.move (Operand.tmp 1), 2, "law.go:95", #[eg_ 1], some (1, true)⟩
def oA5_18_4 : Oper := ⟨some 128, Op.binOp Go.BinOp.mul 2 (Operand.tmp 126) (Operand.tmp 127) 2, 2, "law.go:95", #[ed_ 2, ed_ 3, eg_ 1], some (1, true)⟩
def oA5_18_5 : Oper := ⟨some 129, Op.move (Operand.tmp 13), 2, "law.go:95", #[eg_ 1], some (1, true)⟩
def oA5_18_6 : Oper := ⟨some 130, Op.binOp Go.BinOp.add 2 (Operand.tmp 128) (Operand.tmp 129) 2, 2, "law.go:95", #[ed_ 4, ed_ 5, eg_ 1], some (1, true)⟩
def oA5_18_7 : Oper := ⟨some 131, Op.move (Operand.tmp 0), 2, "law.go:95", #[eg_ 1], some (1, true)⟩
def oA5_18_8 : Oper := ⟨some 132, Op.binOp Go.BinOp.neq 2 (Operand.tmp 130) (Operand.tmp 131) 2, 4, "law.go:95", #[ed_ 6, ed_ 7, eg_ 1], some (1, true)⟩
def oA5_18_9 : Oper := ⟨some 133, Op.move (Operand.tmp 132), 4, "law.go:95", #[ed_ 8, ec_ 1, eg_ 1], some (1, true)⟩
def oA5_18_10 : Oper := ⟨some 134, Op.move (Operand.tmp 15), 2, "law.go:95", #[eg_ 9], some (9, false)⟩
def oA5_18_11 : Oper := ⟨some 135, Op.move (Operand.tmp 13), 2, "law.go:95", #[eg_ 9], some (9, false)⟩
def oA5_18_12 : Oper := ⟨some 136, Op.binOp Go.BinOp.neq 2 (Operand.tmp 134) (Operand.tmp 135) 2, 4, "law.go:95", #[ed_ 10, ed_ 11, eg_ 9], some (9, false)⟩
def oA5_18_13 : Oper := ⟨some 137, Op.move (Operand.tmp 136), 4, "law.go:95", #[ed_ 12, ec_ 9, eg_ 9], some (9, false)⟩
def oA5_18_14 : Oper := ⟨some 138, Op.move (Operand.tmp 15), 2, "law.go:95", #[eg_ 13], some (13, true)⟩
def oA5_18_15 : Oper := ⟨some 139, Op.move (Operand.tmp 13), 2, "law.go:95", #[eg_ 13], some (13, true)⟩
def oA5_18_16 : Oper := ⟨some 140, Op.move (Operand.tmp 1), 2, "law.go:95", #[eg_ 13], some (13, true)⟩
def oA5_18_17 : Oper := ⟨some 141, Op.binOp Go.BinOp.add 2 (Operand.tmp 139) (Operand.tmp 140) 2, 2, "law.go:95", #[ed_ 15, ed_ 16, eg_ 13], some (13, true)⟩
def oA5_18_18 : Oper := ⟨some 142, Op.binOp Go.BinOp.neq 2 (Operand.tmp 138) (Operand.tmp 141) 2, 4, "law.go:95", #[ed_ 14, ed_ 17, eg_ 13], some (13, true)⟩
def oA5_18_19 : Oper := ⟨some 143, Op.pick (Operand.tmp 137) (Operand.tmp 142) (Operand.const (Value.bool false)), 4, "law.go:95", #[ed_ 13, ed_ 18, eg_ 9], some (9, false)⟩
def oA5_18_20 : Oper := ⟨some 144, Op.pick (Operand.tmp 133) (Operand.const (Value.bool true)) (Operand.tmp 143), 4, "law.go:95", #[ed_ 9, ed_ 19, eg_ 1], some (1, true)⟩
def oA5_18_21 : Oper := ⟨some 145, Op.move (Operand.tmp 144), 4, "law.go:95", #[ed_ 20, ec_ 13, eg_ 1], some (1, true)⟩
def oA5_18_22 : Oper := ⟨some 146, Op.move (Operand.tmp 15), 2, "law.go:95", #[eg_ 21], some (21, false)⟩
def oA5_18_23 : Oper := ⟨some 147, Op.binOp Go.BinOp.neq 2 (Operand.tmp 146) (Operand.const (Value.int IntKind.i64 0)) 2, 4, "law.go:95", #[ed_ 22, eg_ 21], some (21, false)⟩
def oA5_18_24 : Oper := ⟨some 148, Op.move (Operand.tmp 147), 4, "law.go:95", #[ed_ 23, ec_ 21, eg_ 21], some (21, false)⟩
def oA5_18_25 : Oper := ⟨some 149, Op.move (Operand.tmp 15), 2, "law.go:95", #[eg_ 24], some (24, true)⟩
def oA5_18_26 : Oper := ⟨some 150, Op.binOp Go.BinOp.lss 2 (Operand.tmp 149) (Operand.const (Value.int IntKind.i64 0)) 2, 4, "law.go:95", #[ed_ 25, eg_ 24], some (24, true)⟩
def oA5_18_27 : Oper := ⟨some 151, Op.move (Operand.tmp 1), 2, "law.go:95", #[eg_ 24], some (24, true)⟩
def oA5_18_28 : Oper := ⟨some 152, Op.binOp Go.BinOp.lss 2 (Operand.tmp 151) (Operand.const (Value.int IntKind.i64 0)) 2, 4, "law.go:95", #[ed_ 27, eg_ 24], some (24, true)⟩
def oA5_18_29 : Oper := ⟨some 153, Op.binOp Go.BinOp.neq 4 (Operand.tmp 150) (Operand.tmp 152) 4, 4, "law.go:95", #[ed_ 26, ed_ 28, eg_ 24], some (24, true)⟩
def oA5_18_30 : Oper := ⟨some 154, Op.pick (Operand.tmp 148) (Operand.tmp 153) (Operand.const (Value.bool false)), 4, "law.go:95", #[ed_ 24, ed_ 29, eg_ 21], some (21, false)⟩
def oA5_18_31 : Oper := ⟨some 155, Op.pick (Operand.tmp 145) (Operand.const (Value.bool true)) (Operand.tmp 154), 4, "law.go:95", #[ed_ 21, ed_ 30, eg_ 1], some (1, true)⟩
def oA5_18_32 : Oper := ⟨some 156, Op.pick (Operand.tmp 125) (Operand.tmp 155) (Operand.const (Value.bool false)), 4, "law.go:95", #[ed_ 1, ed_ 31], none⟩
def OA5_18 : Array Oper := List.toArray (oA5_18_0 :: oA5_18_1 :: oA5_18_2 :: oA5_18_3 :: oA5_18_4 :: oA5_18_5 :: oA5_18_6 :: oA5_18_7 :: oA5_18_8 :: oA5_18_9 :: oA5_18_10 :: oA5_18_11 :: oA5_18_12 :: oA5_18_13 :: oA5_18_14 :: oA5_18_15 :: oA5_18_16 :: oA5_18_17 :: oA5_18_18 :: oA5_18_19 :: oA5_18_20 :: oA5_18_21 :: oA5_18_22 :: oA5_18_23 :: oA5_18_24 :: oA5_18_25 :: oA5_18_26 :: oA5_18_27 :: oA5_18_28 :: oA5_18_29 :: oA5_18_30 :: oA5_18_31 :: oA5_18_32 :: [])
theorem gA5_18_0 : OA5_18[0]? = some oA5_18_0 := rfl
theorem gA5_18_1 : OA5_18[1]? = some oA5_18_1 := rfl
theorem gA5_18_2 : OA5_18[2]? = some oA5_18_2 := rfl
theorem gA5_18_3 : OA5_18[3]? = some oA5_18_3 := rfl
theorem gA5_18_4 : OA5_18[4]? = some oA5_18_4 := rfl
theorem gA5_18_5 : OA5_18[5]? = some oA5_18_5 := rfl
theorem gA5_18_6 : OA5_18[6]? = some oA5_18_6 := rfl
theorem gA5_18_7 : OA5_18[7]? = some oA5_18_7 := rfl
theorem gA5_18_8 : OA5_18[8]? = some oA5_18_8 := rfl
theorem gA5_18_9 : OA5_18[9]? = some oA5_18_9 := rfl
theorem gA5_18_10 : OA5_18[10]? = some oA5_18_10 := rfl
theorem gA5_18_11 : OA5_18[11]? = some oA5_18_11 := rfl
theorem gA5_18_12 : OA5_18[12]? = some oA5_18_12 := rfl
theorem gA5_18_13 : OA5_18[13]? = some oA5_18_13 := rfl
theorem gA5_18_14 : OA5_18[14]? = some oA5_18_14 := rfl
theorem gA5_18_15 : OA5_18[15]? = some oA5_18_15 := rfl
theorem gA5_18_16 : OA5_18[16]? = some oA5_18_16 := rfl
theorem gA5_18_17 : OA5_18[17]? = some oA5_18_17 := rfl
theorem gA5_18_18 : OA5_18[18]? = some oA5_18_18 := rfl
theorem gA5_18_19 : OA5_18[19]? = some oA5_18_19 := rfl
theorem gA5_18_20 : OA5_18[20]? = some oA5_18_20 := rfl
theorem gA5_18_21 : OA5_18[21]? = some oA5_18_21 := rfl
theorem gA5_18_22 : OA5_18[22]? = some oA5_18_22 := rfl
theorem gA5_18_23 : OA5_18[23]? = some oA5_18_23 := rfl
theorem gA5_18_24 : OA5_18[24]? = some oA5_18_24 := rfl
theorem gA5_18_25 : OA5_18[25]? = some oA5_18_25 := rfl
theorem gA5_18_26 : OA5_18[26]? = some oA5_18_26 := rfl
theorem gA5_18_27 : OA5_18[27]? = some oA5_18_27 := rfl
theorem gA5_18_28 : OA5_18[28]? = some oA5_18_28 := rfl
theorem gA5_18_29 : OA5_18[29]? = some oA5_18_29 := rfl
theorem gA5_18_30 : OA5_18[30]? = some oA5_18_30 := rfl
theorem gA5_18_31 : OA5_18[31]? = some oA5_18_31 := rfl
theorem gA5_18_32 : OA5_18[32]? = some oA5_18_32 := rfl
def cA5_58 : Code := Code.region 18 OA5_18 false
def oA5_19_0 : Oper := ⟨some 4, Op.assign (Operand.const (Value.bool false)), 4, "law.go:96", #[], none⟩
def OA5_19 : Array Oper := List.toArray (oA5_19_0 :: [])
theorem gA5_19_0 : OA5_19[0]? = some oA5_19_0 := rfl
def cA5_61 : Code := Code.region 19 OA5_19 false
def cA5_60 : Code := Code.seq cA5_61 Code.ret
def cA5_59 : Code := Code.cond (Operand.tmp 156) cA5_60 Code.skip
def cA5_57 : Code := Code.seq cA5_58 cA5_59
def oA5_20_0 : Oper := ⟨some 158, Op.move (Operand.tmp 0), 2, "law.go:98", #[], none⟩
def oA5_20_1 : Oper := ⟨some 159, Op.move (Operand.tmp 1), 2, "law.go:98", #[], none⟩
def oA5_20_2 : Oper := ⟨some 160, Op.call { callee := Callee.value (Operand.func 17), args := #[Operand.const (Value.string { data := #[60] }), Operand.tmp 158, Operand.tmp 159], argTypes := #[9, 2, 2] }, 36, "law.go:98", #[ed_ 0, ed_ 1], none⟩
def oA5_20_3 : Oper := ⟨some 157, Op.move (Operand.tmp 160), 36, "law.go:98", #[ed_ 2], none⟩
def oA5_20_4 : Oper := ⟨some 161, Op.extract (Operand.tmp 157) 0, 4, "law.go:98", #[ed_ 3], none⟩
def oA5_20_5 : Oper := ⟨some 162, Op.extract (Operand.tmp 157) 1, 4, "law.go:98", #[ed_ 3, { on := 6, ground := Go.Ground.gcOnly Go.Departure.lateStores }], none⟩
def oA5_20_6 : Oper := ⟨some 17, Op.assign (Operand.tmp 161), 4, "law.go:98", #[ed_ 4, ec_ 2, ep_ 0, ep_ 1, ep_ 2, ep_ 3, ep_ 4, { on := 5, ground := Go.Ground.textOnly Go.Departure.lateStores }], none⟩
def oA5_20_7 : Oper := ⟨some 18, Op.assign (Operand.tmp 162), 4, "law.go:98", #[ed_ 5, ec_ 6, ep_ 0, ep_ 1, ep_ 2, ep_ 3, ep_ 4, ep_ 5, ep_ 6], none⟩
def OA5_20 : Array Oper := List.toArray (oA5_20_0 :: oA5_20_1 :: oA5_20_2 :: oA5_20_3 :: oA5_20_4 :: oA5_20_5 :: oA5_20_6 :: oA5_20_7 :: [])
theorem gA5_20_0 : OA5_20[0]? = some oA5_20_0 := rfl
theorem gA5_20_1 : OA5_20[1]? = some oA5_20_1 := rfl
theorem gA5_20_2 : OA5_20[2]? = some oA5_20_2 := rfl
theorem gA5_20_3 : OA5_20[3]? = some oA5_20_3 := rfl
theorem gA5_20_4 : OA5_20[4]? = some oA5_20_4 := rfl
theorem gA5_20_5 : OA5_20[5]? = some oA5_20_5 := rfl
theorem gA5_20_6 : OA5_20[6]? = some oA5_20_6 := rfl
theorem gA5_20_7 : OA5_20[7]? = some oA5_20_7 := rfl
def cA5_65 : Code := Code.region 20 OA5_20 false
def oA5_21_0 : Oper := ⟨some 164, Op.move (Operand.tmp 0), 2, "law.go:99", #[], none⟩
def oA5_21_1 : Oper := ⟨some 165, Op.move (Operand.tmp 1), 2, "law.go:99", #[], none⟩
def oA5_21_2 : Oper := ⟨some 166, Op.call { callee := Callee.value (Operand.func 17), args := #[Operand.const (Value.string { data := #[62, 61] }), Operand.tmp 164, Operand.tmp 165], argTypes := #[9, 2, 2] }, 36, "law.go:99", #[ed_ 0, ed_ 1], none⟩
def oA5_21_3 : Oper := ⟨some 163, Op.move (Operand.tmp 166), 36, "law.go:99", #[ed_ 2], none⟩
def oA5_21_4 : Oper := ⟨some 167, Op.extract (Operand.tmp 163) 0, 4, "law.go:99", #[ed_ 3], none⟩
def oA5_21_5 : Oper := ⟨some 168, Op.extract (Operand.tmp 163) 1, 4, "law.go:99", #[ed_ 3, { on := 6, ground := Go.Ground.gcOnly Go.Departure.lateStores }], none⟩
def oA5_21_6 : Oper := ⟨some 19, Op.assign (Operand.tmp 167), 4, "law.go:99", #[ed_ 4, ec_ 2, ep_ 0, ep_ 1, ep_ 2, ep_ 3, ep_ 4, { on := 5, ground := Go.Ground.textOnly Go.Departure.lateStores }], none⟩
def oA5_21_7 : Oper := ⟨some 20, Op.assign (Operand.tmp 168), 4, "law.go:99", #[ed_ 5, ec_ 6, ep_ 0, ep_ 1, ep_ 2, ep_ 3, ep_ 4, ep_ 5, ep_ 6], none⟩
def OA5_21 : Array Oper := List.toArray (oA5_21_0 :: oA5_21_1 :: oA5_21_2 :: oA5_21_3 :: oA5_21_4 :: oA5_21_5 :: oA5_21_6 :: oA5_21_7 :: [])
theorem gA5_21_0 : OA5_21[0]? = some oA5_21_0 := rfl
theorem gA5_21_1 : OA5_21[1]? = some oA5_21_1 := rfl
theorem gA5_21_2 : OA5_21[2]? = some oA5_21_2 := rfl
theorem gA5_21_3 : OA5_21[3]? = some oA5_21_3 := rfl
theorem gA5_21_4 : OA5_21[4]? = some oA5_21_4 := rfl
theorem gA5_21_5 : OA5_21[5]? = some oA5_21_5 := rfl
theorem gA5_21_6 : OA5_21[6]? = some oA5_21_6 := rfl
theorem gA5_21_7 : OA5_21[7]? = some oA5_21_7 := rfl
def cA5_67 : Code := Code.region 21 OA5_21 false
def oA5_22_0 : Oper := ⟨some 170, Op.move (Operand.tmp 0), 2, "law.go:100", #[], none⟩
def oA5_22_1 : Oper := ⟨some 171, Op.move (Operand.tmp 1), 2, "law.go:100", #[], none⟩
def oA5_22_2 : Oper := ⟨some 172, Op.call { callee := Callee.value (Operand.func 17), args := #[Operand.const (Value.string { data := #[61, 58, 61] }), Operand.tmp 170, Operand.tmp 171], argTypes := #[9, 2, 2] }, 36, "law.go:100", #[ed_ 0, ed_ 1], none⟩
def oA5_22_3 : Oper := ⟨some 169, Op.move (Operand.tmp 172), 36, "law.go:100", #[ed_ 2], none⟩
def oA5_22_4 : Oper := ⟨some 173, Op.extract (Operand.tmp 169) 0, 4, "law.go:100", #[ed_ 3], none⟩
def oA5_22_5 : Oper := ⟨some 174, Op.extract (Operand.tmp 169) 1, 4, "law.go:100", #[ed_ 3, { on := 6, ground := Go.Ground.gcOnly Go.Departure.lateStores }], none⟩
def oA5_22_6 : Oper := ⟨some 21, Op.assign (Operand.tmp 173), 4, "law.go:100", #[ed_ 4, ec_ 2, ep_ 0, ep_ 1, ep_ 2, ep_ 3, ep_ 4, { on := 5, ground := Go.Ground.textOnly Go.Departure.lateStores }], none⟩
def oA5_22_7 : Oper := ⟨some 22, Op.assign (Operand.tmp 174), 4, "law.go:100", #[ed_ 5, ec_ 6, ep_ 0, ep_ 1, ep_ 2, ep_ 3, ep_ 4, ep_ 5, ep_ 6], none⟩
def OA5_22 : Array Oper := List.toArray (oA5_22_0 :: oA5_22_1 :: oA5_22_2 :: oA5_22_3 :: oA5_22_4 :: oA5_22_5 :: oA5_22_6 :: oA5_22_7 :: [])
theorem gA5_22_0 : OA5_22[0]? = some oA5_22_0 := rfl
theorem gA5_22_1 : OA5_22[1]? = some oA5_22_1 := rfl
theorem gA5_22_2 : OA5_22[2]? = some oA5_22_2 := rfl
theorem gA5_22_3 : OA5_22[3]? = some oA5_22_3 := rfl
theorem gA5_22_4 : OA5_22[4]? = some oA5_22_4 := rfl
theorem gA5_22_5 : OA5_22[5]? = some oA5_22_5 := rfl
theorem gA5_22_6 : OA5_22[6]? = some oA5_22_6 := rfl
theorem gA5_22_7 : OA5_22[7]? = some oA5_22_7 := rfl
def cA5_69 : Code := Code.region 22 OA5_22 false
def oA5_23_0 : Oper := ⟨some 176, Op.move (Operand.tmp 0), 2, "law.go:101", #[], none⟩
def oA5_23_1 : Oper := ⟨some 177, Op.move (Operand.tmp 1), 2, "law.go:101", #[], none⟩
def oA5_23_2 : Oper := ⟨some 178, Op.call { callee := Callee.value (Operand.func 17), args := #[Operand.const (Value.string { data := #[61, 60] }), Operand.tmp 176, Operand.tmp 177], argTypes := #[9, 2, 2] }, 36, "law.go:101", #[ed_ 0, ed_ 1], none⟩
def oA5_23_3 : Oper := ⟨some 175, Op.move (Operand.tmp 178), 36, "law.go:101", #[ed_ 2], none⟩
def oA5_23_4 : Oper := ⟨some 179, Op.extract (Operand.tmp 175) 0, 4, "law.go:101", #[ed_ 3], none⟩
def oA5_23_5 : Oper := ⟨some 180, Op.extract (Operand.tmp 175) 1, 4, "law.go:101", #[ed_ 3, { on := 6, ground := Go.Ground.gcOnly Go.Departure.lateStores }], none⟩
def oA5_23_6 : Oper := ⟨some 23, Op.assign (Operand.tmp 179), 4, "law.go:101", #[ed_ 4, ec_ 2, ep_ 0, ep_ 1, ep_ 2, ep_ 3, ep_ 4, { on := 5, ground := Go.Ground.textOnly Go.Departure.lateStores }], none⟩
def oA5_23_7 : Oper := ⟨some 24, Op.assign (Operand.tmp 180), 4, "law.go:101", #[ed_ 5, ec_ 6, ep_ 0, ep_ 1, ep_ 2, ep_ 3, ep_ 4, ep_ 5, ep_ 6], none⟩
def OA5_23 : Array Oper := List.toArray (oA5_23_0 :: oA5_23_1 :: oA5_23_2 :: oA5_23_3 :: oA5_23_4 :: oA5_23_5 :: oA5_23_6 :: oA5_23_7 :: [])
theorem gA5_23_0 : OA5_23[0]? = some oA5_23_0 := rfl
theorem gA5_23_1 : OA5_23[1]? = some oA5_23_1 := rfl
theorem gA5_23_2 : OA5_23[2]? = some oA5_23_2 := rfl
theorem gA5_23_3 : OA5_23[3]? = some oA5_23_3 := rfl
theorem gA5_23_4 : OA5_23[4]? = some oA5_23_4 := rfl
theorem gA5_23_5 : OA5_23[5]? = some oA5_23_5 := rfl
theorem gA5_23_6 : OA5_23[6]? = some oA5_23_6 := rfl
theorem gA5_23_7 : OA5_23[7]? = some oA5_23_7 := rfl
def cA5_71 : Code := Code.region 23 OA5_23 false
def oA5_24_0 : Oper := ⟨some 181, Op.move (Operand.tmp 17), 4, "law.go:102", #[], none⟩
def oA5_24_1 : Oper := ⟨some 182, Op.move (Operand.tmp 19), 4, "law.go:102", #[], none⟩
def oA5_24_2 : Oper := ⟨some 183, Op.binOp Go.BinOp.neq 4 (Operand.tmp 181) (Operand.tmp 182) 4, 4, "law.go:102", #[ed_ 0, ed_ 1], none⟩
def oA5_24_3 : Oper := ⟨some 184, Op.move (Operand.tmp 183), 4, "law.go:102", #[ed_ 2], none⟩
def oA5_24_4 : Oper := ⟨some 185, Op.move (Operand.tmp 23), 4, "law.go:102", #[eg_ 3], some (3, true)⟩
def oA5_24_5 : Oper := ⟨some 186, Op.move (Operand.tmp 17), 4, "law.go:102", #[eg_ 3], some (3, true)⟩
def oA5_24_6 : Oper := ⟨some 187, Op.move (Operand.tmp 186), 4, "law.go:102", #[ed_ 5, ec_ 3, eg_ 3], some (3, true)⟩
def oA5_24_7 : Oper := ⟨some 188, Op.move (Operand.tmp 21), 4, "law.go:102", #[eg_ 6], some (6, false)⟩
def oA5_24_8 : Oper := ⟨some 189, Op.pick (Operand.tmp 187) (Operand.const (Value.bool true)) (Operand.tmp 188), 4, "law.go:102", #[ed_ 6, ed_ 7, eg_ 3], some (3, true)⟩
def oA5_24_9 : Oper := ⟨some 190, Op.binOp Go.BinOp.eql 4 (Operand.tmp 185) (Operand.tmp 189) 4, 4, "law.go:102", #[ed_ 4, ed_ 8, eg_ 3], some (3, true)⟩
def oA5_24_10 : Oper := ⟨some 191, Op.pick (Operand.tmp 184) (Operand.tmp 190) (Operand.const (Value.bool false)), 4, "law.go:102", #[ed_ 3, ed_ 9], none⟩
def oA5_24_11 : Oper := ⟨some 4, Op.assign (Operand.tmp 191), 4, "law.go:102", #[ed_ 10, ec_ 6, ep_ 0, ep_ 1, ep_ 2, ep_ 3, ep_ 4, ep_ 5, ep_ 6, ep_ 7, ep_ 8, ep_ 9, ep_ 10], none⟩
def OA5_24 : Array Oper := List.toArray (oA5_24_0 :: oA5_24_1 :: oA5_24_2 :: oA5_24_3 :: oA5_24_4 :: oA5_24_5 :: oA5_24_6 :: oA5_24_7 :: oA5_24_8 :: oA5_24_9 :: oA5_24_10 :: oA5_24_11 :: [])
theorem gA5_24_0 : OA5_24[0]? = some oA5_24_0 := rfl
theorem gA5_24_1 : OA5_24[1]? = some oA5_24_1 := rfl
theorem gA5_24_2 : OA5_24[2]? = some oA5_24_2 := rfl
theorem gA5_24_3 : OA5_24[3]? = some oA5_24_3 := rfl
theorem gA5_24_4 : OA5_24[4]? = some oA5_24_4 := rfl
theorem gA5_24_5 : OA5_24[5]? = some oA5_24_5 := rfl
theorem gA5_24_6 : OA5_24[6]? = some oA5_24_6 := rfl
theorem gA5_24_7 : OA5_24[7]? = some oA5_24_7 := rfl
theorem gA5_24_8 : OA5_24[8]? = some oA5_24_8 := rfl
theorem gA5_24_9 : OA5_24[9]? = some oA5_24_9 := rfl
theorem gA5_24_10 : OA5_24[10]? = some oA5_24_10 := rfl
theorem gA5_24_11 : OA5_24[11]? = some oA5_24_11 := rfl
def cA5_73 : Code := Code.region 24 OA5_24 false
def cA5_72 : Code := Code.seq cA5_73 Code.ret
def cA5_70 : Code := Code.seq cA5_71 cA5_72
def cA5_68 : Code := Code.seq cA5_69 cA5_70
def cA5_66 : Code := Code.seq cA5_67 cA5_68
def cA5_64 : Code := Code.seq cA5_65 cA5_66
def cA5_56 : Code := Code.seq cA5_57 cA5_64
def cA5_48 : Code := Code.seq cA5_49 cA5_56
def cA5_46 : Code := Code.seq cA5_47 cA5_48
def cA5_44 : Code := Code.seq cA5_45 cA5_46
def cA5_42 : Code := Code.seq cA5_43 cA5_44
def cA5_28 : Code := Code.seq cA5_29 cA5_42
def cA5_26 : Code := Code.seq cA5_27 cA5_28
def cA5_12 : Code := Code.seq cA5_13 cA5_26
def cA5_10 : Code := Code.seq cA5_11 cA5_12
def cA5_2 : Code := Code.seq cA5_3 cA5_10
def cA5_0 : Code := Code.seq cA5_1 cA5_2
theorem bodyA5 : Try.f5.body = some cA5_0 := by kernel_rfl
set_option maxRecDepth 100000 in
set_option maxHeartbeats 4000000 in
theorem rules_e {W : World} {a b : Int} {f0 : Act} {w0 : World} (R : FrS 192 f0) (h0 : f0.tmps[0]? = some (.int .i64 a)) (h1 : f0.tmps[1]? = some (.int .i64 b)) (K1 : Keep (fun g => g < W.heap.size) W w0)  (HA : Hid (inR a)) (HB : Hid (inR b)) (HC : Hid True) : cA5_64.wp Try.prog (bodyPost Try.prog Try.f5 (fun e w' => e = .returned (.bool true) ∧ Keep (fun g => g < W.heap.size) W w')) f0 w0 := by
  refine wp_seq (x := cA5_65) (y := cA5_66) ?_
  change (Code.region 20 OA5_20 false).wp _ _ _ _
  refine reg_in (l := [0, 1, 2, 3, 4, 5, 6, 7]) rfl ?_
  have F : FE_ _ [] f0 f0 := ⟨R, Ag_.refl _⟩; clear R
  refine sv_ gA5_20_0 (ym_ rfl (F.of h0)) fun a1 e => ?_
  have h158 := pt_ F e; replace F := pu_ F e; clear e
  refine sv_ gA5_20_1 (ym_ rfl (F.of h1)) fun a2 e => ?_
  have h159 := pt_ F e; replace F := pu_ F e; replace h158 := so_ e h158; clear e
  have Y : (execOp a2.eval oA5_20_2).run Try.prog w0 = .ok (.enter 17 #[.string (⟨#[60]⟩), .int .i64 a, .int .i64 b]) w0 := by unfold oA5_20_2; go_simp
  obtain ⟨hl, hhl⟩ : ∃ q, (decide (a < b)) = q := ⟨_, rfl⟩
  have hca := holds_is (w := w0) (nm := [60]) (a := a) (b := b) (x := decide (a < b)) (y := true) rfl
  rw [hhl] at hca; have HHL := Lib.hid hhl; clear hhl
  refine st_call gA5_20_2 rfl (wanted_free rfl) Y ((hca).mono ?_); clear Y
  rintro e9 w3 ⟨rfl, kk⟩
  replace K1 := keep_onto K1 kk
  clear kk
  clear hca
  refine ⟨_, rfl, fun a4 e => ?_⟩
  clear h158 h159; have h160 := pt_ F e; replace F := pu_ F e; clear e
  refine sv_ gA5_20_3 (ym_ rfl h160) fun a5 e => ?_
  clear h160; have h157 := pt_ F e; replace F := pu_ F e; clear e
  refine sv_ gA5_20_4 (ye20_ rfl h157) fun a6 e => ?_
  have h161 := pt_ F e; replace F := pu_ F e; replace h157 := so_ e h157; clear e
  refine sv_ gA5_20_5 (ye21_ rfl h157) fun a7 e => ?_
  clear h157; have h162 := pt_ F e; replace F := pu_ F e; replace h161 := so_ e h161; clear e
  refine sv_ gA5_20_6 (ya_ rfl h161) fun a8 e => ?_
  clear h161; have h17 := pt_ F e; replace F := pu_ F e; replace h162 := so_ e h162; clear e
  refine sv_ gA5_20_7 (ya_ rfl h162) fun a9 e => ?_
  clear h162; replace F := pu_ F e; replace h17 := so_ e h17; clear e
  refine st_end ?_
  replace h0 := F.of h0; replace h1 := F.of h1; have R := F.r; clear F
  change (cA5_66).wp _ _ _ _
  refine wp_seq (x := cA5_67) (y := cA5_68) ?_
  change (Code.region 21 OA5_21 false).wp _ _ _ _
  refine reg_in (l := [0, 1, 2, 3, 4, 5, 6, 7]) rfl ?_
  have F : FE_ _ [] a9 a9 := ⟨R, Ag_.refl _⟩; clear R
  refine sv_ gA5_21_0 (ym_ rfl (F.of h0)) fun a10 e => ?_
  have h164 := pt_ F e; replace F := pu_ F e; clear e
  refine sv_ gA5_21_1 (ym_ rfl (F.of h1)) fun a11 e => ?_
  have h165 := pt_ F e; replace F := pu_ F e; replace h164 := so_ e h164; clear e
  have Y : (execOp a11.eval oA5_21_2).run Try.prog w3 = .ok (.enter 17 #[.string (⟨#[62, 61]⟩), .int .i64 a, .int .i64 b]) w3 := by unfold oA5_21_2; go_simp
  obtain ⟨hg, hhg⟩ : ∃ q, (decide (b ≤ a)) = q := ⟨_, rfl⟩
  have hca := holds_is (w := w3) (nm := [62, 61]) (a := a) (b := b) (x := decide (b ≤ a)) (y := true) rfl
  rw [hhg] at hca; have HHG := Lib.hid hhg; clear hhg
  refine st_call gA5_21_2 rfl (wanted_free rfl) Y ((hca).mono ?_); clear Y
  rintro e9 w12 ⟨rfl, kk⟩
  replace K1 := keep_onto K1 kk
  clear kk
  clear hca
  refine ⟨_, rfl, fun a13 e => ?_⟩
  clear h164 h165; have h166 := pt_ F e; replace F := pu_ F e; clear e
  refine sv_ gA5_21_3 (ym_ rfl h166) fun a14 e => ?_
  clear h166; have h163 := pt_ F e; replace F := pu_ F e; clear e
  refine sv_ gA5_21_4 (ye20_ rfl h163) fun a15 e => ?_
  have h167 := pt_ F e; replace F := pu_ F e; replace h163 := so_ e h163; clear e
  refine sv_ gA5_21_5 (ye21_ rfl h163) fun a16 e => ?_
  clear h163; have h168 := pt_ F e; replace F := pu_ F e; replace h167 := so_ e h167; clear e
  refine sv_ gA5_21_6 (ya_ rfl h167) fun a17 e => ?_
  clear h167; have h19 := pt_ F e; replace F := pu_ F e; replace h168 := so_ e h168; clear e
  refine sv_ gA5_21_7 (ya_ rfl h168) fun a18 e => ?_
  clear h168; replace F := pu_ F e; replace h19 := so_ e h19; clear e
  refine st_end ?_
  replace h0 := F.of h0; replace h1 := F.of h1; replace h17 := F.of h17; have R := F.r; clear F
  change (cA5_68).wp _ _ _ _
  refine wp_seq (x := cA5_69) (y := cA5_70) ?_
  change (Code.region 22 OA5_22 false).wp _ _ _ _
  refine reg_in (l := [0, 1, 2, 3, 4, 5, 6, 7]) rfl ?_
  have F : FE_ _ [] a18 a18 := ⟨R, Ag_.refl _⟩; clear R
  refine sv_ gA5_22_0 (ym_ rfl (F.of h0)) fun a19 e => ?_
  have h170 := pt_ F e; replace F := pu_ F e; clear e
  refine sv_ gA5_22_1 (ym_ rfl (F.of h1)) fun a20 e => ?_
  have h171 := pt_ F e; replace F := pu_ F e; replace h170 := so_ e h170; clear e
  have Y : (execOp a20.eval oA5_22_2).run Try.prog w12 = .ok (.enter 17 #[.string (⟨#[61, 58, 61]⟩), .int .i64 a, .int .i64 b]) w12 := by unfold oA5_22_2; go_simp
  obtain ⟨hq, hhq⟩ : ∃ q, (a == b) = q := ⟨_, rfl⟩
  have hca := holds_is (w := w12) (nm := [61, 58, 61]) (a := a) (b := b) (x := a == b) (y := true) rfl
  rw [hhq] at hca; have HHQ := Lib.hid hhq; clear hhq
  refine st_call gA5_22_2 rfl (wanted_free rfl) Y ((hca).mono ?_); clear Y
  rintro e9 w21 ⟨rfl, kk⟩
  replace K1 := keep_onto K1 kk
  clear kk
  clear hca
  refine ⟨_, rfl, fun a22 e => ?_⟩
  clear h170 h171; have h172 := pt_ F e; replace F := pu_ F e; clear e
  refine sv_ gA5_22_3 (ym_ rfl h172) fun a23 e => ?_
  clear h172; have h169 := pt_ F e; replace F := pu_ F e; clear e
  refine sv_ gA5_22_4 (ye20_ rfl h169) fun a24 e => ?_
  have h173 := pt_ F e; replace F := pu_ F e; replace h169 := so_ e h169; clear e
  refine sv_ gA5_22_5 (ye21_ rfl h169) fun a25 e => ?_
  clear h169; have h174 := pt_ F e; replace F := pu_ F e; replace h173 := so_ e h173; clear e
  refine sv_ gA5_22_6 (ya_ rfl h173) fun a26 e => ?_
  clear h173; have h21 := pt_ F e; replace F := pu_ F e; replace h174 := so_ e h174; clear e
  refine sv_ gA5_22_7 (ya_ rfl h174) fun a27 e => ?_
  clear h174; replace F := pu_ F e; replace h21 := so_ e h21; clear e
  refine st_end ?_
  replace h0 := F.of h0; replace h1 := F.of h1; replace h17 := F.of h17; replace h19 := F.of h19; have R := F.r; clear F
  change (cA5_70).wp _ _ _ _
  refine wp_seq (x := cA5_71) (y := cA5_72) ?_
  change (Code.region 23 OA5_23 false).wp _ _ _ _
  refine reg_in (l := [0, 1, 2, 3, 4, 5, 6, 7]) rfl ?_
  have F : FE_ _ [] a27 a27 := ⟨R, Ag_.refl _⟩; clear R
  refine sv_ gA5_23_0 (ym_ rfl (F.of h0)) fun a28 e => ?_
  have h176 := pt_ F e; replace F := pu_ F e; clear e
  refine sv_ gA5_23_1 (ym_ rfl (F.of h1)) fun a29 e => ?_
  have h177 := pt_ F e; replace F := pu_ F e; replace h176 := so_ e h176; clear e
  have Y : (execOp a29.eval oA5_23_2).run Try.prog w21 = .ok (.enter 17 #[.string (⟨#[61, 60]⟩), .int .i64 a, .int .i64 b]) w21 := by unfold oA5_23_2; go_simp
  obtain ⟨hh, hhh⟩ : ∃ q, (decide (a ≤ b)) = q := ⟨_, rfl⟩
  have hca := holds_is (w := w21) (nm := [61, 60]) (a := a) (b := b) (x := decide (a ≤ b)) (y := true) rfl
  rw [hhh] at hca; have HHH := Lib.hid hhh; clear hhh
  refine st_call gA5_23_2 rfl (wanted_free rfl) Y ((hca).mono ?_); clear Y
  rintro e9 w30 ⟨rfl, kk⟩
  replace K1 := keep_onto K1 kk
  clear kk
  clear hca
  refine ⟨_, rfl, fun a31 e => ?_⟩
  clear h176 h177; have h178 := pt_ F e; replace F := pu_ F e; clear e
  refine sv_ gA5_23_3 (ym_ rfl h178) fun a32 e => ?_
  clear h178; have h175 := pt_ F e; replace F := pu_ F e; clear e
  refine sv_ gA5_23_4 (ye20_ rfl h175) fun a33 e => ?_
  have h179 := pt_ F e; replace F := pu_ F e; replace h175 := so_ e h175; clear e
  refine sv_ gA5_23_5 (ye21_ rfl h175) fun a34 e => ?_
  clear h175; have h180 := pt_ F e; replace F := pu_ F e; replace h179 := so_ e h179; clear e
  refine sv_ gA5_23_6 (ya_ rfl h179) fun a35 e => ?_
  clear h179; have h23 := pt_ F e; replace F := pu_ F e; replace h180 := so_ e h180; clear e
  refine sv_ gA5_23_7 (ya_ rfl h180) fun a36 e => ?_
  clear h180; replace F := pu_ F e; replace h23 := so_ e h23; clear e
  refine st_end ?_
  clear h0; clear h1; replace h17 := F.of h17; replace h19 := F.of h19; replace h21 := F.of h21; have R := F.r; clear F
  change (cA5_72).wp _ _ _ _
  refine wp_seq (x := cA5_73) (y := Code.ret) ?_
  change (Code.region 24 OA5_24 false).wp _ _ _ _
  refine reg_in (l := [0, 1, 2, 3, 4, 5, 6, 7, 8, 9, 10, 11]) rfl ?_
  have F : FE_ _ [] a36 a36 := ⟨R, Ag_.refl _⟩; clear R
  refine sv_ gA5_24_0 (ym_ rfl (F.of h17)) fun a37 e => ?_
  have h181 := pt_ F e; replace F := pu_ F e; clear e
  refine sv_ gA5_24_1 (ym_ rfl (F.of h19)) fun a38 e => ?_
  have h182 := pt_ F e; replace F := pu_ F e; replace h181 := so_ e h181; clear e
  cases hl with
  | false =>
    cases hg with
    | false =>
      have Y : (execOp a38.eval oA5_24_2).run Try.prog w30 = .ok (.value (.bool false)) w30 := by unfold oA5_24_2; go_simp
      refine sv_ gA5_24_2 Y fun a39 e => ?_; clear Y
      clear h181 h182; have h183 := pt_ F e; replace F := pu_ F e; clear e
      refine sv_ gA5_24_3 (ym_ rfl h183) fun a40 e => ?_
      clear h183; have h184 := pt_ F e; replace F := pu_ F e; clear e
      refine st_not gA5_24_4 rfl (wanted_is (j := 3) (d := 184) rfl rfl h184 rfl) fun a41 e => ?_
      have h185 := pt_ F e; replace F := pu_ F e; replace h184 := so_ e h184; clear e
      refine st_not gA5_24_5 rfl (wanted_is (j := 3) (d := 184) rfl rfl h184 rfl) fun a42 e => ?_
      have h186 := pt_ F e; replace F := pu_ F e; replace h184 := so_ e h184; replace h185 := so_ e h185; clear e
      refine st_not gA5_24_6 rfl (wanted_is (j := 3) (d := 184) rfl rfl h184 rfl) fun a43 e => ?_
      clear h186; have h187 := pt_ F e; replace F := pu_ F e; replace h184 := so_ e h184; replace h185 := so_ e h185; clear e
      refine st_not gA5_24_7 rfl (wanted_un (j := 6) (d := 187) rfl rfl h187) fun a44 e => ?_
      have h188 := pt_ F e; replace F := pu_ F e; replace h184 := so_ e h184; replace h185 := so_ e h185; replace h187 := so_ e h187; clear e
      refine st_not gA5_24_8 rfl (wanted_is (j := 3) (d := 184) rfl rfl h184 rfl) fun a45 e => ?_
      clear h187 h188; have h189 := pt_ F e; replace F := pu_ F e; replace h184 := so_ e h184; replace h185 := so_ e h185; clear e
      refine st_not gA5_24_9 rfl (wanted_is (j := 3) (d := 184) rfl rfl h184 rfl) fun a46 e => ?_
      clear h185 h189; have h190 := pt_ F e; replace F := pu_ F e; replace h184 := so_ e h184; clear e
      have Y : (execOp a46.eval oA5_24_10).run Try.prog w30 = .ok (.value (.bool false)) w30 := by unfold oA5_24_10; go_simp
      refine sv_ gA5_24_10 Y fun a47 e => ?_; clear Y
      clear h184 h190; have h191 := pt_ F e; replace F := pu_ F e; clear e
      refine sv_ gA5_24_11 (ya_ rfl h191) fun a48 e => ?_
      clear h191; have h4 := pt_ F e; replace F := pu_ F e; clear e
      refine st_end ?_
      clear h17; clear h19; clear h21; clear h23; have R := F.r; clear F
      change (Code.ret).wp _ _ _ _
      refine wp_ret ?_
      change bodyPost Try.prog Try.f5 (fun e w' => e = .returned (.bool true) ∧ Keep (fun g => g < W.heap.size) W w') .ret a48 w30
      refine ret_one rfl R h4 ?_
      exfalso; first | (have h8 := HC.out; omega) | (have a1 := HHL.out; have a2 := HHG.out; have a3 := HHQ.out; have a4 := HHH.out; simp at a1 a2 a3 a4; omega)
    | true =>
      have Y : (execOp a38.eval oA5_24_2).run Try.prog w30 = .ok (.value (.bool true)) w30 := by unfold oA5_24_2; go_simp
      refine sv_ gA5_24_2 Y fun a49 e => ?_; clear Y
      clear h181 h182; have h183 := pt_ F e; replace F := pu_ F e; clear e
      refine sv_ gA5_24_3 (ym_ rfl h183) fun a50 e => ?_
      clear h183; have h184 := pt_ F e; replace F := pu_ F e; clear e
      refine st_val gA5_24_4 rfl (wanted_is (j := 3) (d := 184) rfl rfl h184 rfl) (ym_ rfl (F.of h23)) fun a51 e => ?_
      have h185 := pt_ F e; replace F := pu_ F e; replace h184 := so_ e h184; clear e
      refine st_val gA5_24_5 rfl (wanted_is (j := 3) (d := 184) rfl rfl h184 rfl) (ym_ rfl (F.of h17)) fun a52 e => ?_
      have h186 := pt_ F e; replace F := pu_ F e; replace h184 := so_ e h184; replace h185 := so_ e h185; clear e
      refine st_val gA5_24_6 rfl (wanted_is (j := 3) (d := 184) rfl rfl h184 rfl) (ym_ rfl h186) fun a53 e => ?_
      clear h186; have h187 := pt_ F e; replace F := pu_ F e; replace h184 := so_ e h184; replace h185 := so_ e h185; clear e
      refine st_val gA5_24_7 rfl (wanted_is (j := 6) (d := 187) rfl rfl h187 rfl) (ym_ rfl (F.of h21)) fun a54 e => ?_
      have h188 := pt_ F e; replace F := pu_ F e; replace h184 := so_ e h184; replace h185 := so_ e h185; replace h187 := so_ e h187; clear e
      have Y : (execOp a54.eval oA5_24_8).run Try.prog w30 = .ok (.value (.bool hq)) w30 := by unfold oA5_24_8; go_simp
      refine st_val gA5_24_8 rfl (wanted_is (j := 3) (d := 184) rfl rfl h184 rfl) Y fun a55 e => ?_; clear Y
      clear h187 h188; have h189 := pt_ F e; replace F := pu_ F e; replace h184 := so_ e h184; replace h185 := so_ e h185; clear e
      cases hh with
      | false =>
        cases hq with
        | false =>
          have Y : (execOp a55.eval oA5_24_9).run Try.prog w30 = .ok (.value (.bool true)) w30 := by unfold oA5_24_9; go_simp
          refine st_val gA5_24_9 rfl (wanted_is (j := 3) (d := 184) rfl rfl h184 rfl) Y fun a56 e => ?_; clear Y
          clear h185 h189; have h190 := pt_ F e; replace F := pu_ F e; replace h184 := so_ e h184; clear e
          have Y : (execOp a56.eval oA5_24_10).run Try.prog w30 = .ok (.value (.bool true)) w30 := by unfold oA5_24_10; go_simp
          refine sv_ gA5_24_10 Y fun a57 e => ?_; clear Y
          clear h184 h190; have h191 := pt_ F e; replace F := pu_ F e; clear e
          refine sv_ gA5_24_11 (ya_ rfl h191) fun a58 e => ?_
          clear h191; have h4 := pt_ F e; replace F := pu_ F e; clear e
          refine st_end ?_
          clear h17; clear h19; clear h21; clear h23; have R := F.r; clear F
          change (Code.ret).wp _ _ _ _
          refine wp_ret ?_
          change bodyPost Try.prog Try.f5 (fun e w' => e = .returned (.bool true) ∧ Keep (fun g => g < W.heap.size) W w') .ret a58 w30
          refine ret_one rfl R h4 ?_
          exact ⟨rfl, K1⟩
        | true =>
          have Y : (execOp a55.eval oA5_24_9).run Try.prog w30 = .ok (.value (.bool false)) w30 := by unfold oA5_24_9; go_simp
          refine st_val gA5_24_9 rfl (wanted_is (j := 3) (d := 184) rfl rfl h184 rfl) Y fun a59 e => ?_; clear Y
          clear h185 h189; have h190 := pt_ F e; replace F := pu_ F e; replace h184 := so_ e h184; clear e
          have Y : (execOp a59.eval oA5_24_10).run Try.prog w30 = .ok (.value (.bool false)) w30 := by unfold oA5_24_10; go_simp
          refine sv_ gA5_24_10 Y fun a60 e => ?_; clear Y
          clear h184 h190; have h191 := pt_ F e; replace F := pu_ F e; clear e
          refine sv_ gA5_24_11 (ya_ rfl h191) fun a61 e => ?_
          clear h191; have h4 := pt_ F e; replace F := pu_ F e; clear e
          refine st_end ?_
          clear h17; clear h19; clear h21; clear h23; have R := F.r; clear F
          change (Code.ret).wp _ _ _ _
          refine wp_ret ?_
          change bodyPost Try.prog Try.f5 (fun e w' => e = .returned (.bool true) ∧ Keep (fun g => g < W.heap.size) W w') .ret a61 w30
          refine ret_one rfl R h4 ?_
          exfalso; first | (have h8 := HC.out; omega) | (have a1 := HHL.out; have a2 := HHG.out; have a3 := HHQ.out; have a4 := HHH.out; simp at a1 a2 a3 a4; omega)
      | true =>
        cases hq with
        | false =>
          have Y : (execOp a55.eval oA5_24_9).run Try.prog w30 = .ok (.value (.bool false)) w30 := by unfold oA5_24_9; go_simp
          refine st_val gA5_24_9 rfl (wanted_is (j := 3) (d := 184) rfl rfl h184 rfl) Y fun a62 e => ?_; clear Y
          clear h185 h189; have h190 := pt_ F e; replace F := pu_ F e; replace h184 := so_ e h184; clear e
          have Y : (execOp a62.eval oA5_24_10).run Try.prog w30 = .ok (.value (.bool false)) w30 := by unfold oA5_24_10; go_simp
          refine sv_ gA5_24_10 Y fun a63 e => ?_; clear Y
          clear h184 h190; have h191 := pt_ F e; replace F := pu_ F e; clear e
          refine sv_ gA5_24_11 (ya_ rfl h191) fun a64 e => ?_
          clear h191; have h4 := pt_ F e; replace F := pu_ F e; clear e
          refine st_end ?_
          clear h17; clear h19; clear h21; clear h23; have R := F.r; clear F
          change (Code.ret).wp _ _ _ _
          refine wp_ret ?_
          change bodyPost Try.prog Try.f5 (fun e w' => e = .returned (.bool true) ∧ Keep (fun g => g < W.heap.size) W w') .ret a64 w30
          refine ret_one rfl R h4 ?_
          exfalso; first | (have h8 := HC.out; omega) | (have a1 := HHL.out; have a2 := HHG.out; have a3 := HHQ.out; have a4 := HHH.out; simp at a1 a2 a3 a4; omega)
        | true =>
          have Y : (execOp a55.eval oA5_24_9).run Try.prog w30 = .ok (.value (.bool true)) w30 := by unfold oA5_24_9; go_simp
          refine st_val gA5_24_9 rfl (wanted_is (j := 3) (d := 184) rfl rfl h184 rfl) Y fun a65 e => ?_; clear Y
          clear h185 h189; have h190 := pt_ F e; replace F := pu_ F e; replace h184 := so_ e h184; clear e
          have Y : (execOp a65.eval oA5_24_10).run Try.prog w30 = .ok (.value (.bool true)) w30 := by unfold oA5_24_10; go_simp
          refine sv_ gA5_24_10 Y fun a66 e => ?_; clear Y
          clear h184 h190; have h191 := pt_ F e; replace F := pu_ F e; clear e
          refine sv_ gA5_24_11 (ya_ rfl h191) fun a67 e => ?_
          clear h191; have h4 := pt_ F e; replace F := pu_ F e; clear e
          refine st_end ?_
          clear h17; clear h19; clear h21; clear h23; have R := F.r; clear F
          change (Code.ret).wp _ _ _ _
          refine wp_ret ?_
          change bodyPost Try.prog Try.f5 (fun e w' => e = .returned (.bool true) ∧ Keep (fun g => g < W.heap.size) W w') .ret a67 w30
          refine ret_one rfl R h4 ?_
          exact ⟨rfl, K1⟩
  | true =>
    cases hg with
    | false =>
      have Y : (execOp a38.eval oA5_24_2).run Try.prog w30 = .ok (.value (.bool true)) w30 := by unfold oA5_24_2; go_simp
      refine sv_ gA5_24_2 Y fun a68 e => ?_; clear Y
      clear h181 h182; have h183 := pt_ F e; replace F := pu_ F e; clear e
      refine sv_ gA5_24_3 (ym_ rfl h183) fun a69 e => ?_
      clear h183; have h184 := pt_ F e; replace F := pu_ F e; clear e
      refine st_val gA5_24_4 rfl (wanted_is (j := 3) (d := 184) rfl rfl h184 rfl) (ym_ rfl (F.of h23)) fun a70 e => ?_
      have h185 := pt_ F e; replace F := pu_ F e; replace h184 := so_ e h184; clear e
      refine st_val gA5_24_5 rfl (wanted_is (j := 3) (d := 184) rfl rfl h184 rfl) (ym_ rfl (F.of h17)) fun a71 e => ?_
      have h186 := pt_ F e; replace F := pu_ F e; replace h184 := so_ e h184; replace h185 := so_ e h185; clear e
      refine st_val gA5_24_6 rfl (wanted_is (j := 3) (d := 184) rfl rfl h184 rfl) (ym_ rfl h186) fun a72 e => ?_
      clear h186; have h187 := pt_ F e; replace F := pu_ F e; replace h184 := so_ e h184; replace h185 := so_ e h185; clear e
      refine st_not gA5_24_7 rfl (wanted_is (j := 6) (d := 187) rfl rfl h187 rfl) fun a73 e => ?_
      have h188 := pt_ F e; replace F := pu_ F e; replace h184 := so_ e h184; replace h185 := so_ e h185; replace h187 := so_ e h187; clear e
      have Y : (execOp a73.eval oA5_24_8).run Try.prog w30 = .ok (.value (.bool true)) w30 := by unfold oA5_24_8; go_simp
      refine st_val gA5_24_8 rfl (wanted_is (j := 3) (d := 184) rfl rfl h184 rfl) Y fun a74 e => ?_; clear Y
      clear h187 h188; have h189 := pt_ F e; replace F := pu_ F e; replace h184 := so_ e h184; replace h185 := so_ e h185; clear e
      cases hh with
      | false =>
        have Y : (execOp a74.eval oA5_24_9).run Try.prog w30 = .ok (.value (.bool false)) w30 := by unfold oA5_24_9; go_simp
        refine st_val gA5_24_9 rfl (wanted_is (j := 3) (d := 184) rfl rfl h184 rfl) Y fun a75 e => ?_; clear Y
        clear h185 h189; have h190 := pt_ F e; replace F := pu_ F e; replace h184 := so_ e h184; clear e
        have Y : (execOp a75.eval oA5_24_10).run Try.prog w30 = .ok (.value (.bool false)) w30 := by unfold oA5_24_10; go_simp
        refine sv_ gA5_24_10 Y fun a76 e => ?_; clear Y
        clear h184 h190; have h191 := pt_ F e; replace F := pu_ F e; clear e
        refine sv_ gA5_24_11 (ya_ rfl h191) fun a77 e => ?_
        clear h191; have h4 := pt_ F e; replace F := pu_ F e; clear e
        refine st_end ?_
        clear h17; clear h19; clear h21; clear h23; have R := F.r; clear F
        change (Code.ret).wp _ _ _ _
        refine wp_ret ?_
        change bodyPost Try.prog Try.f5 (fun e w' => e = .returned (.bool true) ∧ Keep (fun g => g < W.heap.size) W w') .ret a77 w30
        refine ret_one rfl R h4 ?_
        exfalso; first | (have h8 := HC.out; omega) | (have a1 := HHL.out; have a2 := HHG.out; have a3 := HHQ.out; have a4 := HHH.out; simp at a1 a2 a3 a4; omega)
      | true =>
        have Y : (execOp a74.eval oA5_24_9).run Try.prog w30 = .ok (.value (.bool true)) w30 := by unfold oA5_24_9; go_simp
        refine st_val gA5_24_9 rfl (wanted_is (j := 3) (d := 184) rfl rfl h184 rfl) Y fun a78 e => ?_; clear Y
        clear h185 h189; have h190 := pt_ F e; replace F := pu_ F e; replace h184 := so_ e h184; clear e
        have Y : (execOp a78.eval oA5_24_10).run Try.prog w30 = .ok (.value (.bool true)) w30 := by unfold oA5_24_10; go_simp
        refine sv_ gA5_24_10 Y fun a79 e => ?_; clear Y
        clear h184 h190; have h191 := pt_ F e; replace F := pu_ F e; clear e
        refine sv_ gA5_24_11 (ya_ rfl h191) fun a80 e => ?_
        clear h191; have h4 := pt_ F e; replace F := pu_ F e; clear e
        refine st_end ?_
        clear h17; clear h19; clear h21; clear h23; have R := F.r; clear F
        change (Code.ret).wp _ _ _ _
        refine wp_ret ?_
        change bodyPost Try.prog Try.f5 (fun e w' => e = .returned (.bool true) ∧ Keep (fun g => g < W.heap.size) W w') .ret a80 w30
        refine ret_one rfl R h4 ?_
        exact ⟨rfl, K1⟩
    | true =>
      have Y : (execOp a38.eval oA5_24_2).run Try.prog w30 = .ok (.value (.bool false)) w30 := by unfold oA5_24_2; go_simp
      refine sv_ gA5_24_2 Y fun a81 e => ?_; clear Y
      clear h181 h182; have h183 := pt_ F e; replace F := pu_ F e; clear e
      refine sv_ gA5_24_3 (ym_ rfl h183) fun a82 e => ?_
      clear h183; have h184 := pt_ F e; replace F := pu_ F e; clear e
      refine st_not gA5_24_4 rfl (wanted_is (j := 3) (d := 184) rfl rfl h184 rfl) fun a83 e => ?_
      have h185 := pt_ F e; replace F := pu_ F e; replace h184 := so_ e h184; clear e
      refine st_not gA5_24_5 rfl (wanted_is (j := 3) (d := 184) rfl rfl h184 rfl) fun a84 e => ?_
      have h186 := pt_ F e; replace F := pu_ F e; replace h184 := so_ e h184; replace h185 := so_ e h185; clear e
      refine st_not gA5_24_6 rfl (wanted_is (j := 3) (d := 184) rfl rfl h184 rfl) fun a85 e => ?_
      clear h186; have h187 := pt_ F e; replace F := pu_ F e; replace h184 := so_ e h184; replace h185 := so_ e h185; clear e
      refine st_not gA5_24_7 rfl (wanted_un (j := 6) (d := 187) rfl rfl h187) fun a86 e => ?_
      have h188 := pt_ F e; replace F := pu_ F e; replace h184 := so_ e h184; replace h185 := so_ e h185; replace h187 := so_ e h187; clear e
      refine st_not gA5_24_8 rfl (wanted_is (j := 3) (d := 184) rfl rfl h184 rfl) fun a87 e => ?_
      clear h187 h188; have h189 := pt_ F e; replace F := pu_ F e; replace h184 := so_ e h184; replace h185 := so_ e h185; clear e
      refine st_not gA5_24_9 rfl (wanted_is (j := 3) (d := 184) rfl rfl h184 rfl) fun a88 e => ?_
      clear h185 h189; have h190 := pt_ F e; replace F := pu_ F e; replace h184 := so_ e h184; clear e
      have Y : (execOp a88.eval oA5_24_10).run Try.prog w30 = .ok (.value (.bool false)) w30 := by unfold oA5_24_10; go_simp
      refine sv_ gA5_24_10 Y fun a89 e => ?_; clear Y
      clear h184 h190; have h191 := pt_ F e; replace F := pu_ F e; clear e
      refine sv_ gA5_24_11 (ya_ rfl h191) fun a90 e => ?_
      clear h191; have h4 := pt_ F e; replace F := pu_ F e; clear e
      refine st_end ?_
      clear h17; clear h19; clear h21; clear h23; have R := F.r; clear F
      change (Code.ret).wp _ _ _ _
      refine wp_ret ?_
      change bodyPost Try.prog Try.f5 (fun e w' => e = .returned (.bool true) ∧ Keep (fun g => g < W.heap.size) W w') .ret a90 w30
      refine ret_one rfl R h4 ?_
      exfalso; first | (have h8 := HC.out; omega) | (have a1 := HHL.out; have a2 := HHG.out; have a3 := HHQ.out; have a4 := HHH.out; simp at a1 a2 a3 a4; omega)
set_option maxRecDepth 100000 in
set_option maxHeartbeats 4000000 in
theorem rules_a {W : World} {a b : Int} {f0 : Act} {w0 : World} (R : FrS 192 f0) (h0 : f0.tmps[0]? = some (.int .i64 a)) (h1 : f0.tmps[1]? = some (.int .i64 b)) (K1 : Keep (fun g => g < W.heap.size) W w0)  (HA : Hid (inR a)) (HB : Hid (inR b)) (HC : Hid (b = 0)) : cA5_42.wp Try.prog (bodyPost Try.prog Try.f5 (fun e w' => e = .returned (.bool true) ∧ Keep (fun g => g < W.heap.size) W w')) f0 w0 := by
  refine wp_seq (x := cA5_43) (y := cA5_44) ?_
  change (Code.region 13 OA5_13 false).wp _ _ _ _
  refine reg_in (l := [0, 1, 2, 3, 4, 5, 6, 7]) rfl ?_
  have F : FE_ _ [] f0 f0 := ⟨R, Ag_.refl _⟩; clear R
  refine sv_ gA5_13_0 (ym_ rfl (F.of h0)) fun a91 e => ?_
  have h72 := pt_ F e; replace F := pu_ F e; clear e
  refine sv_ gA5_13_1 (ym_ rfl (F.of h1)) fun a92 e => ?_
  have h73 := pt_ F e; replace F := pu_ F e; replace h72 := so_ e h72; clear e
  have Y : (execOp a92.eval oA5_13_2).run Try.prog w0 = .ok (.enter 19 #[.string (⟨#[47, 47]⟩), .int .i64 a, .int .i64 b]) w0 := by unfold oA5_13_2; go_simp
  refine st_call gA5_13_2 rfl (wanted_free rfl) Y ((lworth_bal (ev_quo0 HC.out) (by decide) HA.out HB.out).mono ?_); clear Y
  rintro e9 w93 ⟨rfl, kk⟩
  replace K1 := keep_onto K1 kk
  clear kk
  refine ⟨_, rfl, fun a94 e => ?_⟩
  clear h72 h73; have h74 := pt_ F e; replace F := pu_ F e; clear e
  refine sv_ gA5_13_3 (ym_ rfl h74) fun a95 e => ?_
  clear h74; have h71 := pt_ F e; replace F := pu_ F e; clear e
  refine sv_ gA5_13_4 (ye20_ rfl h71) fun a96 e => ?_
  have h75 := pt_ F e; replace F := pu_ F e; replace h71 := so_ e h71; clear e
  refine sv_ gA5_13_5 (ye21_ rfl h71) fun a97 e => ?_
  clear h71; have h76 := pt_ F e; replace F := pu_ F e; replace h75 := so_ e h75; clear e
  refine sv_ gA5_13_6 (ya_ rfl h75) fun a98 e => ?_
  clear h75; have h12 := pt_ F e; replace F := pu_ F e; replace h76 := so_ e h76; clear e
  refine sv_ gA5_13_7 (ya_ rfl h76) fun a99 e => ?_
  clear h76; have h6 := pt_ F e; replace F := pu_ F e; replace h12 := so_ e h12; clear e
  refine st_end ?_
  replace h0 := F.of h0; replace h1 := F.of h1; have R := F.r; clear F
  change (cA5_44).wp _ _ _ _
  refine wp_seq (x := cA5_45) (y := cA5_46) ?_
  change (Code.region 14 OA5_14 false).wp _ _ _ _
  refine reg_in (l := [0, 1, 2, 3, 4, 5, 6, 7]) rfl ?_
  have F : FE_ _ [] a99 a99 := ⟨R, Ag_.refl _⟩; clear R
  refine sv_ gA5_14_0 (ym_ rfl (F.of h0)) fun a100 e => ?_
  have h78 := pt_ F e; replace F := pu_ F e; clear e
  refine sv_ gA5_14_1 (ym_ rfl (F.of h1)) fun a101 e => ?_
  have h79 := pt_ F e; replace F := pu_ F e; replace h78 := so_ e h78; clear e
  have Y : (execOp a101.eval oA5_14_2).run Try.prog w93 = .ok (.enter 19 #[.string (⟨#[114, 101, 109]⟩), .int .i64 a, .int .i64 b]) w93 := by unfold oA5_14_2; go_simp
  refine st_call gA5_14_2 rfl (wanted_free rfl) Y ((lworth_bal (ev_rem0 HC.out) (by decide) HA.out HB.out).mono ?_); clear Y
  rintro e9 w102 ⟨rfl, kk⟩
  replace K1 := keep_onto K1 kk
  clear kk
  refine ⟨_, rfl, fun a103 e => ?_⟩
  clear h78 h79; have h80 := pt_ F e; replace F := pu_ F e; clear e
  refine sv_ gA5_14_3 (ym_ rfl h80) fun a104 e => ?_
  clear h80; have h77 := pt_ F e; replace F := pu_ F e; clear e
  refine sv_ gA5_14_4 (ye20_ rfl h77) fun a105 e => ?_
  have h81 := pt_ F e; replace F := pu_ F e; replace h77 := so_ e h77; clear e
  refine sv_ gA5_14_5 (ye21_ rfl h77) fun a106 e => ?_
  clear h77; have h82 := pt_ F e; replace F := pu_ F e; replace h81 := so_ e h81; clear e
  refine sv_ gA5_14_6 (ya_ rfl h81) fun a107 e => ?_
  clear h81; have h13 := pt_ F e; replace F := pu_ F e; replace h82 := so_ e h82; clear e
  refine sv_ gA5_14_7 (ya_ rfl h82) fun a108 e => ?_
  clear h82; have h14 := pt_ F e; replace F := pu_ F e; replace h13 := so_ e h13; clear e
  refine st_end ?_
  replace h0 := F.of h0; replace h1 := F.of h1; replace h6 := F.of h6; replace h12 := F.of h12; have R := F.r; clear F
  change (cA5_46).wp _ _ _ _
  refine wp_seq (x := cA5_47) (y := cA5_48) ?_
  change (Code.region 15 OA5_15 false).wp _ _ _ _
  refine reg_in (l := [0, 1, 2, 3, 4, 5, 6, 7]) rfl ?_
  have F : FE_ _ [] a108 a108 := ⟨R, Ag_.refl _⟩; clear R
  refine sv_ gA5_15_0 (ym_ rfl (F.of h0)) fun a109 e => ?_
  have h84 := pt_ F e; replace F := pu_ F e; clear e
  refine sv_ gA5_15_1 (ym_ rfl (F.of h1)) fun a110 e => ?_
  have h85 := pt_ F e; replace F := pu_ F e; replace h84 := so_ e h84; clear e
  have Y : (execOp a110.eval oA5_15_2).run Try.prog w102 = .ok (.enter 19 #[.string (⟨#[109, 111, 100]⟩), .int .i64 a, .int .i64 b]) w102 := by unfold oA5_15_2; go_simp
  refine st_call gA5_15_2 rfl (wanted_free rfl) Y ((lworth_bal (ev_mod0 HC.out) (by decide) HA.out HB.out).mono ?_); clear Y
  rintro e9 w111 ⟨rfl, kk⟩
  replace K1 := keep_onto K1 kk
  clear kk
  refine ⟨_, rfl, fun a112 e => ?_⟩
  clear h84 h85; have h86 := pt_ F e; replace F := pu_ F e; clear e
  refine sv_ gA5_15_3 (ym_ rfl h86) fun a113 e => ?_
  clear h86; have h83 := pt_ F e; replace F := pu_ F e; clear e
  refine sv_ gA5_15_4 (ye20_ rfl h83) fun a114 e => ?_
  have h87 := pt_ F e; replace F := pu_ F e; replace h83 := so_ e h83; clear e
  refine sv_ gA5_15_5 (ye21_ rfl h83) fun a115 e => ?_
  clear h83; have h88 := pt_ F e; replace F := pu_ F e; replace h87 := so_ e h87; clear e
  refine sv_ gA5_15_6 (ya_ rfl h87) fun a116 e => ?_
  clear h87; have h15 := pt_ F e; replace F := pu_ F e; replace h88 := so_ e h88; clear e
  refine sv_ gA5_15_7 (ya_ rfl h88) fun a117 e => ?_
  clear h88; have h16 := pt_ F e; replace F := pu_ F e; replace h15 := so_ e h15; clear e
  refine st_end ?_
  replace h0 := F.of h0; replace h1 := F.of h1; replace h6 := F.of h6; replace h12 := F.of h12; replace h13 := F.of h13; replace h14 := F.of h14; have R := F.r; clear F
  change (cA5_48).wp _ _ _ _
  refine js_ (x := cA5_49) (y := cA5_56) (fun fX wX => FrS 192 fX ∧ fX.tmps[0]? = some (.int .i64 a) ∧ fX.tmps[1]? = some (.int .i64 b) ∧ fX.tmps[6]? = some (.bool false) ∧ fX.tmps[12]? = some (.int .i64 0) ∧ fX.tmps[13]? = some (.int .i64 0) ∧ fX.tmps[15]? = some (.int .i64 0) ∧ Keep (fun g => g < W.heap.size) W wX) ?_ ?_
  ·
    refine wp_seq (x := cA5_50) (y := cA5_51) ?_
    change (Code.region 16 OA5_16 false).wp _ _ _ _
    refine reg_in (l := [0, 1, 2, 3, 4, 5, 6, 7, 8, 9, 10, 11, 12, 13, 14, 15, 16, 17, 18, 19, 20, 21, 22, 23, 24, 25, 26, 27, 28, 29, 30, 31, 32, 33, 34]) rfl ?_
    have F : FE_ _ [] a117 a117 := ⟨R, Ag_.refl _⟩; clear R
    refine sv_ gA5_16_0 (ym_ rfl (F.of h1)) fun a118 e => ?_
    have h89 := pt_ F e; replace F := pu_ F e; clear e
    obtain ⟨b119, hb119⟩ : ∃ x, (((b : Int) != (0 : Int))) = x := ⟨_, rfl⟩
    have Y : (execOp a118.eval oA5_16_1).run Try.prog w111 = .ok (.value (.bool b119)) w111 := by rw [← hb119]; unfold oA5_16_1; go_simp
    refine sv_ gA5_16_1 Y fun a120 e => ?_; clear Y
    clear h89; have h90 := pt_ F e; replace F := pu_ F e; clear e
    refine sv_ gA5_16_2 (ym_ rfl h90) fun a121 e => ?_
    clear h90; have h91 := pt_ F e; replace F := pu_ F e; clear e
    cases b119 with
    | false =>
      have fb119 := hb119; clear hb119
      simp only [decide_eq_true_eq, decide_eq_false_iff_not, bne_iff_ne, bne_eq_false_iff_eq, beq_iff_eq, beq_eq_false_iff_ne, ne_eq, Bool.not_eq_true', Bool.not_eq_false', Bool.not_eq_eq_eq_not, Bool.not_true, Bool.not_false] at fb119
      refine st_not gA5_16_3 rfl (wanted_is (j := 2) (d := 91) rfl rfl h91 rfl) fun a122 e => ?_
      have h92 := pt_ F e; replace F := pu_ F e; replace h91 := so_ e h91; clear e
      refine st_not gA5_16_4 rfl (wanted_is (j := 2) (d := 91) rfl rfl h91 rfl) fun a123 e => ?_
      clear h92; have h93 := pt_ F e; replace F := pu_ F e; replace h91 := so_ e h91; clear e
      refine st_not gA5_16_5 rfl (wanted_is (j := 2) (d := 91) rfl rfl h91 rfl) fun a124 e => ?_
      clear h93; have h94 := pt_ F e; replace F := pu_ F e; replace h91 := so_ e h91; clear e
      refine st_not gA5_16_6 rfl (wanted_un (j := 5) (d := 94) rfl rfl h94) fun a125 e => ?_
      have h95 := pt_ F e; replace F := pu_ F e; replace h91 := so_ e h91; replace h94 := so_ e h94; clear e
      refine st_not gA5_16_7 rfl (wanted_un (j := 5) (d := 94) rfl rfl h94) fun a126 e => ?_
      clear h95; have h96 := pt_ F e; replace F := pu_ F e; replace h91 := so_ e h91; replace h94 := so_ e h94; clear e
      refine st_not gA5_16_8 rfl (wanted_is (j := 2) (d := 91) rfl rfl h91 rfl) fun a127 e => ?_
      clear h94 h96; have h97 := pt_ F e; replace F := pu_ F e; replace h91 := so_ e h91; clear e
      refine st_not gA5_16_9 rfl (wanted_is (j := 2) (d := 91) rfl rfl h91 rfl) fun a128 e => ?_
      clear h97; have h98 := pt_ F e; replace F := pu_ F e; replace h91 := so_ e h91; clear e
      refine st_not gA5_16_10 rfl (wanted_un (j := 9) (d := 98) rfl rfl h98) fun a129 e => ?_
      have h99 := pt_ F e; replace F := pu_ F e; replace h91 := so_ e h91; replace h98 := so_ e h98; clear e
      refine st_not gA5_16_11 rfl (wanted_un (j := 9) (d := 98) rfl rfl h98) fun a130 e => ?_
      clear h99; have h100 := pt_ F e; replace F := pu_ F e; replace h91 := so_ e h91; replace h98 := so_ e h98; clear e
      refine st_not gA5_16_12 rfl (wanted_un (j := 9) (d := 98) rfl rfl h98) fun a131 e => ?_
      clear h100; have h101 := pt_ F e; replace F := pu_ F e; replace h91 := so_ e h91; replace h98 := so_ e h98; clear e
      refine st_not gA5_16_13 rfl (wanted_un (j := 12) (d := 101) rfl rfl h101) fun a132 e => ?_
      have h102 := pt_ F e; replace F := pu_ F e; replace h91 := so_ e h91; replace h98 := so_ e h98; replace h101 := so_ e h101; clear e
      refine st_not gA5_16_14 rfl (wanted_un (j := 12) (d := 101) rfl rfl h101) fun a133 e => ?_
      clear h102; have h103 := pt_ F e; replace F := pu_ F e; replace h91 := so_ e h91; replace h98 := so_ e h98; replace h101 := so_ e h101; clear e
      refine st_not gA5_16_15 rfl (wanted_un (j := 12) (d := 101) rfl rfl h101) fun a134 e => ?_
      clear h103; have h104 := pt_ F e; replace F := pu_ F e; replace h91 := so_ e h91; replace h98 := so_ e h98; replace h101 := so_ e h101; clear e
      refine st_not gA5_16_16 rfl (wanted_un (j := 15) (d := 104) rfl rfl h104) fun a135 e => ?_
      have h105 := pt_ F e; replace F := pu_ F e; replace h91 := so_ e h91; replace h98 := so_ e h98; replace h101 := so_ e h101; replace h104 := so_ e h104; clear e
      refine st_not gA5_16_17 rfl (wanted_un (j := 15) (d := 104) rfl rfl h104) fun a136 e => ?_
      clear h105; have h106 := pt_ F e; replace F := pu_ F e; replace h91 := so_ e h91; replace h98 := so_ e h98; replace h101 := so_ e h101; replace h104 := so_ e h104; clear e
      refine st_not gA5_16_18 rfl (wanted_un (j := 12) (d := 101) rfl rfl h101) fun a137 e => ?_
      clear h104 h106; have h107 := pt_ F e; replace F := pu_ F e; replace h91 := so_ e h91; replace h98 := so_ e h98; replace h101 := so_ e h101; clear e
      refine st_not gA5_16_19 rfl (wanted_un (j := 9) (d := 98) rfl rfl h98) fun a138 e => ?_
      clear h101 h107; have h108 := pt_ F e; replace F := pu_ F e; replace h91 := so_ e h91; replace h98 := so_ e h98; clear e
      refine st_not gA5_16_20 rfl (wanted_is (j := 2) (d := 91) rfl rfl h91 rfl) fun a139 e => ?_
      clear h98 h108; have h109 := pt_ F e; replace F := pu_ F e; replace h91 := so_ e h91; clear e
      have Y : (execOp a139.eval oA5_16_21).run Try.prog w111 = .ok (.value (.bool false)) w111 := by unfold oA5_16_21; go_simp
      refine sv_ gA5_16_21 Y fun a140 e => ?_; clear Y
      clear h91 h109; have h110 := pt_ F e; replace F := pu_ F e; clear e
      refine sv_ gA5_16_22 (ym_ rfl h110) fun a141 e => ?_
      clear h110; have h111 := pt_ F e; replace F := pu_ F e; clear e
      refine st_val gA5_16_23 rfl (wanted_is (j := 22) (d := 111) rfl rfl h111 rfl) (ym_ rfl (F.of h1)) fun a142 e => ?_
      have h112 := pt_ F e; replace F := pu_ F e; replace h111 := so_ e h111; clear e
      obtain ⟨b143, hb143⟩ : ∃ x, (((b : Int) == (0 : Int))) = x := ⟨_, rfl⟩
      have Y : (execOp a142.eval oA5_16_24).run Try.prog w111 = .ok (.value (.bool b143)) w111 := by rw [← hb143]; unfold oA5_16_24; go_simp
      refine st_val gA5_16_24 rfl (wanted_is (j := 22) (d := 111) rfl rfl h111 rfl) Y fun a144 e => ?_; clear Y
      clear h112; have h113 := pt_ F e; replace F := pu_ F e; replace h111 := so_ e h111; clear e
      refine st_val gA5_16_25 rfl (wanted_is (j := 22) (d := 111) rfl rfl h111 rfl) (ym_ rfl h113) fun a145 e => ?_
      clear h113; have h114 := pt_ F e; replace F := pu_ F e; replace h111 := so_ e h111; clear e
      cases b143 with
      | false =>
        have fb143 := hb143; clear hb143
        simp only [decide_eq_true_eq, decide_eq_false_iff_not, bne_iff_ne, bne_eq_false_iff_eq, beq_iff_eq, beq_eq_false_iff_ne, ne_eq, Bool.not_eq_true', Bool.not_eq_false', Bool.not_eq_eq_eq_not, Bool.not_true, Bool.not_false] at fb143
        refine st_not gA5_16_26 rfl (wanted_is (j := 25) (d := 114) rfl rfl h114 rfl) fun a146 e => ?_
        have h115 := pt_ F e; replace F := pu_ F e; replace h111 := so_ e h111; replace h114 := so_ e h114; clear e
        refine st_not gA5_16_27 rfl (wanted_is (j := 25) (d := 114) rfl rfl h114 rfl) fun a147 e => ?_
        clear h115; have h116 := pt_ F e; replace F := pu_ F e; replace h111 := so_ e h111; replace h114 := so_ e h114; clear e
        refine st_not gA5_16_28 rfl (wanted_un (j := 27) (d := 116) rfl rfl h116) fun a148 e => ?_
        have h117 := pt_ F e; replace F := pu_ F e; replace h111 := so_ e h111; replace h114 := so_ e h114; replace h116 := so_ e h116; clear e
        refine st_not gA5_16_29 rfl (wanted_is (j := 25) (d := 114) rfl rfl h114 rfl) fun a149 e => ?_
        clear h116 h117; have h118 := pt_ F e; replace F := pu_ F e; replace h111 := so_ e h111; replace h114 := so_ e h114; clear e
        refine st_not gA5_16_30 rfl (wanted_is (j := 25) (d := 114) rfl rfl h114 rfl) fun a150 e => ?_
        clear h118; have h119 := pt_ F e; replace F := pu_ F e; replace h111 := so_ e h111; replace h114 := so_ e h114; clear e
        refine st_not gA5_16_31 rfl (wanted_un (j := 30) (d := 119) rfl rfl h119) fun a151 e => ?_
        have h120 := pt_ F e; replace F := pu_ F e; replace h111 := so_ e h111; replace h114 := so_ e h114; replace h119 := so_ e h119; clear e
        refine st_not gA5_16_32 rfl (wanted_is (j := 25) (d := 114) rfl rfl h114 rfl) fun a152 e => ?_
        clear h119 h120; have h121 := pt_ F e; replace F := pu_ F e; replace h111 := so_ e h111; replace h114 := so_ e h114; clear e
        have Y : (execOp a152.eval oA5_16_33).run Try.prog w111 = .ok (.value (.bool false)) w111 := by unfold oA5_16_33; go_simp
        refine st_val gA5_16_33 rfl (wanted_is (j := 22) (d := 111) rfl rfl h111 rfl) Y fun a153 e => ?_; clear Y
        clear h114 h121; have h122 := pt_ F e; replace F := pu_ F e; replace h111 := so_ e h111; clear e
        have Y : (execOp a153.eval oA5_16_34).run Try.prog w111 = .ok (.value (.bool false)) w111 := by unfold oA5_16_34; go_simp
        refine sv_ gA5_16_34 Y fun a154 e => ?_; clear Y
        clear h111 h122; have h123 := pt_ F e; replace F := pu_ F e; clear e
        refine st_end ?_
        replace h0 := F.of h0; replace h1 := F.of h1; replace h6 := F.of h6; replace h12 := F.of h12; replace h13 := F.of h13; clear h14; replace h15 := F.of h15; clear h16; have R := F.r; clear F
        change (cA5_51).wp _ _ _ _
        refine wp_cond_false (x := cA5_52) (y := Code.skip) (eval_slot h123) ?_
        refine wp_skip ?_
        exact ⟨R, h0, h1, h6, h12, h13, h15, K1⟩
      | true =>
        have fb143 := hb143; clear hb143
        simp only [decide_eq_true_eq, decide_eq_false_iff_not, bne_iff_ne, bne_eq_false_iff_eq, beq_iff_eq, beq_eq_false_iff_ne, ne_eq, Bool.not_eq_true', Bool.not_eq_false', Bool.not_eq_eq_eq_not, Bool.not_true, Bool.not_false] at fb143
        refine st_val gA5_16_26 rfl (wanted_is (j := 25) (d := 114) rfl rfl h114 rfl) (ym_ rfl (F.of h6)) fun a155 e => ?_
        have h115 := pt_ F e; replace F := pu_ F e; replace h111 := so_ e h111; replace h114 := so_ e h114; clear e
        refine st_val gA5_16_27 rfl (wanted_is (j := 25) (d := 114) rfl rfl h114 rfl) (ym_ rfl h115) fun a156 e => ?_
        clear h115; have h116 := pt_ F e; replace F := pu_ F e; replace h111 := so_ e h111; replace h114 := so_ e h114; clear e
        refine st_val gA5_16_28 rfl (wanted_is (j := 27) (d := 116) rfl rfl h116 rfl) (ym_ rfl (F.of h14)) fun a157 e => ?_
        have h117 := pt_ F e; replace F := pu_ F e; replace h111 := so_ e h111; replace h114 := so_ e h114; replace h116 := so_ e h116; clear e
        have Y : (execOp a157.eval oA5_16_29).run Try.prog w111 = .ok (.value (.bool false)) w111 := by unfold oA5_16_29; go_simp
        refine st_val gA5_16_29 rfl (wanted_is (j := 25) (d := 114) rfl rfl h114 rfl) Y fun a158 e => ?_; clear Y
        clear h116 h117; have h118 := pt_ F e; replace F := pu_ F e; replace h111 := so_ e h111; replace h114 := so_ e h114; clear e
        refine st_val gA5_16_30 rfl (wanted_is (j := 25) (d := 114) rfl rfl h114 rfl) (ym_ rfl h118) fun a159 e => ?_
        clear h118; have h119 := pt_ F e; replace F := pu_ F e; replace h111 := so_ e h111; replace h114 := so_ e h114; clear e
        refine st_val gA5_16_31 rfl (wanted_is (j := 30) (d := 119) rfl rfl h119 rfl) (ym_ rfl (F.of h16)) fun a160 e => ?_
        have h120 := pt_ F e; replace F := pu_ F e; replace h111 := so_ e h111; replace h114 := so_ e h114; replace h119 := so_ e h119; clear e
        have Y : (execOp a160.eval oA5_16_32).run Try.prog w111 = .ok (.value (.bool false)) w111 := by unfold oA5_16_32; go_simp
        refine st_val gA5_16_32 rfl (wanted_is (j := 25) (d := 114) rfl rfl h114 rfl) Y fun a161 e => ?_; clear Y
        clear h119 h120; have h121 := pt_ F e; replace F := pu_ F e; replace h111 := so_ e h111; replace h114 := so_ e h114; clear e
        have Y : (execOp a161.eval oA5_16_33).run Try.prog w111 = .ok (.value (.bool false)) w111 := by unfold oA5_16_33; go_simp
        refine st_val gA5_16_33 rfl (wanted_is (j := 22) (d := 111) rfl rfl h111 rfl) Y fun a162 e => ?_; clear Y
        clear h114 h121; have h122 := pt_ F e; replace F := pu_ F e; replace h111 := so_ e h111; clear e
        have Y : (execOp a162.eval oA5_16_34).run Try.prog w111 = .ok (.value (.bool false)) w111 := by unfold oA5_16_34; go_simp
        refine sv_ gA5_16_34 Y fun a163 e => ?_; clear Y
        clear h111 h122; have h123 := pt_ F e; replace F := pu_ F e; clear e
        refine st_end ?_
        replace h0 := F.of h0; replace h1 := F.of h1; replace h6 := F.of h6; replace h12 := F.of h12; replace h13 := F.of h13; clear h14; replace h15 := F.of h15; clear h16; have R := F.r; clear F
        change (cA5_51).wp _ _ _ _
        refine wp_cond_false (x := cA5_52) (y := Code.skip) (eval_slot h123) ?_
        refine wp_skip ?_
        exact ⟨R, h0, h1, h6, h12, h13, h15, K1⟩
    | true =>
      have fb119 := hb119; clear hb119
      simp only [decide_eq_true_eq, decide_eq_false_iff_not, bne_iff_ne, bne_eq_false_iff_eq, beq_iff_eq, beq_eq_false_iff_ne, ne_eq, Bool.not_eq_true', Bool.not_eq_false', Bool.not_eq_eq_eq_not, Bool.not_true, Bool.not_false] at fb119
      refine st_val gA5_16_3 rfl (wanted_is (j := 2) (d := 91) rfl rfl h91 rfl) (ym_ rfl (F.of h14)) fun a164 e => ?_
      have h92 := pt_ F e; replace F := pu_ F e; replace h91 := so_ e h91; clear e
      have Y : (execOp a164.eval oA5_16_4).run Try.prog w111 = .ok (.value (.bool true)) w111 := by unfold oA5_16_4; go_simp
      refine st_val gA5_16_4 rfl (wanted_is (j := 2) (d := 91) rfl rfl h91 rfl) Y fun a165 e => ?_; clear Y
      clear h92; have h93 := pt_ F e; replace F := pu_ F e; replace h91 := so_ e h91; clear e
      refine st_val gA5_16_5 rfl (wanted_is (j := 2) (d := 91) rfl rfl h91 rfl) (ym_ rfl h93) fun a166 e => ?_
      clear h93; have h94 := pt_ F e; replace F := pu_ F e; replace h91 := so_ e h91; clear e
      refine st_not gA5_16_6 rfl (wanted_is (j := 5) (d := 94) rfl rfl h94 rfl) fun a167 e => ?_
      have h95 := pt_ F e; replace F := pu_ F e; replace h91 := so_ e h91; replace h94 := so_ e h94; clear e
      refine st_not gA5_16_7 rfl (wanted_is (j := 5) (d := 94) rfl rfl h94 rfl) fun a168 e => ?_
      clear h95; have h96 := pt_ F e; replace F := pu_ F e; replace h91 := so_ e h91; replace h94 := so_ e h94; clear e
      have Y : (execOp a168.eval oA5_16_8).run Try.prog w111 = .ok (.value (.bool true)) w111 := by unfold oA5_16_8; go_simp
      refine st_val gA5_16_8 rfl (wanted_is (j := 2) (d := 91) rfl rfl h91 rfl) Y fun a169 e => ?_; clear Y
      clear h94 h96; have h97 := pt_ F e; replace F := pu_ F e; replace h91 := so_ e h91; clear e
      refine st_val gA5_16_9 rfl (wanted_is (j := 2) (d := 91) rfl rfl h91 rfl) (ym_ rfl h97) fun a170 e => ?_
      clear h97; have h98 := pt_ F e; replace F := pu_ F e; replace h91 := so_ e h91; clear e
      refine st_not gA5_16_10 rfl (wanted_is (j := 9) (d := 98) rfl rfl h98 rfl) fun a171 e => ?_
      have h99 := pt_ F e; replace F := pu_ F e; replace h91 := so_ e h91; replace h98 := so_ e h98; clear e
      refine st_not gA5_16_11 rfl (wanted_is (j := 9) (d := 98) rfl rfl h98 rfl) fun a172 e => ?_
      clear h99; have h100 := pt_ F e; replace F := pu_ F e; replace h91 := so_ e h91; replace h98 := so_ e h98; clear e
      refine st_not gA5_16_12 rfl (wanted_is (j := 9) (d := 98) rfl rfl h98 rfl) fun a173 e => ?_
      clear h100; have h101 := pt_ F e; replace F := pu_ F e; replace h91 := so_ e h91; replace h98 := so_ e h98; clear e
      refine st_not gA5_16_13 rfl (wanted_un (j := 12) (d := 101) rfl rfl h101) fun a174 e => ?_
      have h102 := pt_ F e; replace F := pu_ F e; replace h91 := so_ e h91; replace h98 := so_ e h98; replace h101 := so_ e h101; clear e
      refine st_not gA5_16_14 rfl (wanted_un (j := 12) (d := 101) rfl rfl h101) fun a175 e => ?_
      clear h102; have h103 := pt_ F e; replace F := pu_ F e; replace h91 := so_ e h91; replace h98 := so_ e h98; replace h101 := so_ e h101; clear e
      refine st_not gA5_16_15 rfl (wanted_un (j := 12) (d := 101) rfl rfl h101) fun a176 e => ?_
      clear h103; have h104 := pt_ F e; replace F := pu_ F e; replace h91 := so_ e h91; replace h98 := so_ e h98; replace h101 := so_ e h101; clear e
      refine st_not gA5_16_16 rfl (wanted_un (j := 15) (d := 104) rfl rfl h104) fun a177 e => ?_
      have h105 := pt_ F e; replace F := pu_ F e; replace h91 := so_ e h91; replace h98 := so_ e h98; replace h101 := so_ e h101; replace h104 := so_ e h104; clear e
      refine st_not gA5_16_17 rfl (wanted_un (j := 15) (d := 104) rfl rfl h104) fun a178 e => ?_
      clear h105; have h106 := pt_ F e; replace F := pu_ F e; replace h91 := so_ e h91; replace h98 := so_ e h98; replace h101 := so_ e h101; replace h104 := so_ e h104; clear e
      refine st_not gA5_16_18 rfl (wanted_un (j := 12) (d := 101) rfl rfl h101) fun a179 e => ?_
      clear h104 h106; have h107 := pt_ F e; replace F := pu_ F e; replace h91 := so_ e h91; replace h98 := so_ e h98; replace h101 := so_ e h101; clear e
      refine st_not gA5_16_19 rfl (wanted_is (j := 9) (d := 98) rfl rfl h98 rfl) fun a180 e => ?_
      clear h101 h107; have h108 := pt_ F e; replace F := pu_ F e; replace h91 := so_ e h91; replace h98 := so_ e h98; clear e
      have Y : (execOp a180.eval oA5_16_20).run Try.prog w111 = .ok (.value (.bool true)) w111 := by unfold oA5_16_20; go_simp
      refine st_val gA5_16_20 rfl (wanted_is (j := 2) (d := 91) rfl rfl h91 rfl) Y fun a181 e => ?_; clear Y
      clear h98 h108; have h109 := pt_ F e; replace F := pu_ F e; replace h91 := so_ e h91; clear e
      have Y : (execOp a181.eval oA5_16_21).run Try.prog w111 = .ok (.value (.bool true)) w111 := by unfold oA5_16_21; go_simp
      refine sv_ gA5_16_21 Y fun a182 e => ?_; clear Y
      clear h91 h109; have h110 := pt_ F e; replace F := pu_ F e; clear e
      refine sv_ gA5_16_22 (ym_ rfl h110) fun a183 e => ?_
      clear h110; have h111 := pt_ F e; replace F := pu_ F e; clear e
      refine st_not gA5_16_23 rfl (wanted_is (j := 22) (d := 111) rfl rfl h111 rfl) fun a184 e => ?_
      have h112 := pt_ F e; replace F := pu_ F e; replace h111 := so_ e h111; clear e
      refine st_not gA5_16_24 rfl (wanted_is (j := 22) (d := 111) rfl rfl h111 rfl) fun a185 e => ?_
      clear h112; have h113 := pt_ F e; replace F := pu_ F e; replace h111 := so_ e h111; clear e
      refine st_not gA5_16_25 rfl (wanted_is (j := 22) (d := 111) rfl rfl h111 rfl) fun a186 e => ?_
      clear h113; have h114 := pt_ F e; replace F := pu_ F e; replace h111 := so_ e h111; clear e
      refine st_not gA5_16_26 rfl (wanted_un (j := 25) (d := 114) rfl rfl h114) fun a187 e => ?_
      have h115 := pt_ F e; replace F := pu_ F e; replace h111 := so_ e h111; replace h114 := so_ e h114; clear e
      refine st_not gA5_16_27 rfl (wanted_un (j := 25) (d := 114) rfl rfl h114) fun a188 e => ?_
      clear h115; have h116 := pt_ F e; replace F := pu_ F e; replace h111 := so_ e h111; replace h114 := so_ e h114; clear e
      refine st_not gA5_16_28 rfl (wanted_un (j := 27) (d := 116) rfl rfl h116) fun a189 e => ?_
      have h117 := pt_ F e; replace F := pu_ F e; replace h111 := so_ e h111; replace h114 := so_ e h114; replace h116 := so_ e h116; clear e
      refine st_not gA5_16_29 rfl (wanted_un (j := 25) (d := 114) rfl rfl h114) fun a190 e => ?_
      clear h116 h117; have h118 := pt_ F e; replace F := pu_ F e; replace h111 := so_ e h111; replace h114 := so_ e h114; clear e
      refine st_not gA5_16_30 rfl (wanted_un (j := 25) (d := 114) rfl rfl h114) fun a191 e => ?_
      clear h118; have h119 := pt_ F e; replace F := pu_ F e; replace h111 := so_ e h111; replace h114 := so_ e h114; clear e
      refine st_not gA5_16_31 rfl (wanted_un (j := 30) (d := 119) rfl rfl h119) fun a192 e => ?_
      have h120 := pt_ F e; replace F := pu_ F e; replace h111 := so_ e h111; replace h114 := so_ e h114; replace h119 := so_ e h119; clear e
      refine st_not gA5_16_32 rfl (wanted_un (j := 25) (d := 114) rfl rfl h114) fun a193 e => ?_
      clear h119 h120; have h121 := pt_ F e; replace F := pu_ F e; replace h111 := so_ e h111; replace h114 := so_ e h114; clear e
      refine st_not gA5_16_33 rfl (wanted_is (j := 22) (d := 111) rfl rfl h111 rfl) fun a194 e => ?_
      clear h114 h121; have h122 := pt_ F e; replace F := pu_ F e; replace h111 := so_ e h111; clear e
      have Y : (execOp a194.eval oA5_16_34).run Try.prog w111 = .ok (.value (.bool true)) w111 := by unfold oA5_16_34; go_simp
      refine sv_ gA5_16_34 Y fun a195 e => ?_; clear Y
      clear h111 h122; have h123 := pt_ F e; replace F := pu_ F e; clear e
      refine st_end ?_
      replace h0 := F.of h0; replace h1 := F.of h1; replace h6 := F.of h6; replace h12 := F.of h12; replace h13 := F.of h13; clear h14; replace h15 := F.of h15; clear h16; have R := F.r; clear F
      change (cA5_51).wp _ _ _ _
      refine wp_cond_true (x := cA5_52) (y := Code.skip) (eval_slot h123) ?_
      refine wp_seq (x := cA5_53) (y := Code.ret) ?_
      change (Code.region 17 OA5_17 false).wp _ _ _ _
      refine reg_in (l := [0]) rfl ?_
      have F : FE_ _ [] a195 a195 := ⟨R, Ag_.refl _⟩; clear R
      have Y : (execOp a195.eval oA5_17_0).run Try.prog w111 = .ok (.value (.bool false)) w111 := by unfold oA5_17_0; go_simp
      refine sv_ gA5_17_0 Y fun a196 e => ?_; clear Y
      have h4 := pt_ F e; replace F := pu_ F e; clear e
      refine st_end ?_
      replace h0 := F.of h0; replace h1 := F.of h1; replace h6 := F.of h6; replace h12 := F.of h12; replace h13 := F.of h13; replace h15 := F.of h15; clear h123; have R := F.r; clear F
      change (Code.ret).wp _ _ _ _
      refine wp_ret ?_
      change bodyPost Try.prog Try.f5 (fun e w' => e = .returned (.bool true) ∧ Keep (fun g => g < W.heap.size) W w') .ret a196 w111
      refine ret_one rfl R h4 ?_
      exfalso; first | (have h8 := HC.out; omega) | (have a1 := HHL.out; have a2 := HHG.out; have a3 := HHQ.out; have a4 := HHH.out; simp at a1 a2 a3 a4; omega)
  ·
    clear R h0 h1 h6 h12 h13 h15 K1 h14 h16
    rintro a197 w198 ⟨R, h0, h1, h6, h12, h13, h15, K1⟩
    refine wp_seq (x := cA5_57) (y := cA5_64) ?_
    refine wp_seq (x := cA5_58) (y := cA5_59) ?_
    change (Code.region 18 OA5_18 false).wp _ _ _ _
    refine reg_in (l := [0, 1, 2, 3, 4, 5, 6, 7, 8, 9, 10, 11, 12, 13, 14, 15, 16, 17, 18, 19, 20, 21, 22, 23, 24, 25, 26, 27, 28, 29, 30, 31, 32]) rfl ?_
    have F : FE_ _ [] a197 a197 := ⟨R, Ag_.refl _⟩; clear R
    refine sv_ gA5_18_0 (ym_ rfl (F.of h6)) fun a199 e => ?_
    have h124 := pt_ F e; replace F := pu_ F e; clear e
    refine sv_ gA5_18_1 (ym_ rfl h124) fun a200 e => ?_
    clear h124; have h125 := pt_ F e; replace F := pu_ F e; clear e
    refine st_not gA5_18_2 rfl (wanted_is (j := 1) (d := 125) rfl rfl h125 rfl) fun a201 e => ?_
    have h126 := pt_ F e; replace F := pu_ F e; replace h125 := so_ e h125; clear e
    refine st_not gA5_18_3 rfl (wanted_is (j := 1) (d := 125) rfl rfl h125 rfl) fun a202 e => ?_
    have h127 := pt_ F e; replace F := pu_ F e; replace h125 := so_ e h125; replace h126 := so_ e h126; clear e
    refine st_not gA5_18_4 rfl (wanted_is (j := 1) (d := 125) rfl rfl h125 rfl) fun a203 e => ?_
    clear h126 h127; have h128 := pt_ F e; replace F := pu_ F e; replace h125 := so_ e h125; clear e
    refine st_not gA5_18_5 rfl (wanted_is (j := 1) (d := 125) rfl rfl h125 rfl) fun a204 e => ?_
    have h129 := pt_ F e; replace F := pu_ F e; replace h125 := so_ e h125; replace h128 := so_ e h128; clear e
    refine st_not gA5_18_6 rfl (wanted_is (j := 1) (d := 125) rfl rfl h125 rfl) fun a205 e => ?_
    clear h128 h129; have h130 := pt_ F e; replace F := pu_ F e; replace h125 := so_ e h125; clear e
    refine st_not gA5_18_7 rfl (wanted_is (j := 1) (d := 125) rfl rfl h125 rfl) fun a206 e => ?_
    have h131 := pt_ F e; replace F := pu_ F e; replace h125 := so_ e h125; replace h130 := so_ e h130; clear e
    refine st_not gA5_18_8 rfl (wanted_is (j := 1) (d := 125) rfl rfl h125 rfl) fun a207 e => ?_
    clear h130 h131; have h132 := pt_ F e; replace F := pu_ F e; replace h125 := so_ e h125; clear e
    refine st_not gA5_18_9 rfl (wanted_is (j := 1) (d := 125) rfl rfl h125 rfl) fun a208 e => ?_
    clear h132; have h133 := pt_ F e; replace F := pu_ F e; replace h125 := so_ e h125; clear e
    refine st_not gA5_18_10 rfl (wanted_un (j := 9) (d := 133) rfl rfl h133) fun a209 e => ?_
    have h134 := pt_ F e; replace F := pu_ F e; replace h125 := so_ e h125; replace h133 := so_ e h133; clear e
    refine st_not gA5_18_11 rfl (wanted_un (j := 9) (d := 133) rfl rfl h133) fun a210 e => ?_
    have h135 := pt_ F e; replace F := pu_ F e; replace h125 := so_ e h125; replace h133 := so_ e h133; replace h134 := so_ e h134; clear e
    refine st_not gA5_18_12 rfl (wanted_un (j := 9) (d := 133) rfl rfl h133) fun a211 e => ?_
    clear h134 h135; have h136 := pt_ F e; replace F := pu_ F e; replace h125 := so_ e h125; replace h133 := so_ e h133; clear e
    refine st_not gA5_18_13 rfl (wanted_un (j := 9) (d := 133) rfl rfl h133) fun a212 e => ?_
    clear h136; have h137 := pt_ F e; replace F := pu_ F e; replace h125 := so_ e h125; replace h133 := so_ e h133; clear e
    refine st_not gA5_18_14 rfl (wanted_un (j := 13) (d := 137) rfl rfl h137) fun a213 e => ?_
    have h138 := pt_ F e; replace F := pu_ F e; replace h125 := so_ e h125; replace h133 := so_ e h133; replace h137 := so_ e h137; clear e
    refine st_not gA5_18_15 rfl (wanted_un (j := 13) (d := 137) rfl rfl h137) fun a214 e => ?_
    have h139 := pt_ F e; replace F := pu_ F e; replace h125 := so_ e h125; replace h133 := so_ e h133; replace h137 := so_ e h137; replace h138 := so_ e h138; clear e
    refine st_not gA5_18_16 rfl (wanted_un (j := 13) (d := 137) rfl rfl h137) fun a215 e => ?_
    have h140 := pt_ F e; replace F := pu_ F e; replace h125 := so_ e h125; replace h133 := so_ e h133; replace h137 := so_ e h137; replace h138 := so_ e h138; replace h139 := so_ e h139; clear e
    refine st_not gA5_18_17 rfl (wanted_un (j := 13) (d := 137) rfl rfl h137) fun a216 e => ?_
    clear h139 h140; have h141 := pt_ F e; replace F := pu_ F e; replace h125 := so_ e h125; replace h133 := so_ e h133; replace h137 := so_ e h137; replace h138 := so_ e h138; clear e
    refine st_not gA5_18_18 rfl (wanted_un (j := 13) (d := 137) rfl rfl h137) fun a217 e => ?_
    clear h138 h141; have h142 := pt_ F e; replace F := pu_ F e; replace h125 := so_ e h125; replace h133 := so_ e h133; replace h137 := so_ e h137; clear e
    refine st_not gA5_18_19 rfl (wanted_un (j := 9) (d := 133) rfl rfl h133) fun a218 e => ?_
    clear h137 h142; have h143 := pt_ F e; replace F := pu_ F e; replace h125 := so_ e h125; replace h133 := so_ e h133; clear e
    refine st_not gA5_18_20 rfl (wanted_is (j := 1) (d := 125) rfl rfl h125 rfl) fun a219 e => ?_
    clear h133 h143; have h144 := pt_ F e; replace F := pu_ F e; replace h125 := so_ e h125; clear e
    refine st_not gA5_18_21 rfl (wanted_is (j := 1) (d := 125) rfl rfl h125 rfl) fun a220 e => ?_
    clear h144; have h145 := pt_ F e; replace F := pu_ F e; replace h125 := so_ e h125; clear e
    refine st_not gA5_18_22 rfl (wanted_un (j := 21) (d := 145) rfl rfl h145) fun a221 e => ?_
    have h146 := pt_ F e; replace F := pu_ F e; replace h125 := so_ e h125; replace h145 := so_ e h145; clear e
    refine st_not gA5_18_23 rfl (wanted_un (j := 21) (d := 145) rfl rfl h145) fun a222 e => ?_
    clear h146; have h147 := pt_ F e; replace F := pu_ F e; replace h125 := so_ e h125; replace h145 := so_ e h145; clear e
    refine st_not gA5_18_24 rfl (wanted_un (j := 21) (d := 145) rfl rfl h145) fun a223 e => ?_
    clear h147; have h148 := pt_ F e; replace F := pu_ F e; replace h125 := so_ e h125; replace h145 := so_ e h145; clear e
    refine st_not gA5_18_25 rfl (wanted_un (j := 24) (d := 148) rfl rfl h148) fun a224 e => ?_
    have h149 := pt_ F e; replace F := pu_ F e; replace h125 := so_ e h125; replace h145 := so_ e h145; replace h148 := so_ e h148; clear e
    refine st_not gA5_18_26 rfl (wanted_un (j := 24) (d := 148) rfl rfl h148) fun a225 e => ?_
    clear h149; have h150 := pt_ F e; replace F := pu_ F e; replace h125 := so_ e h125; replace h145 := so_ e h145; replace h148 := so_ e h148; clear e
    refine st_not gA5_18_27 rfl (wanted_un (j := 24) (d := 148) rfl rfl h148) fun a226 e => ?_
    have h151 := pt_ F e; replace F := pu_ F e; replace h125 := so_ e h125; replace h145 := so_ e h145; replace h148 := so_ e h148; replace h150 := so_ e h150; clear e
    refine st_not gA5_18_28 rfl (wanted_un (j := 24) (d := 148) rfl rfl h148) fun a227 e => ?_
    clear h151; have h152 := pt_ F e; replace F := pu_ F e; replace h125 := so_ e h125; replace h145 := so_ e h145; replace h148 := so_ e h148; replace h150 := so_ e h150; clear e
    refine st_not gA5_18_29 rfl (wanted_un (j := 24) (d := 148) rfl rfl h148) fun a228 e => ?_
    clear h150 h152; have h153 := pt_ F e; replace F := pu_ F e; replace h125 := so_ e h125; replace h145 := so_ e h145; replace h148 := so_ e h148; clear e
    refine st_not gA5_18_30 rfl (wanted_un (j := 21) (d := 145) rfl rfl h145) fun a229 e => ?_
    clear h148 h153; have h154 := pt_ F e; replace F := pu_ F e; replace h125 := so_ e h125; replace h145 := so_ e h145; clear e
    refine st_not gA5_18_31 rfl (wanted_is (j := 1) (d := 125) rfl rfl h125 rfl) fun a230 e => ?_
    clear h145 h154; have h155 := pt_ F e; replace F := pu_ F e; replace h125 := so_ e h125; clear e
    have Y : (execOp a230.eval oA5_18_32).run Try.prog w198 = .ok (.value (.bool false)) w198 := by unfold oA5_18_32; go_simp
    refine sv_ gA5_18_32 Y fun a231 e => ?_; clear Y
    clear h125 h155; have h156 := pt_ F e; replace F := pu_ F e; clear e
    refine st_end ?_
    replace h0 := F.of h0; replace h1 := F.of h1; clear h6; clear h12; clear h13; clear h15; have R := F.r; clear F
    change (cA5_59).wp _ _ _ _
    refine wp_cond_false (x := cA5_60) (y := Code.skip) (eval_slot h156) ?_
    refine wp_skip ?_
    exact rules_e R h0 h1 K1 HA HB (Lib.hid trivial)
set_option maxRecDepth 100000 in
set_option maxHeartbeats 4000000 in
theorem rules_b {W : World} {a b q0 r0 m0 z0 y0 : Int} {f0 : Act} {w0 : World} (R : FrS 192 f0) (h0 : f0.tmps[0]? = some (.int .i64 a)) (h1 : f0.tmps[1]? = some (.int .i64 b)) (K1 : Keep (fun g => g < W.heap.size) W w0)  (HA : Hid (inR a)) (HB : Hid (inR b)) (HC : Hid (¬ b = 0 ∧ ¬ (a = -9223372036854775808 ∧ b = -1) ∧ (m0 = r0 ∨ m0 = y0) ∧ (m0 ≠ 0 → (m0 < 0 ↔ b < 0)))) (HQ : Hid (evW (opT [47, 47] a b) = .num q0)) (HR : Hid (evW (opT [114, 101, 109] a b) = .num r0)) (HM : Hid (evW (opT [109, 111, 100] a b) = .num m0)) (HZ : Hid (IntKind.i64.wrap (q0 * b) = z0 ∧ IntKind.i64.wrap (z0 + r0) = a ∧ IntKind.i64.wrap (r0 + b) = y0)) : cA5_42.wp Try.prog (bodyPost Try.prog Try.f5 (fun e w' => e = .returned (.bool true) ∧ Keep (fun g => g < W.heap.size) W w')) f0 w0 := by
  refine wp_seq (x := cA5_43) (y := cA5_44) ?_
  change (Code.region 13 OA5_13 false).wp _ _ _ _
  refine reg_in (l := [0, 1, 2, 3, 4, 5, 6, 7]) rfl ?_
  have F : FE_ _ [] f0 f0 := ⟨R, Ag_.refl _⟩; clear R
  refine sv_ gA5_13_0 (ym_ rfl (F.of h0)) fun a232 e => ?_
  have h72 := pt_ F e; replace F := pu_ F e; clear e
  refine sv_ gA5_13_1 (ym_ rfl (F.of h1)) fun a233 e => ?_
  have h73 := pt_ F e; replace F := pu_ F e; replace h72 := so_ e h72; clear e
  have Y : (execOp a233.eval oA5_13_2).run Try.prog w0 = .ok (.enter 19 #[.string (⟨#[47, 47]⟩), .int .i64 a, .int .i64 b]) w0 := by unfold oA5_13_2; go_simp
  refine st_call gA5_13_2 rfl (wanted_free rfl) Y ((lworth_num HQ.out (by decide) HA.out HB.out).mono ?_); clear Y
  rintro e9 w234 ⟨rfl, kk⟩
  replace K1 := keep_onto K1 kk
  clear kk
  refine ⟨_, rfl, fun a235 e => ?_⟩
  clear h72 h73; have h74 := pt_ F e; replace F := pu_ F e; clear e
  refine sv_ gA5_13_3 (ym_ rfl h74) fun a236 e => ?_
  clear h74; have h71 := pt_ F e; replace F := pu_ F e; clear e
  refine sv_ gA5_13_4 (ye20_ rfl h71) fun a237 e => ?_
  have h75 := pt_ F e; replace F := pu_ F e; replace h71 := so_ e h71; clear e
  refine sv_ gA5_13_5 (ye21_ rfl h71) fun a238 e => ?_
  clear h71; have h76 := pt_ F e; replace F := pu_ F e; replace h75 := so_ e h75; clear e
  refine sv_ gA5_13_6 (ya_ rfl h75) fun a239 e => ?_
  clear h75; have h12 := pt_ F e; replace F := pu_ F e; replace h76 := so_ e h76; clear e
  refine sv_ gA5_13_7 (ya_ rfl h76) fun a240 e => ?_
  clear h76; have h6 := pt_ F e; replace F := pu_ F e; replace h12 := so_ e h12; clear e
  refine st_end ?_
  replace h0 := F.of h0; replace h1 := F.of h1; have R := F.r; clear F
  change (cA5_44).wp _ _ _ _
  refine wp_seq (x := cA5_45) (y := cA5_46) ?_
  change (Code.region 14 OA5_14 false).wp _ _ _ _
  refine reg_in (l := [0, 1, 2, 3, 4, 5, 6, 7]) rfl ?_
  have F : FE_ _ [] a240 a240 := ⟨R, Ag_.refl _⟩; clear R
  refine sv_ gA5_14_0 (ym_ rfl (F.of h0)) fun a241 e => ?_
  have h78 := pt_ F e; replace F := pu_ F e; clear e
  refine sv_ gA5_14_1 (ym_ rfl (F.of h1)) fun a242 e => ?_
  have h79 := pt_ F e; replace F := pu_ F e; replace h78 := so_ e h78; clear e
  have Y : (execOp a242.eval oA5_14_2).run Try.prog w234 = .ok (.enter 19 #[.string (⟨#[114, 101, 109]⟩), .int .i64 a, .int .i64 b]) w234 := by unfold oA5_14_2; go_simp
  refine st_call gA5_14_2 rfl (wanted_free rfl) Y ((lworth_num HR.out (by decide) HA.out HB.out).mono ?_); clear Y
  rintro e9 w243 ⟨rfl, kk⟩
  replace K1 := keep_onto K1 kk
  clear kk
  refine ⟨_, rfl, fun a244 e => ?_⟩
  clear h78 h79; have h80 := pt_ F e; replace F := pu_ F e; clear e
  refine sv_ gA5_14_3 (ym_ rfl h80) fun a245 e => ?_
  clear h80; have h77 := pt_ F e; replace F := pu_ F e; clear e
  refine sv_ gA5_14_4 (ye20_ rfl h77) fun a246 e => ?_
  have h81 := pt_ F e; replace F := pu_ F e; replace h77 := so_ e h77; clear e
  refine sv_ gA5_14_5 (ye21_ rfl h77) fun a247 e => ?_
  clear h77; have h82 := pt_ F e; replace F := pu_ F e; replace h81 := so_ e h81; clear e
  refine sv_ gA5_14_6 (ya_ rfl h81) fun a248 e => ?_
  clear h81; have h13 := pt_ F e; replace F := pu_ F e; replace h82 := so_ e h82; clear e
  refine sv_ gA5_14_7 (ya_ rfl h82) fun a249 e => ?_
  clear h82; have h14 := pt_ F e; replace F := pu_ F e; replace h13 := so_ e h13; clear e
  refine st_end ?_
  replace h0 := F.of h0; replace h1 := F.of h1; replace h6 := F.of h6; replace h12 := F.of h12; have R := F.r; clear F
  change (cA5_46).wp _ _ _ _
  refine wp_seq (x := cA5_47) (y := cA5_48) ?_
  change (Code.region 15 OA5_15 false).wp _ _ _ _
  refine reg_in (l := [0, 1, 2, 3, 4, 5, 6, 7]) rfl ?_
  have F : FE_ _ [] a249 a249 := ⟨R, Ag_.refl _⟩; clear R
  refine sv_ gA5_15_0 (ym_ rfl (F.of h0)) fun a250 e => ?_
  have h84 := pt_ F e; replace F := pu_ F e; clear e
  refine sv_ gA5_15_1 (ym_ rfl (F.of h1)) fun a251 e => ?_
  have h85 := pt_ F e; replace F := pu_ F e; replace h84 := so_ e h84; clear e
  have Y : (execOp a251.eval oA5_15_2).run Try.prog w243 = .ok (.enter 19 #[.string (⟨#[109, 111, 100]⟩), .int .i64 a, .int .i64 b]) w243 := by unfold oA5_15_2; go_simp
  refine st_call gA5_15_2 rfl (wanted_free rfl) Y ((lworth_num HM.out (by decide) HA.out HB.out).mono ?_); clear Y
  rintro e9 w252 ⟨rfl, kk⟩
  replace K1 := keep_onto K1 kk
  clear kk
  refine ⟨_, rfl, fun a253 e => ?_⟩
  clear h84 h85; have h86 := pt_ F e; replace F := pu_ F e; clear e
  refine sv_ gA5_15_3 (ym_ rfl h86) fun a254 e => ?_
  clear h86; have h83 := pt_ F e; replace F := pu_ F e; clear e
  refine sv_ gA5_15_4 (ye20_ rfl h83) fun a255 e => ?_
  have h87 := pt_ F e; replace F := pu_ F e; replace h83 := so_ e h83; clear e
  refine sv_ gA5_15_5 (ye21_ rfl h83) fun a256 e => ?_
  clear h83; have h88 := pt_ F e; replace F := pu_ F e; replace h87 := so_ e h87; clear e
  refine sv_ gA5_15_6 (ya_ rfl h87) fun a257 e => ?_
  clear h87; have h15 := pt_ F e; replace F := pu_ F e; replace h88 := so_ e h88; clear e
  refine sv_ gA5_15_7 (ya_ rfl h88) fun a258 e => ?_
  clear h88; have h16 := pt_ F e; replace F := pu_ F e; replace h15 := so_ e h15; clear e
  refine st_end ?_
  replace h0 := F.of h0; replace h1 := F.of h1; replace h6 := F.of h6; replace h12 := F.of h12; replace h13 := F.of h13; replace h14 := F.of h14; have R := F.r; clear F
  change (cA5_48).wp _ _ _ _
  refine js_ (x := cA5_49) (y := cA5_56) (fun fX wX => FrS 192 fX ∧ fX.tmps[0]? = some (.int .i64 a) ∧ fX.tmps[1]? = some (.int .i64 b) ∧ fX.tmps[6]? = some (.bool true) ∧ fX.tmps[12]? = some (.int .i64 q0) ∧ fX.tmps[13]? = some (.int .i64 r0) ∧ fX.tmps[15]? = some (.int .i64 m0) ∧ Keep (fun g => g < W.heap.size) W wX) ?_ ?_
  ·
    refine wp_seq (x := cA5_50) (y := cA5_51) ?_
    change (Code.region 16 OA5_16 false).wp _ _ _ _
    refine reg_in (l := [0, 1, 2, 3, 4, 5, 6, 7, 8, 9, 10, 11, 12, 13, 14, 15, 16, 17, 18, 19, 20, 21, 22, 23, 24, 25, 26, 27, 28, 29, 30, 31, 32, 33, 34]) rfl ?_
    have F : FE_ _ [] a258 a258 := ⟨R, Ag_.refl _⟩; clear R
    refine sv_ gA5_16_0 (ym_ rfl (F.of h1)) fun a259 e => ?_
    have h89 := pt_ F e; replace F := pu_ F e; clear e
    obtain ⟨b260, hb260⟩ : ∃ x, (((b : Int) != (0 : Int))) = x := ⟨_, rfl⟩
    have Y : (execOp a259.eval oA5_16_1).run Try.prog w252 = .ok (.value (.bool b260)) w252 := by rw [← hb260]; unfold oA5_16_1; go_simp
    refine sv_ gA5_16_1 Y fun a261 e => ?_; clear Y
    clear h89; have h90 := pt_ F e; replace F := pu_ F e; clear e
    refine sv_ gA5_16_2 (ym_ rfl h90) fun a262 e => ?_
    clear h90; have h91 := pt_ F e; replace F := pu_ F e; clear e
    cases b260 with
    | false =>
      have fb260 := hb260; clear hb260
      simp only [decide_eq_true_eq, decide_eq_false_iff_not, bne_iff_ne, bne_eq_false_iff_eq, beq_iff_eq, beq_eq_false_iff_ne, ne_eq, Bool.not_eq_true', Bool.not_eq_false', Bool.not_eq_eq_eq_not, Bool.not_true, Bool.not_false] at fb260
      refine st_not gA5_16_3 rfl (wanted_is (j := 2) (d := 91) rfl rfl h91 rfl) fun a263 e => ?_
      have h92 := pt_ F e; replace F := pu_ F e; replace h91 := so_ e h91; clear e
      refine st_not gA5_16_4 rfl (wanted_is (j := 2) (d := 91) rfl rfl h91 rfl) fun a264 e => ?_
      clear h92; have h93 := pt_ F e; replace F := pu_ F e; replace h91 := so_ e h91; clear e
      refine st_not gA5_16_5 rfl (wanted_is (j := 2) (d := 91) rfl rfl h91 rfl) fun a265 e => ?_
      clear h93; have h94 := pt_ F e; replace F := pu_ F e; replace h91 := so_ e h91; clear e
      refine st_not gA5_16_6 rfl (wanted_un (j := 5) (d := 94) rfl rfl h94) fun a266 e => ?_
      have h95 := pt_ F e; replace F := pu_ F e; replace h91 := so_ e h91; replace h94 := so_ e h94; clear e
      refine st_not gA5_16_7 rfl (wanted_un (j := 5) (d := 94) rfl rfl h94) fun a267 e => ?_
      clear h95; have h96 := pt_ F e; replace F := pu_ F e; replace h91 := so_ e h91; replace h94 := so_ e h94; clear e
      refine st_not gA5_16_8 rfl (wanted_is (j := 2) (d := 91) rfl rfl h91 rfl) fun a268 e => ?_
      clear h94 h96; have h97 := pt_ F e; replace F := pu_ F e; replace h91 := so_ e h91; clear e
      refine st_not gA5_16_9 rfl (wanted_is (j := 2) (d := 91) rfl rfl h91 rfl) fun a269 e => ?_
      clear h97; have h98 := pt_ F e; replace F := pu_ F e; replace h91 := so_ e h91; clear e
      refine st_not gA5_16_10 rfl (wanted_un (j := 9) (d := 98) rfl rfl h98) fun a270 e => ?_
      have h99 := pt_ F e; replace F := pu_ F e; replace h91 := so_ e h91; replace h98 := so_ e h98; clear e
      refine st_not gA5_16_11 rfl (wanted_un (j := 9) (d := 98) rfl rfl h98) fun a271 e => ?_
      clear h99; have h100 := pt_ F e; replace F := pu_ F e; replace h91 := so_ e h91; replace h98 := so_ e h98; clear e
      refine st_not gA5_16_12 rfl (wanted_un (j := 9) (d := 98) rfl rfl h98) fun a272 e => ?_
      clear h100; have h101 := pt_ F e; replace F := pu_ F e; replace h91 := so_ e h91; replace h98 := so_ e h98; clear e
      refine st_not gA5_16_13 rfl (wanted_un (j := 12) (d := 101) rfl rfl h101) fun a273 e => ?_
      have h102 := pt_ F e; replace F := pu_ F e; replace h91 := so_ e h91; replace h98 := so_ e h98; replace h101 := so_ e h101; clear e
      refine st_not gA5_16_14 rfl (wanted_un (j := 12) (d := 101) rfl rfl h101) fun a274 e => ?_
      clear h102; have h103 := pt_ F e; replace F := pu_ F e; replace h91 := so_ e h91; replace h98 := so_ e h98; replace h101 := so_ e h101; clear e
      refine st_not gA5_16_15 rfl (wanted_un (j := 12) (d := 101) rfl rfl h101) fun a275 e => ?_
      clear h103; have h104 := pt_ F e; replace F := pu_ F e; replace h91 := so_ e h91; replace h98 := so_ e h98; replace h101 := so_ e h101; clear e
      refine st_not gA5_16_16 rfl (wanted_un (j := 15) (d := 104) rfl rfl h104) fun a276 e => ?_
      have h105 := pt_ F e; replace F := pu_ F e; replace h91 := so_ e h91; replace h98 := so_ e h98; replace h101 := so_ e h101; replace h104 := so_ e h104; clear e
      refine st_not gA5_16_17 rfl (wanted_un (j := 15) (d := 104) rfl rfl h104) fun a277 e => ?_
      clear h105; have h106 := pt_ F e; replace F := pu_ F e; replace h91 := so_ e h91; replace h98 := so_ e h98; replace h101 := so_ e h101; replace h104 := so_ e h104; clear e
      refine st_not gA5_16_18 rfl (wanted_un (j := 12) (d := 101) rfl rfl h101) fun a278 e => ?_
      clear h104 h106; have h107 := pt_ F e; replace F := pu_ F e; replace h91 := so_ e h91; replace h98 := so_ e h98; replace h101 := so_ e h101; clear e
      refine st_not gA5_16_19 rfl (wanted_un (j := 9) (d := 98) rfl rfl h98) fun a279 e => ?_
      clear h101 h107; have h108 := pt_ F e; replace F := pu_ F e; replace h91 := so_ e h91; replace h98 := so_ e h98; clear e
      refine st_not gA5_16_20 rfl (wanted_is (j := 2) (d := 91) rfl rfl h91 rfl) fun a280 e => ?_
      clear h98 h108; have h109 := pt_ F e; replace F := pu_ F e; replace h91 := so_ e h91; clear e
      have Y : (execOp a280.eval oA5_16_21).run Try.prog w252 = .ok (.value (.bool false)) w252 := by unfold oA5_16_21; go_simp
      refine sv_ gA5_16_21 Y fun a281 e => ?_; clear Y
      clear h91 h109; have h110 := pt_ F e; replace F := pu_ F e; clear e
      refine sv_ gA5_16_22 (ym_ rfl h110) fun a282 e => ?_
      clear h110; have h111 := pt_ F e; replace F := pu_ F e; clear e
      refine st_val gA5_16_23 rfl (wanted_is (j := 22) (d := 111) rfl rfl h111 rfl) (ym_ rfl (F.of h1)) fun a283 e => ?_
      have h112 := pt_ F e; replace F := pu_ F e; replace h111 := so_ e h111; clear e
      obtain ⟨b284, hb284⟩ : ∃ x, (((b : Int) == (0 : Int))) = x := ⟨_, rfl⟩
      have Y : (execOp a283.eval oA5_16_24).run Try.prog w252 = .ok (.value (.bool b284)) w252 := by rw [← hb284]; unfold oA5_16_24; go_simp
      refine st_val gA5_16_24 rfl (wanted_is (j := 22) (d := 111) rfl rfl h111 rfl) Y fun a285 e => ?_; clear Y
      clear h112; have h113 := pt_ F e; replace F := pu_ F e; replace h111 := so_ e h111; clear e
      refine st_val gA5_16_25 rfl (wanted_is (j := 22) (d := 111) rfl rfl h111 rfl) (ym_ rfl h113) fun a286 e => ?_
      clear h113; have h114 := pt_ F e; replace F := pu_ F e; replace h111 := so_ e h111; clear e
      cases b284 with
      | false =>
        have fb284 := hb284; clear hb284
        simp only [decide_eq_true_eq, decide_eq_false_iff_not, bne_iff_ne, bne_eq_false_iff_eq, beq_iff_eq, beq_eq_false_iff_ne, ne_eq, Bool.not_eq_true', Bool.not_eq_false', Bool.not_eq_eq_eq_not, Bool.not_true, Bool.not_false] at fb284
        refine st_not gA5_16_26 rfl (wanted_is (j := 25) (d := 114) rfl rfl h114 rfl) fun a287 e => ?_
        have h115 := pt_ F e; replace F := pu_ F e; replace h111 := so_ e h111; replace h114 := so_ e h114; clear e
        refine st_not gA5_16_27 rfl (wanted_is (j := 25) (d := 114) rfl rfl h114 rfl) fun a288 e => ?_
        clear h115; have h116 := pt_ F e; replace F := pu_ F e; replace h111 := so_ e h111; replace h114 := so_ e h114; clear e
        refine st_not gA5_16_28 rfl (wanted_un (j := 27) (d := 116) rfl rfl h116) fun a289 e => ?_
        have h117 := pt_ F e; replace F := pu_ F e; replace h111 := so_ e h111; replace h114 := so_ e h114; replace h116 := so_ e h116; clear e
        refine st_not gA5_16_29 rfl (wanted_is (j := 25) (d := 114) rfl rfl h114 rfl) fun a290 e => ?_
        clear h116 h117; have h118 := pt_ F e; replace F := pu_ F e; replace h111 := so_ e h111; replace h114 := so_ e h114; clear e
        refine st_not gA5_16_30 rfl (wanted_is (j := 25) (d := 114) rfl rfl h114 rfl) fun a291 e => ?_
        clear h118; have h119 := pt_ F e; replace F := pu_ F e; replace h111 := so_ e h111; replace h114 := so_ e h114; clear e
        refine st_not gA5_16_31 rfl (wanted_un (j := 30) (d := 119) rfl rfl h119) fun a292 e => ?_
        have h120 := pt_ F e; replace F := pu_ F e; replace h111 := so_ e h111; replace h114 := so_ e h114; replace h119 := so_ e h119; clear e
        refine st_not gA5_16_32 rfl (wanted_is (j := 25) (d := 114) rfl rfl h114 rfl) fun a293 e => ?_
        clear h119 h120; have h121 := pt_ F e; replace F := pu_ F e; replace h111 := so_ e h111; replace h114 := so_ e h114; clear e
        have Y : (execOp a293.eval oA5_16_33).run Try.prog w252 = .ok (.value (.bool false)) w252 := by unfold oA5_16_33; go_simp
        refine st_val gA5_16_33 rfl (wanted_is (j := 22) (d := 111) rfl rfl h111 rfl) Y fun a294 e => ?_; clear Y
        clear h114 h121; have h122 := pt_ F e; replace F := pu_ F e; replace h111 := so_ e h111; clear e
        have Y : (execOp a294.eval oA5_16_34).run Try.prog w252 = .ok (.value (.bool false)) w252 := by unfold oA5_16_34; go_simp
        refine sv_ gA5_16_34 Y fun a295 e => ?_; clear Y
        clear h111 h122; have h123 := pt_ F e; replace F := pu_ F e; clear e
        refine st_end ?_
        replace h0 := F.of h0; replace h1 := F.of h1; replace h6 := F.of h6; replace h12 := F.of h12; replace h13 := F.of h13; clear h14; replace h15 := F.of h15; clear h16; have R := F.r; clear F
        change (cA5_51).wp _ _ _ _
        refine wp_cond_false (x := cA5_52) (y := Code.skip) (eval_slot h123) ?_
        refine wp_skip ?_
        exact ⟨R, h0, h1, h6, h12, h13, h15, K1⟩
      | true =>
        have fb284 := hb284; clear hb284
        simp only [decide_eq_true_eq, decide_eq_false_iff_not, bne_iff_ne, bne_eq_false_iff_eq, beq_iff_eq, beq_eq_false_iff_ne, ne_eq, Bool.not_eq_true', Bool.not_eq_false', Bool.not_eq_eq_eq_not, Bool.not_true, Bool.not_false] at fb284
        refine st_val gA5_16_26 rfl (wanted_is (j := 25) (d := 114) rfl rfl h114 rfl) (ym_ rfl (F.of h6)) fun a296 e => ?_
        have h115 := pt_ F e; replace F := pu_ F e; replace h111 := so_ e h111; replace h114 := so_ e h114; clear e
        refine st_val gA5_16_27 rfl (wanted_is (j := 25) (d := 114) rfl rfl h114 rfl) (ym_ rfl h115) fun a297 e => ?_
        clear h115; have h116 := pt_ F e; replace F := pu_ F e; replace h111 := so_ e h111; replace h114 := so_ e h114; clear e
        refine st_not gA5_16_28 rfl (wanted_is (j := 27) (d := 116) rfl rfl h116 rfl) fun a298 e => ?_
        have h117 := pt_ F e; replace F := pu_ F e; replace h111 := so_ e h111; replace h114 := so_ e h114; replace h116 := so_ e h116; clear e
        have Y : (execOp a298.eval oA5_16_29).run Try.prog w252 = .ok (.value (.bool true)) w252 := by unfold oA5_16_29; go_simp
        refine st_val gA5_16_29 rfl (wanted_is (j := 25) (d := 114) rfl rfl h114 rfl) Y fun a299 e => ?_; clear Y
        clear h116 h117; have h118 := pt_ F e; replace F := pu_ F e; replace h111 := so_ e h111; replace h114 := so_ e h114; clear e
        refine st_val gA5_16_30 rfl (wanted_is (j := 25) (d := 114) rfl rfl h114 rfl) (ym_ rfl h118) fun a300 e => ?_
        clear h118; have h119 := pt_ F e; replace F := pu_ F e; replace h111 := so_ e h111; replace h114 := so_ e h114; clear e
        refine st_not gA5_16_31 rfl (wanted_is (j := 30) (d := 119) rfl rfl h119 rfl) fun a301 e => ?_
        have h120 := pt_ F e; replace F := pu_ F e; replace h111 := so_ e h111; replace h114 := so_ e h114; replace h119 := so_ e h119; clear e
        have Y : (execOp a301.eval oA5_16_32).run Try.prog w252 = .ok (.value (.bool true)) w252 := by unfold oA5_16_32; go_simp
        refine st_val gA5_16_32 rfl (wanted_is (j := 25) (d := 114) rfl rfl h114 rfl) Y fun a302 e => ?_; clear Y
        clear h119 h120; have h121 := pt_ F e; replace F := pu_ F e; replace h111 := so_ e h111; replace h114 := so_ e h114; clear e
        have Y : (execOp a302.eval oA5_16_33).run Try.prog w252 = .ok (.value (.bool true)) w252 := by unfold oA5_16_33; go_simp
        refine st_val gA5_16_33 rfl (wanted_is (j := 22) (d := 111) rfl rfl h111 rfl) Y fun a303 e => ?_; clear Y
        clear h114 h121; have h122 := pt_ F e; replace F := pu_ F e; replace h111 := so_ e h111; clear e
        have Y : (execOp a303.eval oA5_16_34).run Try.prog w252 = .ok (.value (.bool true)) w252 := by unfold oA5_16_34; go_simp
        refine sv_ gA5_16_34 Y fun a304 e => ?_; clear Y
        clear h111 h122; have h123 := pt_ F e; replace F := pu_ F e; clear e
        refine st_end ?_
        replace h0 := F.of h0; replace h1 := F.of h1; replace h6 := F.of h6; replace h12 := F.of h12; replace h13 := F.of h13; clear h14; replace h15 := F.of h15; clear h16; have R := F.r; clear F
        change (cA5_51).wp _ _ _ _
        refine wp_cond_true (x := cA5_52) (y := Code.skip) (eval_slot h123) ?_
        refine wp_seq (x := cA5_53) (y := Code.ret) ?_
        change (Code.region 17 OA5_17 false).wp _ _ _ _
        refine reg_in (l := [0]) rfl ?_
        have F : FE_ _ [] a304 a304 := ⟨R, Ag_.refl _⟩; clear R
        have Y : (execOp a304.eval oA5_17_0).run Try.prog w252 = .ok (.value (.bool false)) w252 := by unfold oA5_17_0; go_simp
        refine sv_ gA5_17_0 Y fun a305 e => ?_; clear Y
        have h4 := pt_ F e; replace F := pu_ F e; clear e
        refine st_end ?_
        replace h0 := F.of h0; replace h1 := F.of h1; replace h6 := F.of h6; replace h12 := F.of h12; replace h13 := F.of h13; replace h15 := F.of h15; clear h123; have R := F.r; clear F
        change (Code.ret).wp _ _ _ _
        refine wp_ret ?_
        change bodyPost Try.prog Try.f5 (fun e w' => e = .returned (.bool true) ∧ Keep (fun g => g < W.heap.size) W w') .ret a305 w252
        refine ret_one rfl R h4 ?_
        exfalso; first | (have h8 := HC.out; omega) | (have a1 := HHL.out; have a2 := HHG.out; have a3 := HHQ.out; have a4 := HHH.out; simp at a1 a2 a3 a4; omega)
    | true =>
      have fb260 := hb260; clear hb260
      simp only [decide_eq_true_eq, decide_eq_false_iff_not, bne_iff_ne, bne_eq_false_iff_eq, beq_iff_eq, beq_eq_false_iff_ne, ne_eq, Bool.not_eq_true', Bool.not_eq_false', Bool.not_eq_eq_eq_not, Bool.not_true, Bool.not_false] at fb260
      refine st_val gA5_16_3 rfl (wanted_is (j := 2) (d := 91) rfl rfl h91 rfl) (ym_ rfl (F.of h14)) fun a306 e => ?_
      have h92 := pt_ F e; replace F := pu_ F e; replace h91 := so_ e h91; clear e
      have Y : (execOp a306.eval oA5_16_4).run Try.prog w252 = .ok (.value (.bool false)) w252 := by unfold oA5_16_4; go_simp
      refine st_val gA5_16_4 rfl (wanted_is (j := 2) (d := 91) rfl rfl h91 rfl) Y fun a307 e => ?_; clear Y
      clear h92; have h93 := pt_ F e; replace F := pu_ F e; replace h91 := so_ e h91; clear e
      refine st_val gA5_16_5 rfl (wanted_is (j := 2) (d := 91) rfl rfl h91 rfl) (ym_ rfl h93) fun a308 e => ?_
      clear h93; have h94 := pt_ F e; replace F := pu_ F e; replace h91 := so_ e h91; clear e
      refine st_val gA5_16_6 rfl (wanted_is (j := 5) (d := 94) rfl rfl h94 rfl) (ym_ rfl (F.of h16)) fun a309 e => ?_
      have h95 := pt_ F e; replace F := pu_ F e; replace h91 := so_ e h91; replace h94 := so_ e h94; clear e
      have Y : (execOp a309.eval oA5_16_7).run Try.prog w252 = .ok (.value (.bool false)) w252 := by unfold oA5_16_7; go_simp
      refine st_val gA5_16_7 rfl (wanted_is (j := 5) (d := 94) rfl rfl h94 rfl) Y fun a310 e => ?_; clear Y
      clear h95; have h96 := pt_ F e; replace F := pu_ F e; replace h91 := so_ e h91; replace h94 := so_ e h94; clear e
      have Y : (execOp a310.eval oA5_16_8).run Try.prog w252 = .ok (.value (.bool false)) w252 := by unfold oA5_16_8; go_simp
      refine st_val gA5_16_8 rfl (wanted_is (j := 2) (d := 91) rfl rfl h91 rfl) Y fun a311 e => ?_; clear Y
      clear h94 h96; have h97 := pt_ F e; replace F := pu_ F e; replace h91 := so_ e h91; clear e
      refine st_val gA5_16_9 rfl (wanted_is (j := 2) (d := 91) rfl rfl h91 rfl) (ym_ rfl h97) fun a312 e => ?_
      clear h97; have h98 := pt_ F e; replace F := pu_ F e; replace h91 := so_ e h91; clear e
      refine st_val gA5_16_10 rfl (wanted_is (j := 9) (d := 98) rfl rfl h98 rfl) (ym_ rfl (F.of h6)) fun a313 e => ?_
      have h99 := pt_ F e; replace F := pu_ F e; replace h91 := so_ e h91; replace h98 := so_ e h98; clear e
      have Y : (execOp a313.eval oA5_16_11).run Try.prog w252 = .ok (.value (.bool false)) w252 := by unfold oA5_16_11; go_simp
      refine st_val gA5_16_11 rfl (wanted_is (j := 9) (d := 98) rfl rfl h98 rfl) Y fun a314 e => ?_; clear Y
      clear h99; have h100 := pt_ F e; replace F := pu_ F e; replace h91 := so_ e h91; replace h98 := so_ e h98; clear e
      refine st_val gA5_16_12 rfl (wanted_is (j := 9) (d := 98) rfl rfl h98 rfl) (ym_ rfl h100) fun a315 e => ?_
      clear h100; have h101 := pt_ F e; replace F := pu_ F e; replace h91 := so_ e h91; replace h98 := so_ e h98; clear e
      refine st_not gA5_16_13 rfl (wanted_is (j := 12) (d := 101) rfl rfl h101 rfl) fun a316 e => ?_
      have h102 := pt_ F e; replace F := pu_ F e; replace h91 := so_ e h91; replace h98 := so_ e h98; replace h101 := so_ e h101; clear e
      refine st_not gA5_16_14 rfl (wanted_is (j := 12) (d := 101) rfl rfl h101 rfl) fun a317 e => ?_
      clear h102; have h103 := pt_ F e; replace F := pu_ F e; replace h91 := so_ e h91; replace h98 := so_ e h98; replace h101 := so_ e h101; clear e
      refine st_not gA5_16_15 rfl (wanted_is (j := 12) (d := 101) rfl rfl h101 rfl) fun a318 e => ?_
      clear h103; have h104 := pt_ F e; replace F := pu_ F e; replace h91 := so_ e h91; replace h98 := so_ e h98; replace h101 := so_ e h101; clear e
      refine st_not gA5_16_16 rfl (wanted_un (j := 15) (d := 104) rfl rfl h104) fun a319 e => ?_
      have h105 := pt_ F e; replace F := pu_ F e; replace h91 := so_ e h91; replace h98 := so_ e h98; replace h101 := so_ e h101; replace h104 := so_ e h104; clear e
      refine st_not gA5_16_17 rfl (wanted_un (j := 15) (d := 104) rfl rfl h104) fun a320 e => ?_
      clear h105; have h106 := pt_ F e; replace F := pu_ F e; replace h91 := so_ e h91; replace h98 := so_ e h98; replace h101 := so_ e h101; replace h104 := so_ e h104; clear e
      refine st_not gA5_16_18 rfl (wanted_is (j := 12) (d := 101) rfl rfl h101 rfl) fun a321 e => ?_
      clear h104 h106; have h107 := pt_ F e; replace F := pu_ F e; replace h91 := so_ e h91; replace h98 := so_ e h98; replace h101 := so_ e h101; clear e
      have Y : (execOp a321.eval oA5_16_19).run Try.prog w252 = .ok (.value (.bool false)) w252 := by unfold oA5_16_19; go_simp
      refine st_val gA5_16_19 rfl (wanted_is (j := 9) (d := 98) rfl rfl h98 rfl) Y fun a322 e => ?_; clear Y
      clear h101 h107; have h108 := pt_ F e; replace F := pu_ F e; replace h91 := so_ e h91; replace h98 := so_ e h98; clear e
      have Y : (execOp a322.eval oA5_16_20).run Try.prog w252 = .ok (.value (.bool false)) w252 := by unfold oA5_16_20; go_simp
      refine st_val gA5_16_20 rfl (wanted_is (j := 2) (d := 91) rfl rfl h91 rfl) Y fun a323 e => ?_; clear Y
      clear h98 h108; have h109 := pt_ F e; replace F := pu_ F e; replace h91 := so_ e h91; clear e
      have Y : (execOp a323.eval oA5_16_21).run Try.prog w252 = .ok (.value (.bool false)) w252 := by unfold oA5_16_21; go_simp
      refine sv_ gA5_16_21 Y fun a324 e => ?_; clear Y
      clear h91 h109; have h110 := pt_ F e; replace F := pu_ F e; clear e
      refine sv_ gA5_16_22 (ym_ rfl h110) fun a325 e => ?_
      clear h110; have h111 := pt_ F e; replace F := pu_ F e; clear e
      refine st_val gA5_16_23 rfl (wanted_is (j := 22) (d := 111) rfl rfl h111 rfl) (ym_ rfl (F.of h1)) fun a326 e => ?_
      have h112 := pt_ F e; replace F := pu_ F e; replace h111 := so_ e h111; clear e
      obtain ⟨b327, hb327⟩ : ∃ x, (((b : Int) == (0 : Int))) = x := ⟨_, rfl⟩
      have Y : (execOp a326.eval oA5_16_24).run Try.prog w252 = .ok (.value (.bool b327)) w252 := by rw [← hb327]; unfold oA5_16_24; go_simp
      refine st_val gA5_16_24 rfl (wanted_is (j := 22) (d := 111) rfl rfl h111 rfl) Y fun a328 e => ?_; clear Y
      clear h112; have h113 := pt_ F e; replace F := pu_ F e; replace h111 := so_ e h111; clear e
      refine st_val gA5_16_25 rfl (wanted_is (j := 22) (d := 111) rfl rfl h111 rfl) (ym_ rfl h113) fun a329 e => ?_
      clear h113; have h114 := pt_ F e; replace F := pu_ F e; replace h111 := so_ e h111; clear e
      cases b327 with
      | false =>
        have fb327 := hb327; clear hb327
        simp only [decide_eq_true_eq, decide_eq_false_iff_not, bne_iff_ne, bne_eq_false_iff_eq, beq_iff_eq, beq_eq_false_iff_ne, ne_eq, Bool.not_eq_true', Bool.not_eq_false', Bool.not_eq_eq_eq_not, Bool.not_true, Bool.not_false] at fb327
        refine st_not gA5_16_26 rfl (wanted_is (j := 25) (d := 114) rfl rfl h114 rfl) fun a330 e => ?_
        have h115 := pt_ F e; replace F := pu_ F e; replace h111 := so_ e h111; replace h114 := so_ e h114; clear e
        refine st_not gA5_16_27 rfl (wanted_is (j := 25) (d := 114) rfl rfl h114 rfl) fun a331 e => ?_
        clear h115; have h116 := pt_ F e; replace F := pu_ F e; replace h111 := so_ e h111; replace h114 := so_ e h114; clear e
        refine st_not gA5_16_28 rfl (wanted_un (j := 27) (d := 116) rfl rfl h116) fun a332 e => ?_
        have h117 := pt_ F e; replace F := pu_ F e; replace h111 := so_ e h111; replace h114 := so_ e h114; replace h116 := so_ e h116; clear e
        refine st_not gA5_16_29 rfl (wanted_is (j := 25) (d := 114) rfl rfl h114 rfl) fun a333 e => ?_
        clear h116 h117; have h118 := pt_ F e; replace F := pu_ F e; replace h111 := so_ e h111; replace h114 := so_ e h114; clear e
        refine st_not gA5_16_30 rfl (wanted_is (j := 25) (d := 114) rfl rfl h114 rfl) fun a334 e => ?_
        clear h118; have h119 := pt_ F e; replace F := pu_ F e; replace h111 := so_ e h111; replace h114 := so_ e h114; clear e
        refine st_not gA5_16_31 rfl (wanted_un (j := 30) (d := 119) rfl rfl h119) fun a335 e => ?_
        have h120 := pt_ F e; replace F := pu_ F e; replace h111 := so_ e h111; replace h114 := so_ e h114; replace h119 := so_ e h119; clear e
        refine st_not gA5_16_32 rfl (wanted_is (j := 25) (d := 114) rfl rfl h114 rfl) fun a336 e => ?_
        clear h119 h120; have h121 := pt_ F e; replace F := pu_ F e; replace h111 := so_ e h111; replace h114 := so_ e h114; clear e
        have Y : (execOp a336.eval oA5_16_33).run Try.prog w252 = .ok (.value (.bool false)) w252 := by unfold oA5_16_33; go_simp
        refine st_val gA5_16_33 rfl (wanted_is (j := 22) (d := 111) rfl rfl h111 rfl) Y fun a337 e => ?_; clear Y
        clear h114 h121; have h122 := pt_ F e; replace F := pu_ F e; replace h111 := so_ e h111; clear e
        have Y : (execOp a337.eval oA5_16_34).run Try.prog w252 = .ok (.value (.bool false)) w252 := by unfold oA5_16_34; go_simp
        refine sv_ gA5_16_34 Y fun a338 e => ?_; clear Y
        clear h111 h122; have h123 := pt_ F e; replace F := pu_ F e; clear e
        refine st_end ?_
        replace h0 := F.of h0; replace h1 := F.of h1; replace h6 := F.of h6; replace h12 := F.of h12; replace h13 := F.of h13; clear h14; replace h15 := F.of h15; clear h16; have R := F.r; clear F
        change (cA5_51).wp _ _ _ _
        refine wp_cond_false (x := cA5_52) (y := Code.skip) (eval_slot h123) ?_
        refine wp_skip ?_
        exact ⟨R, h0, h1, h6, h12, h13, h15, K1⟩
      | true =>
        have fb327 := hb327; clear hb327
        simp only [decide_eq_true_eq, decide_eq_false_iff_not, bne_iff_ne, bne_eq_false_iff_eq, beq_iff_eq, beq_eq_false_iff_ne, ne_eq, Bool.not_eq_true', Bool.not_eq_false', Bool.not_eq_eq_eq_not, Bool.not_true, Bool.not_false] at fb327
        refine st_val gA5_16_26 rfl (wanted_is (j := 25) (d := 114) rfl rfl h114 rfl) (ym_ rfl (F.of h6)) fun a339 e => ?_
        have h115 := pt_ F e; replace F := pu_ F e; replace h111 := so_ e h111; replace h114 := so_ e h114; clear e
        refine st_val gA5_16_27 rfl (wanted_is (j := 25) (d := 114) rfl rfl h114 rfl) (ym_ rfl h115) fun a340 e => ?_
        clear h115; have h116 := pt_ F e; replace F := pu_ F e; replace h111 := so_ e h111; replace h114 := so_ e h114; clear e
        refine st_not gA5_16_28 rfl (wanted_is (j := 27) (d := 116) rfl rfl h116 rfl) fun a341 e => ?_
        have h117 := pt_ F e; replace F := pu_ F e; replace h111 := so_ e h111; replace h114 := so_ e h114; replace h116 := so_ e h116; clear e
        have Y : (execOp a341.eval oA5_16_29).run Try.prog w252 = .ok (.value (.bool true)) w252 := by unfold oA5_16_29; go_simp
        refine st_val gA5_16_29 rfl (wanted_is (j := 25) (d := 114) rfl rfl h114 rfl) Y fun a342 e => ?_; clear Y
        clear h116 h117; have h118 := pt_ F e; replace F := pu_ F e; replace h111 := so_ e h111; replace h114 := so_ e h114; clear e
        refine st_val gA5_16_30 rfl (wanted_is (j := 25) (d := 114) rfl rfl h114 rfl) (ym_ rfl h118) fun a343 e => ?_
        clear h118; have h119 := pt_ F e; replace F := pu_ F e; replace h111 := so_ e h111; replace h114 := so_ e h114; clear e
        refine st_not gA5_16_31 rfl (wanted_is (j := 30) (d := 119) rfl rfl h119 rfl) fun a344 e => ?_
        have h120 := pt_ F e; replace F := pu_ F e; replace h111 := so_ e h111; replace h114 := so_ e h114; replace h119 := so_ e h119; clear e
        have Y : (execOp a344.eval oA5_16_32).run Try.prog w252 = .ok (.value (.bool true)) w252 := by unfold oA5_16_32; go_simp
        refine st_val gA5_16_32 rfl (wanted_is (j := 25) (d := 114) rfl rfl h114 rfl) Y fun a345 e => ?_; clear Y
        clear h119 h120; have h121 := pt_ F e; replace F := pu_ F e; replace h111 := so_ e h111; replace h114 := so_ e h114; clear e
        have Y : (execOp a345.eval oA5_16_33).run Try.prog w252 = .ok (.value (.bool true)) w252 := by unfold oA5_16_33; go_simp
        refine st_val gA5_16_33 rfl (wanted_is (j := 22) (d := 111) rfl rfl h111 rfl) Y fun a346 e => ?_; clear Y
        clear h114 h121; have h122 := pt_ F e; replace F := pu_ F e; replace h111 := so_ e h111; clear e
        have Y : (execOp a346.eval oA5_16_34).run Try.prog w252 = .ok (.value (.bool true)) w252 := by unfold oA5_16_34; go_simp
        refine sv_ gA5_16_34 Y fun a347 e => ?_; clear Y
        clear h111 h122; have h123 := pt_ F e; replace F := pu_ F e; clear e
        refine st_end ?_
        replace h0 := F.of h0; replace h1 := F.of h1; replace h6 := F.of h6; replace h12 := F.of h12; replace h13 := F.of h13; clear h14; replace h15 := F.of h15; clear h16; have R := F.r; clear F
        change (cA5_51).wp _ _ _ _
        refine wp_cond_true (x := cA5_52) (y := Code.skip) (eval_slot h123) ?_
        refine wp_seq (x := cA5_53) (y := Code.ret) ?_
        change (Code.region 17 OA5_17 false).wp _ _ _ _
        refine reg_in (l := [0]) rfl ?_
        have F : FE_ _ [] a347 a347 := ⟨R, Ag_.refl _⟩; clear R
        have Y : (execOp a347.eval oA5_17_0).run Try.prog w252 = .ok (.value (.bool false)) w252 := by unfold oA5_17_0; go_simp
        refine sv_ gA5_17_0 Y fun a348 e => ?_; clear Y
        have h4 := pt_ F e; replace F := pu_ F e; clear e
        refine st_end ?_
        replace h0 := F.of h0; replace h1 := F.of h1; replace h6 := F.of h6; replace h12 := F.of h12; replace h13 := F.of h13; replace h15 := F.of h15; clear h123; have R := F.r; clear F
        change (Code.ret).wp _ _ _ _
        refine wp_ret ?_
        change bodyPost Try.prog Try.f5 (fun e w' => e = .returned (.bool true) ∧ Keep (fun g => g < W.heap.size) W w') .ret a348 w252
        refine ret_one rfl R h4 ?_
        exfalso; first | (have h8 := HC.out; omega) | (have a1 := HHL.out; have a2 := HHG.out; have a3 := HHQ.out; have a4 := HHH.out; simp at a1 a2 a3 a4; omega)
  ·
    clear R h0 h1 h6 h12 h13 h15 K1 h14 h16
    rintro a349 w350 ⟨R, h0, h1, h6, h12, h13, h15, K1⟩
    refine wp_seq (x := cA5_57) (y := cA5_64) ?_
    refine wp_seq (x := cA5_58) (y := cA5_59) ?_
    change (Code.region 18 OA5_18 false).wp _ _ _ _
    refine reg_in (l := [0, 1, 2, 3, 4, 5, 6, 7, 8, 9, 10, 11, 12, 13, 14, 15, 16, 17, 18, 19, 20, 21, 22, 23, 24, 25, 26, 27, 28, 29, 30, 31, 32]) rfl ?_
    have F : FE_ _ [] a349 a349 := ⟨R, Ag_.refl _⟩; clear R
    refine sv_ gA5_18_0 (ym_ rfl (F.of h6)) fun a351 e => ?_
    have h124 := pt_ F e; replace F := pu_ F e; clear e
    refine sv_ gA5_18_1 (ym_ rfl h124) fun a352 e => ?_
    clear h124; have h125 := pt_ F e; replace F := pu_ F e; clear e
    refine st_val gA5_18_2 rfl (wanted_is (j := 1) (d := 125) rfl rfl h125 rfl) (ym_ rfl (F.of h12)) fun a353 e => ?_
    have h126 := pt_ F e; replace F := pu_ F e; replace h125 := so_ e h125; clear e
    refine st_val gA5_18_3 rfl (wanted_is (j := 1) (d := 125) rfl rfl h125 rfl) (ym_ rfl (F.of h1)) fun a354 e => ?_
    have h127 := pt_ F e; replace F := pu_ F e; replace h125 := so_ e h125; replace h126 := so_ e h126; clear e
    have Y : (execOp a354.eval oA5_18_4).run Try.prog w350 = .ok (.value (.int .i64 z0)) w350 := by have h8 := HZ.out.1; unfold oA5_18_4; go_simp
    refine st_val gA5_18_4 rfl (wanted_is (j := 1) (d := 125) rfl rfl h125 rfl) Y fun a355 e => ?_; clear Y
    clear h126 h127; have h128 := pt_ F e; replace F := pu_ F e; replace h125 := so_ e h125; clear e
    refine st_val gA5_18_5 rfl (wanted_is (j := 1) (d := 125) rfl rfl h125 rfl) (ym_ rfl (F.of h13)) fun a356 e => ?_
    have h129 := pt_ F e; replace F := pu_ F e; replace h125 := so_ e h125; replace h128 := so_ e h128; clear e
    have Y : (execOp a356.eval oA5_18_6).run Try.prog w350 = .ok (.value (.int .i64 a)) w350 := by have h8 := HZ.out.2.1; unfold oA5_18_6; go_simp
    refine st_val gA5_18_6 rfl (wanted_is (j := 1) (d := 125) rfl rfl h125 rfl) Y fun a357 e => ?_; clear Y
    clear h128 h129; have h130 := pt_ F e; replace F := pu_ F e; replace h125 := so_ e h125; clear e
    refine st_val gA5_18_7 rfl (wanted_is (j := 1) (d := 125) rfl rfl h125 rfl) (ym_ rfl (F.of h0)) fun a358 e => ?_
    have h131 := pt_ F e; replace F := pu_ F e; replace h125 := so_ e h125; replace h130 := so_ e h130; clear e
    have Y : (execOp a358.eval oA5_18_8).run Try.prog w350 = .ok (.value (.bool false)) w350 := by unfold oA5_18_8; go_simp
    refine st_val gA5_18_8 rfl (wanted_is (j := 1) (d := 125) rfl rfl h125 rfl) Y fun a359 e => ?_; clear Y
    clear h130 h131; have h132 := pt_ F e; replace F := pu_ F e; replace h125 := so_ e h125; clear e
    refine st_val gA5_18_9 rfl (wanted_is (j := 1) (d := 125) rfl rfl h125 rfl) (ym_ rfl h132) fun a360 e => ?_
    clear h132; have h133 := pt_ F e; replace F := pu_ F e; replace h125 := so_ e h125; clear e
    refine st_val gA5_18_10 rfl (wanted_is (j := 9) (d := 133) rfl rfl h133 rfl) (ym_ rfl (F.of h15)) fun a361 e => ?_
    have h134 := pt_ F e; replace F := pu_ F e; replace h125 := so_ e h125; replace h133 := so_ e h133; clear e
    refine st_val gA5_18_11 rfl (wanted_is (j := 9) (d := 133) rfl rfl h133 rfl) (ym_ rfl (F.of h13)) fun a362 e => ?_
    have h135 := pt_ F e; replace F := pu_ F e; replace h125 := so_ e h125; replace h133 := so_ e h133; replace h134 := so_ e h134; clear e
    obtain ⟨b363, hb363⟩ : ∃ x, (((m0 : Int) != (r0 : Int))) = x := ⟨_, rfl⟩
    have Y : (execOp a362.eval oA5_18_12).run Try.prog w350 = .ok (.value (.bool b363)) w350 := by rw [← hb363]; unfold oA5_18_12; go_simp
    refine st_val gA5_18_12 rfl (wanted_is (j := 9) (d := 133) rfl rfl h133 rfl) Y fun a364 e => ?_; clear Y
    clear h134 h135; have h136 := pt_ F e; replace F := pu_ F e; replace h125 := so_ e h125; replace h133 := so_ e h133; clear e
    refine st_val gA5_18_13 rfl (wanted_is (j := 9) (d := 133) rfl rfl h133 rfl) (ym_ rfl h136) fun a365 e => ?_
    clear h136; have h137 := pt_ F e; replace F := pu_ F e; replace h125 := so_ e h125; replace h133 := so_ e h133; clear e
    cases b363 with
    | false =>
      have fb363 := hb363; clear hb363
      simp only [decide_eq_true_eq, decide_eq_false_iff_not, bne_iff_ne, bne_eq_false_iff_eq, beq_iff_eq, beq_eq_false_iff_ne, ne_eq, Bool.not_eq_true', Bool.not_eq_false', Bool.not_eq_eq_eq_not, Bool.not_true, Bool.not_false] at fb363
      refine st_not gA5_18_14 rfl (wanted_is (j := 13) (d := 137) rfl rfl h137 rfl) fun a366 e => ?_
      have h138 := pt_ F e; replace F := pu_ F e; replace h125 := so_ e h125; replace h133 := so_ e h133; replace h137 := so_ e h137; clear e
      refine st_not gA5_18_15 rfl (wanted_is (j := 13) (d := 137) rfl rfl h137 rfl) fun a367 e => ?_
      have h139 := pt_ F e; replace F := pu_ F e; replace h125 := so_ e h125; replace h133 := so_ e h133; replace h137 := so_ e h137; replace h138 := so_ e h138; clear e
      refine st_not gA5_18_16 rfl (wanted_is (j := 13) (d := 137) rfl rfl h137 rfl) fun a368 e => ?_
      have h140 := pt_ F e; replace F := pu_ F e; replace h125 := so_ e h125; replace h133 := so_ e h133; replace h137 := so_ e h137; replace h138 := so_ e h138; replace h139 := so_ e h139; clear e
      refine st_not gA5_18_17 rfl (wanted_is (j := 13) (d := 137) rfl rfl h137 rfl) fun a369 e => ?_
      clear h139 h140; have h141 := pt_ F e; replace F := pu_ F e; replace h125 := so_ e h125; replace h133 := so_ e h133; replace h137 := so_ e h137; replace h138 := so_ e h138; clear e
      refine st_not gA5_18_18 rfl (wanted_is (j := 13) (d := 137) rfl rfl h137 rfl) fun a370 e => ?_
      clear h138 h141; have h142 := pt_ F e; replace F := pu_ F e; replace h125 := so_ e h125; replace h133 := so_ e h133; replace h137 := so_ e h137; clear e
      have Y : (execOp a370.eval oA5_18_19).run Try.prog w350 = .ok (.value (.bool false)) w350 := by unfold oA5_18_19; go_simp
      refine st_val gA5_18_19 rfl (wanted_is (j := 9) (d := 133) rfl rfl h133 rfl) Y fun a371 e => ?_; clear Y
      clear h137 h142; have h143 := pt_ F e; replace F := pu_ F e; replace h125 := so_ e h125; replace h133 := so_ e h133; clear e
      have Y : (execOp a371.eval oA5_18_20).run Try.prog w350 = .ok (.value (.bool false)) w350 := by unfold oA5_18_20; go_simp
      refine st_val gA5_18_20 rfl (wanted_is (j := 1) (d := 125) rfl rfl h125 rfl) Y fun a372 e => ?_; clear Y
      clear h133 h143; have h144 := pt_ F e; replace F := pu_ F e; replace h125 := so_ e h125; clear e
      refine st_val gA5_18_21 rfl (wanted_is (j := 1) (d := 125) rfl rfl h125 rfl) (ym_ rfl h144) fun a373 e => ?_
      clear h144; have h145 := pt_ F e; replace F := pu_ F e; replace h125 := so_ e h125; clear e
      refine st_val gA5_18_22 rfl (wanted_is (j := 21) (d := 145) rfl rfl h145 rfl) (ym_ rfl (F.of h15)) fun a374 e => ?_
      have h146 := pt_ F e; replace F := pu_ F e; replace h125 := so_ e h125; replace h145 := so_ e h145; clear e
      obtain ⟨b375, hb375⟩ : ∃ x, (((m0 : Int) != (0 : Int))) = x := ⟨_, rfl⟩
      have Y : (execOp a374.eval oA5_18_23).run Try.prog w350 = .ok (.value (.bool b375)) w350 := by rw [← hb375]; unfold oA5_18_23; go_simp
      refine st_val gA5_18_23 rfl (wanted_is (j := 21) (d := 145) rfl rfl h145 rfl) Y fun a376 e => ?_; clear Y
      clear h146; have h147 := pt_ F e; replace F := pu_ F e; replace h125 := so_ e h125; replace h145 := so_ e h145; clear e
      refine st_val gA5_18_24 rfl (wanted_is (j := 21) (d := 145) rfl rfl h145 rfl) (ym_ rfl h147) fun a377 e => ?_
      clear h147; have h148 := pt_ F e; replace F := pu_ F e; replace h125 := so_ e h125; replace h145 := so_ e h145; clear e
      cases b375 with
      | false =>
        have fb375 := hb375; clear hb375
        simp only [decide_eq_true_eq, decide_eq_false_iff_not, bne_iff_ne, bne_eq_false_iff_eq, beq_iff_eq, beq_eq_false_iff_ne, ne_eq, Bool.not_eq_true', Bool.not_eq_false', Bool.not_eq_eq_eq_not, Bool.not_true, Bool.not_false] at fb375
        refine st_not gA5_18_25 rfl (wanted_is (j := 24) (d := 148) rfl rfl h148 rfl) fun a378 e => ?_
        have h149 := pt_ F e; replace F := pu_ F e; replace h125 := so_ e h125; replace h145 := so_ e h145; replace h148 := so_ e h148; clear e
        refine st_not gA5_18_26 rfl (wanted_is (j := 24) (d := 148) rfl rfl h148 rfl) fun a379 e => ?_
        clear h149; have h150 := pt_ F e; replace F := pu_ F e; replace h125 := so_ e h125; replace h145 := so_ e h145; replace h148 := so_ e h148; clear e
        refine st_not gA5_18_27 rfl (wanted_is (j := 24) (d := 148) rfl rfl h148 rfl) fun a380 e => ?_
        have h151 := pt_ F e; replace F := pu_ F e; replace h125 := so_ e h125; replace h145 := so_ e h145; replace h148 := so_ e h148; replace h150 := so_ e h150; clear e
        refine st_not gA5_18_28 rfl (wanted_is (j := 24) (d := 148) rfl rfl h148 rfl) fun a381 e => ?_
        clear h151; have h152 := pt_ F e; replace F := pu_ F e; replace h125 := so_ e h125; replace h145 := so_ e h145; replace h148 := so_ e h148; replace h150 := so_ e h150; clear e
        refine st_not gA5_18_29 rfl (wanted_is (j := 24) (d := 148) rfl rfl h148 rfl) fun a382 e => ?_
        clear h150 h152; have h153 := pt_ F e; replace F := pu_ F e; replace h125 := so_ e h125; replace h145 := so_ e h145; replace h148 := so_ e h148; clear e
        have Y : (execOp a382.eval oA5_18_30).run Try.prog w350 = .ok (.value (.bool false)) w350 := by unfold oA5_18_30; go_simp
        refine st_val gA5_18_30 rfl (wanted_is (j := 21) (d := 145) rfl rfl h145 rfl) Y fun a383 e => ?_; clear Y
        clear h148 h153; have h154 := pt_ F e; replace F := pu_ F e; replace h125 := so_ e h125; replace h145 := so_ e h145; clear e
        have Y : (execOp a383.eval oA5_18_31).run Try.prog w350 = .ok (.value (.bool false)) w350 := by unfold oA5_18_31; go_simp
        refine st_val gA5_18_31 rfl (wanted_is (j := 1) (d := 125) rfl rfl h125 rfl) Y fun a384 e => ?_; clear Y
        clear h145 h154; have h155 := pt_ F e; replace F := pu_ F e; replace h125 := so_ e h125; clear e
        have Y : (execOp a384.eval oA5_18_32).run Try.prog w350 = .ok (.value (.bool false)) w350 := by unfold oA5_18_32; go_simp
        refine sv_ gA5_18_32 Y fun a385 e => ?_; clear Y
        clear h125 h155; have h156 := pt_ F e; replace F := pu_ F e; clear e
        refine st_end ?_
        replace h0 := F.of h0; replace h1 := F.of h1; clear h6; clear h12; clear h13; clear h15; have R := F.r; clear F
        change (cA5_59).wp _ _ _ _
        refine wp_cond_false (x := cA5_60) (y := Code.skip) (eval_slot h156) ?_
        refine wp_skip ?_
        exact rules_e R h0 h1 K1 HA HB (Lib.hid trivial)
      | true =>
        have fb375 := hb375; clear hb375
        simp only [decide_eq_true_eq, decide_eq_false_iff_not, bne_iff_ne, bne_eq_false_iff_eq, beq_iff_eq, beq_eq_false_iff_ne, ne_eq, Bool.not_eq_true', Bool.not_eq_false', Bool.not_eq_eq_eq_not, Bool.not_true, Bool.not_false] at fb375
        refine st_val gA5_18_25 rfl (wanted_is (j := 24) (d := 148) rfl rfl h148 rfl) (ym_ rfl (F.of h15)) fun a386 e => ?_
        have h149 := pt_ F e; replace F := pu_ F e; replace h125 := so_ e h125; replace h145 := so_ e h145; replace h148 := so_ e h148; clear e
        obtain ⟨b387, hb387⟩ : ∃ x, (decide ((m0 : Int) < (0 : Int))) = x := ⟨_, rfl⟩
        have Y : (execOp a386.eval oA5_18_26).run Try.prog w350 = .ok (.value (.bool b387)) w350 := by rw [← hb387]; unfold oA5_18_26; go_simp
        refine st_val gA5_18_26 rfl (wanted_is (j := 24) (d := 148) rfl rfl h148 rfl) Y fun a388 e => ?_; clear Y
        clear h149; have h150 := pt_ F e; replace F := pu_ F e; replace h125 := so_ e h125; replace h145 := so_ e h145; replace h148 := so_ e h148; clear e
        refine st_val gA5_18_27 rfl (wanted_is (j := 24) (d := 148) rfl rfl h148 rfl) (ym_ rfl (F.of h1)) fun a389 e => ?_
        have h151 := pt_ F e; replace F := pu_ F e; replace h125 := so_ e h125; replace h145 := so_ e h145; replace h148 := so_ e h148; replace h150 := so_ e h150; clear e
        obtain ⟨b390, hb390⟩ : ∃ x, (decide ((b : Int) < (0 : Int))) = x := ⟨_, rfl⟩
        have Y : (execOp a389.eval oA5_18_28).run Try.prog w350 = .ok (.value (.bool b390)) w350 := by rw [← hb390]; unfold oA5_18_28; go_simp
        refine st_val gA5_18_28 rfl (wanted_is (j := 24) (d := 148) rfl rfl h148 rfl) Y fun a391 e => ?_; clear Y
        clear h151; have h152 := pt_ F e; replace F := pu_ F e; replace h125 := so_ e h125; replace h145 := so_ e h145; replace h148 := so_ e h148; replace h150 := so_ e h150; clear e
        cases b387 with
        | false =>
          have fb387 := hb387; clear hb387
          simp only [decide_eq_true_eq, decide_eq_false_iff_not, bne_iff_ne, bne_eq_false_iff_eq, beq_iff_eq, beq_eq_false_iff_ne, ne_eq, Bool.not_eq_true', Bool.not_eq_false', Bool.not_eq_eq_eq_not, Bool.not_true, Bool.not_false] at fb387
          cases b390 with
          | false =>
            have fb390 := hb390; clear hb390
            simp only [decide_eq_true_eq, decide_eq_false_iff_not, bne_iff_ne, bne_eq_false_iff_eq, beq_iff_eq, beq_eq_false_iff_ne, ne_eq, Bool.not_eq_true', Bool.not_eq_false', Bool.not_eq_eq_eq_not, Bool.not_true, Bool.not_false] at fb390
            have Y : (execOp a391.eval oA5_18_29).run Try.prog w350 = .ok (.value (.bool false)) w350 := by unfold oA5_18_29; go_simp
            refine st_val gA5_18_29 rfl (wanted_is (j := 24) (d := 148) rfl rfl h148 rfl) Y fun a392 e => ?_; clear Y
            clear h150 h152; have h153 := pt_ F e; replace F := pu_ F e; replace h125 := so_ e h125; replace h145 := so_ e h145; replace h148 := so_ e h148; clear e
            have Y : (execOp a392.eval oA5_18_30).run Try.prog w350 = .ok (.value (.bool false)) w350 := by unfold oA5_18_30; go_simp
            refine st_val gA5_18_30 rfl (wanted_is (j := 21) (d := 145) rfl rfl h145 rfl) Y fun a393 e => ?_; clear Y
            clear h148 h153; have h154 := pt_ F e; replace F := pu_ F e; replace h125 := so_ e h125; replace h145 := so_ e h145; clear e
            have Y : (execOp a393.eval oA5_18_31).run Try.prog w350 = .ok (.value (.bool false)) w350 := by unfold oA5_18_31; go_simp
            refine st_val gA5_18_31 rfl (wanted_is (j := 1) (d := 125) rfl rfl h125 rfl) Y fun a394 e => ?_; clear Y
            clear h145 h154; have h155 := pt_ F e; replace F := pu_ F e; replace h125 := so_ e h125; clear e
            have Y : (execOp a394.eval oA5_18_32).run Try.prog w350 = .ok (.value (.bool false)) w350 := by unfold oA5_18_32; go_simp
            refine sv_ gA5_18_32 Y fun a395 e => ?_; clear Y
            clear h125 h155; have h156 := pt_ F e; replace F := pu_ F e; clear e
            refine st_end ?_
            replace h0 := F.of h0; replace h1 := F.of h1; clear h6; clear h12; clear h13; clear h15; have R := F.r; clear F
            change (cA5_59).wp _ _ _ _
            refine wp_cond_false (x := cA5_60) (y := Code.skip) (eval_slot h156) ?_
            refine wp_skip ?_
            exact rules_e R h0 h1 K1 HA HB (Lib.hid trivial)
          | true =>
            have fb390 := hb390; clear hb390
            simp only [decide_eq_true_eq, decide_eq_false_iff_not, bne_iff_ne, bne_eq_false_iff_eq, beq_iff_eq, beq_eq_false_iff_ne, ne_eq, Bool.not_eq_true', Bool.not_eq_false', Bool.not_eq_eq_eq_not, Bool.not_true, Bool.not_false] at fb390
            have Y : (execOp a391.eval oA5_18_29).run Try.prog w350 = .ok (.value (.bool true)) w350 := by unfold oA5_18_29; go_simp
            refine st_val gA5_18_29 rfl (wanted_is (j := 24) (d := 148) rfl rfl h148 rfl) Y fun a396 e => ?_; clear Y
            clear h150 h152; have h153 := pt_ F e; replace F := pu_ F e; replace h125 := so_ e h125; replace h145 := so_ e h145; replace h148 := so_ e h148; clear e
            have Y : (execOp a396.eval oA5_18_30).run Try.prog w350 = .ok (.value (.bool true)) w350 := by unfold oA5_18_30; go_simp
            refine st_val gA5_18_30 rfl (wanted_is (j := 21) (d := 145) rfl rfl h145 rfl) Y fun a397 e => ?_; clear Y
            clear h148 h153; have h154 := pt_ F e; replace F := pu_ F e; replace h125 := so_ e h125; replace h145 := so_ e h145; clear e
            have Y : (execOp a397.eval oA5_18_31).run Try.prog w350 = .ok (.value (.bool true)) w350 := by unfold oA5_18_31; go_simp
            refine st_val gA5_18_31 rfl (wanted_is (j := 1) (d := 125) rfl rfl h125 rfl) Y fun a398 e => ?_; clear Y
            clear h145 h154; have h155 := pt_ F e; replace F := pu_ F e; replace h125 := so_ e h125; clear e
            have Y : (execOp a398.eval oA5_18_32).run Try.prog w350 = .ok (.value (.bool true)) w350 := by unfold oA5_18_32; go_simp
            refine sv_ gA5_18_32 Y fun a399 e => ?_; clear Y
            clear h125 h155; have h156 := pt_ F e; replace F := pu_ F e; clear e
            refine st_end ?_
            replace h0 := F.of h0; replace h1 := F.of h1; clear h6; clear h12; clear h13; clear h15; have R := F.r; clear F
            change (cA5_59).wp _ _ _ _
            refine wp_cond_true (x := cA5_60) (y := Code.skip) (eval_slot h156) ?_
            refine wp_seq (x := cA5_61) (y := Code.ret) ?_
            change (Code.region 19 OA5_19 false).wp _ _ _ _
            refine reg_in (l := [0]) rfl ?_
            have F : FE_ _ [] a399 a399 := ⟨R, Ag_.refl _⟩; clear R
            have Y : (execOp a399.eval oA5_19_0).run Try.prog w350 = .ok (.value (.bool false)) w350 := by unfold oA5_19_0; go_simp
            refine sv_ gA5_19_0 Y fun a400 e => ?_; clear Y
            have h4 := pt_ F e; replace F := pu_ F e; clear e
            refine st_end ?_
            replace h0 := F.of h0; replace h1 := F.of h1; clear h156; have R := F.r; clear F
            change (Code.ret).wp _ _ _ _
            refine wp_ret ?_
            change bodyPost Try.prog Try.f5 (fun e w' => e = .returned (.bool true) ∧ Keep (fun g => g < W.heap.size) W w') .ret a400 w350
            refine ret_one rfl R h4 ?_
            exfalso; first | (have h8 := HC.out; omega) | (have a1 := HHL.out; have a2 := HHG.out; have a3 := HHQ.out; have a4 := HHH.out; simp at a1 a2 a3 a4; omega)
        | true =>
          have fb387 := hb387; clear hb387
          simp only [decide_eq_true_eq, decide_eq_false_iff_not, bne_iff_ne, bne_eq_false_iff_eq, beq_iff_eq, beq_eq_false_iff_ne, ne_eq, Bool.not_eq_true', Bool.not_eq_false', Bool.not_eq_eq_eq_not, Bool.not_true, Bool.not_false] at fb387
          cases b390 with
          | false =>
            have fb390 := hb390; clear hb390
            simp only [decide_eq_true_eq, decide_eq_false_iff_not, bne_iff_ne, bne_eq_false_iff_eq, beq_iff_eq, beq_eq_false_iff_ne, ne_eq, Bool.not_eq_true', Bool.not_eq_false', Bool.not_eq_eq_eq_not, Bool.not_true, Bool.not_false] at fb390
            have Y : (execOp a391.eval oA5_18_29).run Try.prog w350 = .ok (.value (.bool true)) w350 := by unfold oA5_18_29; go_simp
            refine st_val gA5_18_29 rfl (wanted_is (j := 24) (d := 148) rfl rfl h148 rfl) Y fun a401 e => ?_; clear Y
            clear h150 h152; have h153 := pt_ F e; replace F := pu_ F e; replace h125 := so_ e h125; replace h145 := so_ e h145; replace h148 := so_ e h148; clear e
            have Y : (execOp a401.eval oA5_18_30).run Try.prog w350 = .ok (.value (.bool true)) w350 := by unfold oA5_18_30; go_simp
            refine st_val gA5_18_30 rfl (wanted_is (j := 21) (d := 145) rfl rfl h145 rfl) Y fun a402 e => ?_; clear Y
            clear h148 h153; have h154 := pt_ F e; replace F := pu_ F e; replace h125 := so_ e h125; replace h145 := so_ e h145; clear e
            have Y : (execOp a402.eval oA5_18_31).run Try.prog w350 = .ok (.value (.bool true)) w350 := by unfold oA5_18_31; go_simp
            refine st_val gA5_18_31 rfl (wanted_is (j := 1) (d := 125) rfl rfl h125 rfl) Y fun a403 e => ?_; clear Y
            clear h145 h154; have h155 := pt_ F e; replace F := pu_ F e; replace h125 := so_ e h125; clear e
            have Y : (execOp a403.eval oA5_18_32).run Try.prog w350 = .ok (.value (.bool true)) w350 := by unfold oA5_18_32; go_simp
            refine sv_ gA5_18_32 Y fun a404 e => ?_; clear Y
            clear h125 h155; have h156 := pt_ F e; replace F := pu_ F e; clear e
            refine st_end ?_
            replace h0 := F.of h0; replace h1 := F.of h1; clear h6; clear h12; clear h13; clear h15; have R := F.r; clear F
            change (cA5_59).wp _ _ _ _
            refine wp_cond_true (x := cA5_60) (y := Code.skip) (eval_slot h156) ?_
            refine wp_seq (x := cA5_61) (y := Code.ret) ?_
            change (Code.region 19 OA5_19 false).wp _ _ _ _
            refine reg_in (l := [0]) rfl ?_
            have F : FE_ _ [] a404 a404 := ⟨R, Ag_.refl _⟩; clear R
            have Y : (execOp a404.eval oA5_19_0).run Try.prog w350 = .ok (.value (.bool false)) w350 := by unfold oA5_19_0; go_simp
            refine sv_ gA5_19_0 Y fun a405 e => ?_; clear Y
            have h4 := pt_ F e; replace F := pu_ F e; clear e
            refine st_end ?_
            replace h0 := F.of h0; replace h1 := F.of h1; clear h156; have R := F.r; clear F
            change (Code.ret).wp _ _ _ _
            refine wp_ret ?_
            change bodyPost Try.prog Try.f5 (fun e w' => e = .returned (.bool true) ∧ Keep (fun g => g < W.heap.size) W w') .ret a405 w350
            refine ret_one rfl R h4 ?_
            exfalso; first | (have h8 := HC.out; omega) | (have a1 := HHL.out; have a2 := HHG.out; have a3 := HHQ.out; have a4 := HHH.out; simp at a1 a2 a3 a4; omega)
          | true =>
            have fb390 := hb390; clear hb390
            simp only [decide_eq_true_eq, decide_eq_false_iff_not, bne_iff_ne, bne_eq_false_iff_eq, beq_iff_eq, beq_eq_false_iff_ne, ne_eq, Bool.not_eq_true', Bool.not_eq_false', Bool.not_eq_eq_eq_not, Bool.not_true, Bool.not_false] at fb390
            have Y : (execOp a391.eval oA5_18_29).run Try.prog w350 = .ok (.value (.bool false)) w350 := by unfold oA5_18_29; go_simp
            refine st_val gA5_18_29 rfl (wanted_is (j := 24) (d := 148) rfl rfl h148 rfl) Y fun a406 e => ?_; clear Y
            clear h150 h152; have h153 := pt_ F e; replace F := pu_ F e; replace h125 := so_ e h125; replace h145 := so_ e h145; replace h148 := so_ e h148; clear e
            have Y : (execOp a406.eval oA5_18_30).run Try.prog w350 = .ok (.value (.bool false)) w350 := by unfold oA5_18_30; go_simp
            refine st_val gA5_18_30 rfl (wanted_is (j := 21) (d := 145) rfl rfl h145 rfl) Y fun a407 e => ?_; clear Y
            clear h148 h153; have h154 := pt_ F e; replace F := pu_ F e; replace h125 := so_ e h125; replace h145 := so_ e h145; clear e
            have Y : (execOp a407.eval oA5_18_31).run Try.prog w350 = .ok (.value (.bool false)) w350 := by unfold oA5_18_31; go_simp
            refine st_val gA5_18_31 rfl (wanted_is (j := 1) (d := 125) rfl rfl h125 rfl) Y fun a408 e => ?_; clear Y
            clear h145 h154; have h155 := pt_ F e; replace F := pu_ F e; replace h125 := so_ e h125; clear e
            have Y : (execOp a408.eval oA5_18_32).run Try.prog w350 = .ok (.value (.bool false)) w350 := by unfold oA5_18_32; go_simp
            refine sv_ gA5_18_32 Y fun a409 e => ?_; clear Y
            clear h125 h155; have h156 := pt_ F e; replace F := pu_ F e; clear e
            refine st_end ?_
            replace h0 := F.of h0; replace h1 := F.of h1; clear h6; clear h12; clear h13; clear h15; have R := F.r; clear F
            change (cA5_59).wp _ _ _ _
            refine wp_cond_false (x := cA5_60) (y := Code.skip) (eval_slot h156) ?_
            refine wp_skip ?_
            exact rules_e R h0 h1 K1 HA HB (Lib.hid trivial)
    | true =>
      have fb363 := hb363; clear hb363
      simp only [decide_eq_true_eq, decide_eq_false_iff_not, bne_iff_ne, bne_eq_false_iff_eq, beq_iff_eq, beq_eq_false_iff_ne, ne_eq, Bool.not_eq_true', Bool.not_eq_false', Bool.not_eq_eq_eq_not, Bool.not_true, Bool.not_false] at fb363
      refine st_val gA5_18_14 rfl (wanted_is (j := 13) (d := 137) rfl rfl h137 rfl) (ym_ rfl (F.of h15)) fun a410 e => ?_
      have h138 := pt_ F e; replace F := pu_ F e; replace h125 := so_ e h125; replace h133 := so_ e h133; replace h137 := so_ e h137; clear e
      refine st_val gA5_18_15 rfl (wanted_is (j := 13) (d := 137) rfl rfl h137 rfl) (ym_ rfl (F.of h13)) fun a411 e => ?_
      have h139 := pt_ F e; replace F := pu_ F e; replace h125 := so_ e h125; replace h133 := so_ e h133; replace h137 := so_ e h137; replace h138 := so_ e h138; clear e
      refine st_val gA5_18_16 rfl (wanted_is (j := 13) (d := 137) rfl rfl h137 rfl) (ym_ rfl (F.of h1)) fun a412 e => ?_
      have h140 := pt_ F e; replace F := pu_ F e; replace h125 := so_ e h125; replace h133 := so_ e h133; replace h137 := so_ e h137; replace h138 := so_ e h138; replace h139 := so_ e h139; clear e
      have Y : (execOp a412.eval oA5_18_17).run Try.prog w350 = .ok (.value (.int .i64 y0)) w350 := by have h8 := HZ.out.2.2; unfold oA5_18_17; go_simp
      refine st_val gA5_18_17 rfl (wanted_is (j := 13) (d := 137) rfl rfl h137 rfl) Y fun a413 e => ?_; clear Y
      clear h139 h140; have h141 := pt_ F e; replace F := pu_ F e; replace h125 := so_ e h125; replace h133 := so_ e h133; replace h137 := so_ e h137; replace h138 := so_ e h138; clear e
      obtain ⟨b414, hb414⟩ : ∃ x, (((m0 : Int) != (y0 : Int))) = x := ⟨_, rfl⟩
      have Y : (execOp a413.eval oA5_18_18).run Try.prog w350 = .ok (.value (.bool b414)) w350 := by rw [← hb414]; unfold oA5_18_18; go_simp
      refine st_val gA5_18_18 rfl (wanted_is (j := 13) (d := 137) rfl rfl h137 rfl) Y fun a415 e => ?_; clear Y
      clear h138 h141; have h142 := pt_ F e; replace F := pu_ F e; replace h125 := so_ e h125; replace h133 := so_ e h133; replace h137 := so_ e h137; clear e
      have Y : (execOp a415.eval oA5_18_19).run Try.prog w350 = .ok (.value (.bool b414)) w350 := by unfold oA5_18_19; go_simp
      refine st_val gA5_18_19 rfl (wanted_is (j := 9) (d := 133) rfl rfl h133 rfl) Y fun a416 e => ?_; clear Y
      clear h137 h142; have h143 := pt_ F e; replace F := pu_ F e; replace h125 := so_ e h125; replace h133 := so_ e h133; clear e
      have Y : (execOp a416.eval oA5_18_20).run Try.prog w350 = .ok (.value (.bool b414)) w350 := by unfold oA5_18_20; go_simp
      refine st_val gA5_18_20 rfl (wanted_is (j := 1) (d := 125) rfl rfl h125 rfl) Y fun a417 e => ?_; clear Y
      clear h133 h143; have h144 := pt_ F e; replace F := pu_ F e; replace h125 := so_ e h125; clear e
      refine st_val gA5_18_21 rfl (wanted_is (j := 1) (d := 125) rfl rfl h125 rfl) (ym_ rfl h144) fun a418 e => ?_
      clear h144; have h145 := pt_ F e; replace F := pu_ F e; replace h125 := so_ e h125; clear e
      cases b414 with
      | false =>
        have fb414 := hb414; clear hb414
        simp only [decide_eq_true_eq, decide_eq_false_iff_not, bne_iff_ne, bne_eq_false_iff_eq, beq_iff_eq, beq_eq_false_iff_ne, ne_eq, Bool.not_eq_true', Bool.not_eq_false', Bool.not_eq_eq_eq_not, Bool.not_true, Bool.not_false] at fb414
        refine st_val gA5_18_22 rfl (wanted_is (j := 21) (d := 145) rfl rfl h145 rfl) (ym_ rfl (F.of h15)) fun a419 e => ?_
        have h146 := pt_ F e; replace F := pu_ F e; replace h125 := so_ e h125; replace h145 := so_ e h145; clear e
        obtain ⟨b420, hb420⟩ : ∃ x, (((m0 : Int) != (0 : Int))) = x := ⟨_, rfl⟩
        have Y : (execOp a419.eval oA5_18_23).run Try.prog w350 = .ok (.value (.bool b420)) w350 := by rw [← hb420]; unfold oA5_18_23; go_simp
        refine st_val gA5_18_23 rfl (wanted_is (j := 21) (d := 145) rfl rfl h145 rfl) Y fun a421 e => ?_; clear Y
        clear h146; have h147 := pt_ F e; replace F := pu_ F e; replace h125 := so_ e h125; replace h145 := so_ e h145; clear e
        refine st_val gA5_18_24 rfl (wanted_is (j := 21) (d := 145) rfl rfl h145 rfl) (ym_ rfl h147) fun a422 e => ?_
        clear h147; have h148 := pt_ F e; replace F := pu_ F e; replace h125 := so_ e h125; replace h145 := so_ e h145; clear e
        cases b420 with
        | false =>
          have fb420 := hb420; clear hb420
          simp only [decide_eq_true_eq, decide_eq_false_iff_not, bne_iff_ne, bne_eq_false_iff_eq, beq_iff_eq, beq_eq_false_iff_ne, ne_eq, Bool.not_eq_true', Bool.not_eq_false', Bool.not_eq_eq_eq_not, Bool.not_true, Bool.not_false] at fb420
          refine st_not gA5_18_25 rfl (wanted_is (j := 24) (d := 148) rfl rfl h148 rfl) fun a423 e => ?_
          have h149 := pt_ F e; replace F := pu_ F e; replace h125 := so_ e h125; replace h145 := so_ e h145; replace h148 := so_ e h148; clear e
          refine st_not gA5_18_26 rfl (wanted_is (j := 24) (d := 148) rfl rfl h148 rfl) fun a424 e => ?_
          clear h149; have h150 := pt_ F e; replace F := pu_ F e; replace h125 := so_ e h125; replace h145 := so_ e h145; replace h148 := so_ e h148; clear e
          refine st_not gA5_18_27 rfl (wanted_is (j := 24) (d := 148) rfl rfl h148 rfl) fun a425 e => ?_
          have h151 := pt_ F e; replace F := pu_ F e; replace h125 := so_ e h125; replace h145 := so_ e h145; replace h148 := so_ e h148; replace h150 := so_ e h150; clear e
          refine st_not gA5_18_28 rfl (wanted_is (j := 24) (d := 148) rfl rfl h148 rfl) fun a426 e => ?_
          clear h151; have h152 := pt_ F e; replace F := pu_ F e; replace h125 := so_ e h125; replace h145 := so_ e h145; replace h148 := so_ e h148; replace h150 := so_ e h150; clear e
          refine st_not gA5_18_29 rfl (wanted_is (j := 24) (d := 148) rfl rfl h148 rfl) fun a427 e => ?_
          clear h150 h152; have h153 := pt_ F e; replace F := pu_ F e; replace h125 := so_ e h125; replace h145 := so_ e h145; replace h148 := so_ e h148; clear e
          have Y : (execOp a427.eval oA5_18_30).run Try.prog w350 = .ok (.value (.bool false)) w350 := by unfold oA5_18_30; go_simp
          refine st_val gA5_18_30 rfl (wanted_is (j := 21) (d := 145) rfl rfl h145 rfl) Y fun a428 e => ?_; clear Y
          clear h148 h153; have h154 := pt_ F e; replace F := pu_ F e; replace h125 := so_ e h125; replace h145 := so_ e h145; clear e
          have Y : (execOp a428.eval oA5_18_31).run Try.prog w350 = .ok (.value (.bool false)) w350 := by unfold oA5_18_31; go_simp
          refine st_val gA5_18_31 rfl (wanted_is (j := 1) (d := 125) rfl rfl h125 rfl) Y fun a429 e => ?_; clear Y
          clear h145 h154; have h155 := pt_ F e; replace F := pu_ F e; replace h125 := so_ e h125; clear e
          have Y : (execOp a429.eval oA5_18_32).run Try.prog w350 = .ok (.value (.bool false)) w350 := by unfold oA5_18_32; go_simp
          refine sv_ gA5_18_32 Y fun a430 e => ?_; clear Y
          clear h125 h155; have h156 := pt_ F e; replace F := pu_ F e; clear e
          refine st_end ?_
          replace h0 := F.of h0; replace h1 := F.of h1; clear h6; clear h12; clear h13; clear h15; have R := F.r; clear F
          change (cA5_59).wp _ _ _ _
          refine wp_cond_false (x := cA5_60) (y := Code.skip) (eval_slot h156) ?_
          refine wp_skip ?_
          exact rules_e R h0 h1 K1 HA HB (Lib.hid trivial)
        | true =>
          have fb420 := hb420; clear hb420
          simp only [decide_eq_true_eq, decide_eq_false_iff_not, bne_iff_ne, bne_eq_false_iff_eq, beq_iff_eq, beq_eq_false_iff_ne, ne_eq, Bool.not_eq_true', Bool.not_eq_false', Bool.not_eq_eq_eq_not, Bool.not_true, Bool.not_false] at fb420
          refine st_val gA5_18_25 rfl (wanted_is (j := 24) (d := 148) rfl rfl h148 rfl) (ym_ rfl (F.of h15)) fun a431 e => ?_
          have h149 := pt_ F e; replace F := pu_ F e; replace h125 := so_ e h125; replace h145 := so_ e h145; replace h148 := so_ e h148; clear e
          obtain ⟨b432, hb432⟩ : ∃ x, (decide ((m0 : Int) < (0 : Int))) = x := ⟨_, rfl⟩
          have Y : (execOp a431.eval oA5_18_26).run Try.prog w350 = .ok (.value (.bool b432)) w350 := by rw [← hb432]; unfold oA5_18_26; go_simp
          refine st_val gA5_18_26 rfl (wanted_is (j := 24) (d := 148) rfl rfl h148 rfl) Y fun a433 e => ?_; clear Y
          clear h149; have h150 := pt_ F e; replace F := pu_ F e; replace h125 := so_ e h125; replace h145 := so_ e h145; replace h148 := so_ e h148; clear e
          refine st_val gA5_18_27 rfl (wanted_is (j := 24) (d := 148) rfl rfl h148 rfl) (ym_ rfl (F.of h1)) fun a434 e => ?_
          have h151 := pt_ F e; replace F := pu_ F e; replace h125 := so_ e h125; replace h145 := so_ e h145; replace h148 := so_ e h148; replace h150 := so_ e h150; clear e
          obtain ⟨b435, hb435⟩ : ∃ x, (decide ((b : Int) < (0 : Int))) = x := ⟨_, rfl⟩
          have Y : (execOp a434.eval oA5_18_28).run Try.prog w350 = .ok (.value (.bool b435)) w350 := by rw [← hb435]; unfold oA5_18_28; go_simp
          refine st_val gA5_18_28 rfl (wanted_is (j := 24) (d := 148) rfl rfl h148 rfl) Y fun a436 e => ?_; clear Y
          clear h151; have h152 := pt_ F e; replace F := pu_ F e; replace h125 := so_ e h125; replace h145 := so_ e h145; replace h148 := so_ e h148; replace h150 := so_ e h150; clear e
          cases b432 with
          | false =>
            have fb432 := hb432; clear hb432
            simp only [decide_eq_true_eq, decide_eq_false_iff_not, bne_iff_ne, bne_eq_false_iff_eq, beq_iff_eq, beq_eq_false_iff_ne, ne_eq, Bool.not_eq_true', Bool.not_eq_false', Bool.not_eq_eq_eq_not, Bool.not_true, Bool.not_false] at fb432
            cases b435 with
            | false =>
              have fb435 := hb435; clear hb435
              simp only [decide_eq_true_eq, decide_eq_false_iff_not, bne_iff_ne, bne_eq_false_iff_eq, beq_iff_eq, beq_eq_false_iff_ne, ne_eq, Bool.not_eq_true', Bool.not_eq_false', Bool.not_eq_eq_eq_not, Bool.not_true, Bool.not_false] at fb435
              have Y : (execOp a436.eval oA5_18_29).run Try.prog w350 = .ok (.value (.bool false)) w350 := by unfold oA5_18_29; go_simp
              refine st_val gA5_18_29 rfl (wanted_is (j := 24) (d := 148) rfl rfl h148 rfl) Y fun a437 e => ?_; clear Y
              clear h150 h152; have h153 := pt_ F e; replace F := pu_ F e; replace h125 := so_ e h125; replace h145 := so_ e h145; replace h148 := so_ e h148; clear e
              have Y : (execOp a437.eval oA5_18_30).run Try.prog w350 = .ok (.value (.bool false)) w350 := by unfold oA5_18_30; go_simp
              refine st_val gA5_18_30 rfl (wanted_is (j := 21) (d := 145) rfl rfl h145 rfl) Y fun a438 e => ?_; clear Y
              clear h148 h153; have h154 := pt_ F e; replace F := pu_ F e; replace h125 := so_ e h125; replace h145 := so_ e h145; clear e
              have Y : (execOp a438.eval oA5_18_31).run Try.prog w350 = .ok (.value (.bool false)) w350 := by unfold oA5_18_31; go_simp
              refine st_val gA5_18_31 rfl (wanted_is (j := 1) (d := 125) rfl rfl h125 rfl) Y fun a439 e => ?_; clear Y
              clear h145 h154; have h155 := pt_ F e; replace F := pu_ F e; replace h125 := so_ e h125; clear e
              have Y : (execOp a439.eval oA5_18_32).run Try.prog w350 = .ok (.value (.bool false)) w350 := by unfold oA5_18_32; go_simp
              refine sv_ gA5_18_32 Y fun a440 e => ?_; clear Y
              clear h125 h155; have h156 := pt_ F e; replace F := pu_ F e; clear e
              refine st_end ?_
              replace h0 := F.of h0; replace h1 := F.of h1; clear h6; clear h12; clear h13; clear h15; have R := F.r; clear F
              change (cA5_59).wp _ _ _ _
              refine wp_cond_false (x := cA5_60) (y := Code.skip) (eval_slot h156) ?_
              refine wp_skip ?_
              exact rules_e R h0 h1 K1 HA HB (Lib.hid trivial)
            | true =>
              have fb435 := hb435; clear hb435
              simp only [decide_eq_true_eq, decide_eq_false_iff_not, bne_iff_ne, bne_eq_false_iff_eq, beq_iff_eq, beq_eq_false_iff_ne, ne_eq, Bool.not_eq_true', Bool.not_eq_false', Bool.not_eq_eq_eq_not, Bool.not_true, Bool.not_false] at fb435
              have Y : (execOp a436.eval oA5_18_29).run Try.prog w350 = .ok (.value (.bool true)) w350 := by unfold oA5_18_29; go_simp
              refine st_val gA5_18_29 rfl (wanted_is (j := 24) (d := 148) rfl rfl h148 rfl) Y fun a441 e => ?_; clear Y
              clear h150 h152; have h153 := pt_ F e; replace F := pu_ F e; replace h125 := so_ e h125; replace h145 := so_ e h145; replace h148 := so_ e h148; clear e
              have Y : (execOp a441.eval oA5_18_30).run Try.prog w350 = .ok (.value (.bool true)) w350 := by unfold oA5_18_30; go_simp
              refine st_val gA5_18_30 rfl (wanted_is (j := 21) (d := 145) rfl rfl h145 rfl) Y fun a442 e => ?_; clear Y
              clear h148 h153; have h154 := pt_ F e; replace F := pu_ F e; replace h125 := so_ e h125; replace h145 := so_ e h145; clear e
              have Y : (execOp a442.eval oA5_18_31).run Try.prog w350 = .ok (.value (.bool true)) w350 := by unfold oA5_18_31; go_simp
              refine st_val gA5_18_31 rfl (wanted_is (j := 1) (d := 125) rfl rfl h125 rfl) Y fun a443 e => ?_; clear Y
              clear h145 h154; have h155 := pt_ F e; replace F := pu_ F e; replace h125 := so_ e h125; clear e
              have Y : (execOp a443.eval oA5_18_32).run Try.prog w350 = .ok (.value (.bool true)) w350 := by unfold oA5_18_32; go_simp
              refine sv_ gA5_18_32 Y fun a444 e => ?_; clear Y
              clear h125 h155; have h156 := pt_ F e; replace F := pu_ F e; clear e
              refine st_end ?_
              replace h0 := F.of h0; replace h1 := F.of h1; clear h6; clear h12; clear h13; clear h15; have R := F.r; clear F
              change (cA5_59).wp _ _ _ _
              refine wp_cond_true (x := cA5_60) (y := Code.skip) (eval_slot h156) ?_
              refine wp_seq (x := cA5_61) (y := Code.ret) ?_
              change (Code.region 19 OA5_19 false).wp _ _ _ _
              refine reg_in (l := [0]) rfl ?_
              have F : FE_ _ [] a444 a444 := ⟨R, Ag_.refl _⟩; clear R
              have Y : (execOp a444.eval oA5_19_0).run Try.prog w350 = .ok (.value (.bool false)) w350 := by unfold oA5_19_0; go_simp
              refine sv_ gA5_19_0 Y fun a445 e => ?_; clear Y
              have h4 := pt_ F e; replace F := pu_ F e; clear e
              refine st_end ?_
              replace h0 := F.of h0; replace h1 := F.of h1; clear h156; have R := F.r; clear F
              change (Code.ret).wp _ _ _ _
              refine wp_ret ?_
              change bodyPost Try.prog Try.f5 (fun e w' => e = .returned (.bool true) ∧ Keep (fun g => g < W.heap.size) W w') .ret a445 w350
              refine ret_one rfl R h4 ?_
              exfalso; first | (have h8 := HC.out; omega) | (have a1 := HHL.out; have a2 := HHG.out; have a3 := HHQ.out; have a4 := HHH.out; simp at a1 a2 a3 a4; omega)
          | true =>
            have fb432 := hb432; clear hb432
            simp only [decide_eq_true_eq, decide_eq_false_iff_not, bne_iff_ne, bne_eq_false_iff_eq, beq_iff_eq, beq_eq_false_iff_ne, ne_eq, Bool.not_eq_true', Bool.not_eq_false', Bool.not_eq_eq_eq_not, Bool.not_true, Bool.not_false] at fb432
            cases b435 with
            | false =>
              have fb435 := hb435; clear hb435
              simp only [decide_eq_true_eq, decide_eq_false_iff_not, bne_iff_ne, bne_eq_false_iff_eq, beq_iff_eq, beq_eq_false_iff_ne, ne_eq, Bool.not_eq_true', Bool.not_eq_false', Bool.not_eq_eq_eq_not, Bool.not_true, Bool.not_false] at fb435
              have Y : (execOp a436.eval oA5_18_29).run Try.prog w350 = .ok (.value (.bool true)) w350 := by unfold oA5_18_29; go_simp
              refine st_val gA5_18_29 rfl (wanted_is (j := 24) (d := 148) rfl rfl h148 rfl) Y fun a446 e => ?_; clear Y
              clear h150 h152; have h153 := pt_ F e; replace F := pu_ F e; replace h125 := so_ e h125; replace h145 := so_ e h145; replace h148 := so_ e h148; clear e
              have Y : (execOp a446.eval oA5_18_30).run Try.prog w350 = .ok (.value (.bool true)) w350 := by unfold oA5_18_30; go_simp
              refine st_val gA5_18_30 rfl (wanted_is (j := 21) (d := 145) rfl rfl h145 rfl) Y fun a447 e => ?_; clear Y
              clear h148 h153; have h154 := pt_ F e; replace F := pu_ F e; replace h125 := so_ e h125; replace h145 := so_ e h145; clear e
              have Y : (execOp a447.eval oA5_18_31).run Try.prog w350 = .ok (.value (.bool true)) w350 := by unfold oA5_18_31; go_simp
              refine st_val gA5_18_31 rfl (wanted_is (j := 1) (d := 125) rfl rfl h125 rfl) Y fun a448 e => ?_; clear Y
              clear h145 h154; have h155 := pt_ F e; replace F := pu_ F e; replace h125 := so_ e h125; clear e
              have Y : (execOp a448.eval oA5_18_32).run Try.prog w350 = .ok (.value (.bool true)) w350 := by unfold oA5_18_32; go_simp
              refine sv_ gA5_18_32 Y fun a449 e => ?_; clear Y
              clear h125 h155; have h156 := pt_ F e; replace F := pu_ F e; clear e
              refine st_end ?_
              replace h0 := F.of h0; replace h1 := F.of h1; clear h6; clear h12; clear h13; clear h15; have R := F.r; clear F
              change (cA5_59).wp _ _ _ _
              refine wp_cond_true (x := cA5_60) (y := Code.skip) (eval_slot h156) ?_
              refine wp_seq (x := cA5_61) (y := Code.ret) ?_
              change (Code.region 19 OA5_19 false).wp _ _ _ _
              refine reg_in (l := [0]) rfl ?_
              have F : FE_ _ [] a449 a449 := ⟨R, Ag_.refl _⟩; clear R
              have Y : (execOp a449.eval oA5_19_0).run Try.prog w350 = .ok (.value (.bool false)) w350 := by unfold oA5_19_0; go_simp
              refine sv_ gA5_19_0 Y fun a450 e => ?_; clear Y
              have h4 := pt_ F e; replace F := pu_ F e; clear e
              refine st_end ?_
              replace h0 := F.of h0; replace h1 := F.of h1; clear h156; have R := F.r; clear F
              change (Code.ret).wp _ _ _ _
              refine wp_ret ?_
              change bodyPost Try.prog Try.f5 (fun e w' => e = .returned (.bool true) ∧ Keep (fun g => g < W.heap.size) W w') .ret a450 w350
              refine ret_one rfl R h4 ?_
              exfalso; first | (have h8 := HC.out; omega) | (have a1 := HHL.out; have a2 := HHG.out; have a3 := HHQ.out; have a4 := HHH.out; simp at a1 a2 a3 a4; omega)
            | true =>
              have fb435 := hb435; clear hb435
              simp only [decide_eq_true_eq, decide_eq_false_iff_not, bne_iff_ne, bne_eq_false_iff_eq, beq_iff_eq, beq_eq_false_iff_ne, ne_eq, Bool.not_eq_true', Bool.not_eq_false', Bool.not_eq_eq_eq_not, Bool.not_true, Bool.not_false] at fb435
              have Y : (execOp a436.eval oA5_18_29).run Try.prog w350 = .ok (.value (.bool false)) w350 := by unfold oA5_18_29; go_simp
              refine st_val gA5_18_29 rfl (wanted_is (j := 24) (d := 148) rfl rfl h148 rfl) Y fun a451 e => ?_; clear Y
              clear h150 h152; have h153 := pt_ F e; replace F := pu_ F e; replace h125 := so_ e h125; replace h145 := so_ e h145; replace h148 := so_ e h148; clear e
              have Y : (execOp a451.eval oA5_18_30).run Try.prog w350 = .ok (.value (.bool false)) w350 := by unfold oA5_18_30; go_simp
              refine st_val gA5_18_30 rfl (wanted_is (j := 21) (d := 145) rfl rfl h145 rfl) Y fun a452 e => ?_; clear Y
              clear h148 h153; have h154 := pt_ F e; replace F := pu_ F e; replace h125 := so_ e h125; replace h145 := so_ e h145; clear e
              have Y : (execOp a452.eval oA5_18_31).run Try.prog w350 = .ok (.value (.bool false)) w350 := by unfold oA5_18_31; go_simp
              refine st_val gA5_18_31 rfl (wanted_is (j := 1) (d := 125) rfl rfl h125 rfl) Y fun a453 e => ?_; clear Y
              clear h145 h154; have h155 := pt_ F e; replace F := pu_ F e; replace h125 := so_ e h125; clear e
              have Y : (execOp a453.eval oA5_18_32).run Try.prog w350 = .ok (.value (.bool false)) w350 := by unfold oA5_18_32; go_simp
              refine sv_ gA5_18_32 Y fun a454 e => ?_; clear Y
              clear h125 h155; have h156 := pt_ F e; replace F := pu_ F e; clear e
              refine st_end ?_
              replace h0 := F.of h0; replace h1 := F.of h1; clear h6; clear h12; clear h13; clear h15; have R := F.r; clear F
              change (cA5_59).wp _ _ _ _
              refine wp_cond_false (x := cA5_60) (y := Code.skip) (eval_slot h156) ?_
              refine wp_skip ?_
              exact rules_e R h0 h1 K1 HA HB (Lib.hid trivial)
      | true =>
        have fb414 := hb414; clear hb414
        simp only [decide_eq_true_eq, decide_eq_false_iff_not, bne_iff_ne, bne_eq_false_iff_eq, beq_iff_eq, beq_eq_false_iff_ne, ne_eq, Bool.not_eq_true', Bool.not_eq_false', Bool.not_eq_eq_eq_not, Bool.not_true, Bool.not_false] at fb414
        refine st_not gA5_18_22 rfl (wanted_is (j := 21) (d := 145) rfl rfl h145 rfl) fun a455 e => ?_
        have h146 := pt_ F e; replace F := pu_ F e; replace h125 := so_ e h125; replace h145 := so_ e h145; clear e
        refine st_not gA5_18_23 rfl (wanted_is (j := 21) (d := 145) rfl rfl h145 rfl) fun a456 e => ?_
        clear h146; have h147 := pt_ F e; replace F := pu_ F e; replace h125 := so_ e h125; replace h145 := so_ e h145; clear e
        refine st_not gA5_18_24 rfl (wanted_is (j := 21) (d := 145) rfl rfl h145 rfl) fun a457 e => ?_
        clear h147; have h148 := pt_ F e; replace F := pu_ F e; replace h125 := so_ e h125; replace h145 := so_ e h145; clear e
        refine st_not gA5_18_25 rfl (wanted_un (j := 24) (d := 148) rfl rfl h148) fun a458 e => ?_
        have h149 := pt_ F e; replace F := pu_ F e; replace h125 := so_ e h125; replace h145 := so_ e h145; replace h148 := so_ e h148; clear e
        refine st_not gA5_18_26 rfl (wanted_un (j := 24) (d := 148) rfl rfl h148) fun a459 e => ?_
        clear h149; have h150 := pt_ F e; replace F := pu_ F e; replace h125 := so_ e h125; replace h145 := so_ e h145; replace h148 := so_ e h148; clear e
        refine st_not gA5_18_27 rfl (wanted_un (j := 24) (d := 148) rfl rfl h148) fun a460 e => ?_
        have h151 := pt_ F e; replace F := pu_ F e; replace h125 := so_ e h125; replace h145 := so_ e h145; replace h148 := so_ e h148; replace h150 := so_ e h150; clear e
        refine st_not gA5_18_28 rfl (wanted_un (j := 24) (d := 148) rfl rfl h148) fun a461 e => ?_
        clear h151; have h152 := pt_ F e; replace F := pu_ F e; replace h125 := so_ e h125; replace h145 := so_ e h145; replace h148 := so_ e h148; replace h150 := so_ e h150; clear e
        refine st_not gA5_18_29 rfl (wanted_un (j := 24) (d := 148) rfl rfl h148) fun a462 e => ?_
        clear h150 h152; have h153 := pt_ F e; replace F := pu_ F e; replace h125 := so_ e h125; replace h145 := so_ e h145; replace h148 := so_ e h148; clear e
        refine st_not gA5_18_30 rfl (wanted_is (j := 21) (d := 145) rfl rfl h145 rfl) fun a463 e => ?_
        clear h148 h153; have h154 := pt_ F e; replace F := pu_ F e; replace h125 := so_ e h125; replace h145 := so_ e h145; clear e
        have Y : (execOp a463.eval oA5_18_31).run Try.prog w350 = .ok (.value (.bool true)) w350 := by unfold oA5_18_31; go_simp
        refine st_val gA5_18_31 rfl (wanted_is (j := 1) (d := 125) rfl rfl h125 rfl) Y fun a464 e => ?_; clear Y
        clear h145 h154; have h155 := pt_ F e; replace F := pu_ F e; replace h125 := so_ e h125; clear e
        have Y : (execOp a464.eval oA5_18_32).run Try.prog w350 = .ok (.value (.bool true)) w350 := by unfold oA5_18_32; go_simp
        refine sv_ gA5_18_32 Y fun a465 e => ?_; clear Y
        clear h125 h155; have h156 := pt_ F e; replace F := pu_ F e; clear e
        refine st_end ?_
        replace h0 := F.of h0; replace h1 := F.of h1; clear h6; clear h12; clear h13; clear h15; have R := F.r; clear F
        change (cA5_59).wp _ _ _ _
        refine wp_cond_true (x := cA5_60) (y := Code.skip) (eval_slot h156) ?_
        refine wp_seq (x := cA5_61) (y := Code.ret) ?_
        change (Code.region 19 OA5_19 false).wp _ _ _ _
        refine reg_in (l := [0]) rfl ?_
        have F : FE_ _ [] a465 a465 := ⟨R, Ag_.refl _⟩; clear R
        have Y : (execOp a465.eval oA5_19_0).run Try.prog w350 = .ok (.value (.bool false)) w350 := by unfold oA5_19_0; go_simp
        refine sv_ gA5_19_0 Y fun a466 e => ?_; clear Y
        have h4 := pt_ F e; replace F := pu_ F e; clear e
        refine st_end ?_
        replace h0 := F.of h0; replace h1 := F.of h1; clear h156; have R := F.r; clear F
        change (Code.ret).wp _ _ _ _
        refine wp_ret ?_
        change bodyPost Try.prog Try.f5 (fun e w' => e = .returned (.bool true) ∧ Keep (fun g => g < W.heap.size) W w') .ret a466 w350
        refine ret_one rfl R h4 ?_
        exfalso; first | (have h8 := HC.out; omega) | (have a1 := HHL.out; have a2 := HHG.out; have a3 := HHQ.out; have a4 := HHH.out; simp at a1 a2 a3 a4; omega)
set_option maxRecDepth 100000 in
set_option maxHeartbeats 4000000 in
theorem rules_c {W : World} {a b : Int} {f0 : Act} {w0 : World} (R : FrS 192 f0) (h0 : f0.tmps[0]? = some (.int .i64 a)) (h1 : f0.tmps[1]? = some (.int .i64 b)) (K1 : Keep (fun g => g < W.heap.size) W w0)  (HA : Hid (inR a)) (HB : Hid (inR b)) (HC : Hid (a = -9223372036854775808 ∧ b = -1)) (HQ : Hid (evW (opT [47, 47] a b) = .bal (ballV (flF fOver)))) (HR : Hid (evW (opT [114, 101, 109] a b) = .num 0)) (HM : Hid (evW (opT [109, 111, 100] a b) = .num 0)) : cA5_42.wp Try.prog (bodyPost Try.prog Try.f5 (fun e w' => e = .returned (.bool true) ∧ Keep (fun g => g < W.heap.size) W w')) f0 w0 := by
  refine wp_seq (x := cA5_43) (y := cA5_44) ?_
  change (Code.region 13 OA5_13 false).wp _ _ _ _
  refine reg_in (l := [0, 1, 2, 3, 4, 5, 6, 7]) rfl ?_
  have F : FE_ _ [] f0 f0 := ⟨R, Ag_.refl _⟩; clear R
  refine sv_ gA5_13_0 (ym_ rfl (F.of h0)) fun a467 e => ?_
  have h72 := pt_ F e; replace F := pu_ F e; clear e
  refine sv_ gA5_13_1 (ym_ rfl (F.of h1)) fun a468 e => ?_
  have h73 := pt_ F e; replace F := pu_ F e; replace h72 := so_ e h72; clear e
  have Y : (execOp a468.eval oA5_13_2).run Try.prog w0 = .ok (.enter 19 #[.string (⟨#[47, 47]⟩), .int .i64 a, .int .i64 b]) w0 := by unfold oA5_13_2; go_simp
  refine st_call gA5_13_2 rfl (wanted_free rfl) Y ((lworth_bal HQ.out (by decide) HA.out HB.out).mono ?_); clear Y
  rintro e9 w469 ⟨rfl, kk⟩
  replace K1 := keep_onto K1 kk
  clear kk
  refine ⟨_, rfl, fun a470 e => ?_⟩
  clear h72 h73; have h74 := pt_ F e; replace F := pu_ F e; clear e
  refine sv_ gA5_13_3 (ym_ rfl h74) fun a471 e => ?_
  clear h74; have h71 := pt_ F e; replace F := pu_ F e; clear e
  refine sv_ gA5_13_4 (ye20_ rfl h71) fun a472 e => ?_
  have h75 := pt_ F e; replace F := pu_ F e; replace h71 := so_ e h71; clear e
  refine sv_ gA5_13_5 (ye21_ rfl h71) fun a473 e => ?_
  clear h71; have h76 := pt_ F e; replace F := pu_ F e; replace h75 := so_ e h75; clear e
  refine sv_ gA5_13_6 (ya_ rfl h75) fun a474 e => ?_
  clear h75; have h12 := pt_ F e; replace F := pu_ F e; replace h76 := so_ e h76; clear e
  refine sv_ gA5_13_7 (ya_ rfl h76) fun a475 e => ?_
  clear h76; have h6 := pt_ F e; replace F := pu_ F e; replace h12 := so_ e h12; clear e
  refine st_end ?_
  replace h0 := F.of h0; replace h1 := F.of h1; have R := F.r; clear F
  change (cA5_44).wp _ _ _ _
  refine wp_seq (x := cA5_45) (y := cA5_46) ?_
  change (Code.region 14 OA5_14 false).wp _ _ _ _
  refine reg_in (l := [0, 1, 2, 3, 4, 5, 6, 7]) rfl ?_
  have F : FE_ _ [] a475 a475 := ⟨R, Ag_.refl _⟩; clear R
  refine sv_ gA5_14_0 (ym_ rfl (F.of h0)) fun a476 e => ?_
  have h78 := pt_ F e; replace F := pu_ F e; clear e
  refine sv_ gA5_14_1 (ym_ rfl (F.of h1)) fun a477 e => ?_
  have h79 := pt_ F e; replace F := pu_ F e; replace h78 := so_ e h78; clear e
  have Y : (execOp a477.eval oA5_14_2).run Try.prog w469 = .ok (.enter 19 #[.string (⟨#[114, 101, 109]⟩), .int .i64 a, .int .i64 b]) w469 := by unfold oA5_14_2; go_simp
  refine st_call gA5_14_2 rfl (wanted_free rfl) Y ((lworth_num HR.out (by decide) HA.out HB.out).mono ?_); clear Y
  rintro e9 w478 ⟨rfl, kk⟩
  replace K1 := keep_onto K1 kk
  clear kk
  refine ⟨_, rfl, fun a479 e => ?_⟩
  clear h78 h79; have h80 := pt_ F e; replace F := pu_ F e; clear e
  refine sv_ gA5_14_3 (ym_ rfl h80) fun a480 e => ?_
  clear h80; have h77 := pt_ F e; replace F := pu_ F e; clear e
  refine sv_ gA5_14_4 (ye20_ rfl h77) fun a481 e => ?_
  have h81 := pt_ F e; replace F := pu_ F e; replace h77 := so_ e h77; clear e
  refine sv_ gA5_14_5 (ye21_ rfl h77) fun a482 e => ?_
  clear h77; have h82 := pt_ F e; replace F := pu_ F e; replace h81 := so_ e h81; clear e
  refine sv_ gA5_14_6 (ya_ rfl h81) fun a483 e => ?_
  clear h81; have h13 := pt_ F e; replace F := pu_ F e; replace h82 := so_ e h82; clear e
  refine sv_ gA5_14_7 (ya_ rfl h82) fun a484 e => ?_
  clear h82; have h14 := pt_ F e; replace F := pu_ F e; replace h13 := so_ e h13; clear e
  refine st_end ?_
  replace h0 := F.of h0; replace h1 := F.of h1; replace h6 := F.of h6; replace h12 := F.of h12; have R := F.r; clear F
  change (cA5_46).wp _ _ _ _
  refine wp_seq (x := cA5_47) (y := cA5_48) ?_
  change (Code.region 15 OA5_15 false).wp _ _ _ _
  refine reg_in (l := [0, 1, 2, 3, 4, 5, 6, 7]) rfl ?_
  have F : FE_ _ [] a484 a484 := ⟨R, Ag_.refl _⟩; clear R
  refine sv_ gA5_15_0 (ym_ rfl (F.of h0)) fun a485 e => ?_
  have h84 := pt_ F e; replace F := pu_ F e; clear e
  refine sv_ gA5_15_1 (ym_ rfl (F.of h1)) fun a486 e => ?_
  have h85 := pt_ F e; replace F := pu_ F e; replace h84 := so_ e h84; clear e
  have Y : (execOp a486.eval oA5_15_2).run Try.prog w478 = .ok (.enter 19 #[.string (⟨#[109, 111, 100]⟩), .int .i64 a, .int .i64 b]) w478 := by unfold oA5_15_2; go_simp
  refine st_call gA5_15_2 rfl (wanted_free rfl) Y ((lworth_num HM.out (by decide) HA.out HB.out).mono ?_); clear Y
  rintro e9 w487 ⟨rfl, kk⟩
  replace K1 := keep_onto K1 kk
  clear kk
  refine ⟨_, rfl, fun a488 e => ?_⟩
  clear h84 h85; have h86 := pt_ F e; replace F := pu_ F e; clear e
  refine sv_ gA5_15_3 (ym_ rfl h86) fun a489 e => ?_
  clear h86; have h83 := pt_ F e; replace F := pu_ F e; clear e
  refine sv_ gA5_15_4 (ye20_ rfl h83) fun a490 e => ?_
  have h87 := pt_ F e; replace F := pu_ F e; replace h83 := so_ e h83; clear e
  refine sv_ gA5_15_5 (ye21_ rfl h83) fun a491 e => ?_
  clear h83; have h88 := pt_ F e; replace F := pu_ F e; replace h87 := so_ e h87; clear e
  refine sv_ gA5_15_6 (ya_ rfl h87) fun a492 e => ?_
  clear h87; have h15 := pt_ F e; replace F := pu_ F e; replace h88 := so_ e h88; clear e
  refine sv_ gA5_15_7 (ya_ rfl h88) fun a493 e => ?_
  clear h88; have h16 := pt_ F e; replace F := pu_ F e; replace h15 := so_ e h15; clear e
  refine st_end ?_
  replace h0 := F.of h0; replace h1 := F.of h1; replace h6 := F.of h6; replace h12 := F.of h12; replace h13 := F.of h13; replace h14 := F.of h14; have R := F.r; clear F
  change (cA5_48).wp _ _ _ _
  refine js_ (x := cA5_49) (y := cA5_56) (fun fX wX => FrS 192 fX ∧ fX.tmps[0]? = some (.int .i64 a) ∧ fX.tmps[1]? = some (.int .i64 b) ∧ fX.tmps[6]? = some (.bool false) ∧ fX.tmps[12]? = some (.int .i64 0) ∧ fX.tmps[13]? = some (.int .i64 0) ∧ fX.tmps[15]? = some (.int .i64 0) ∧ Keep (fun g => g < W.heap.size) W wX) ?_ ?_
  ·
    refine wp_seq (x := cA5_50) (y := cA5_51) ?_
    change (Code.region 16 OA5_16 false).wp _ _ _ _
    refine reg_in (l := [0, 1, 2, 3, 4, 5, 6, 7, 8, 9, 10, 11, 12, 13, 14, 15, 16, 17, 18, 19, 20, 21, 22, 23, 24, 25, 26, 27, 28, 29, 30, 31, 32, 33, 34]) rfl ?_
    have F : FE_ _ [] a493 a493 := ⟨R, Ag_.refl _⟩; clear R
    refine sv_ gA5_16_0 (ym_ rfl (F.of h1)) fun a494 e => ?_
    have h89 := pt_ F e; replace F := pu_ F e; clear e
    obtain ⟨b495, hb495⟩ : ∃ x, (((b : Int) != (0 : Int))) = x := ⟨_, rfl⟩
    have Y : (execOp a494.eval oA5_16_1).run Try.prog w487 = .ok (.value (.bool b495)) w487 := by rw [← hb495]; unfold oA5_16_1; go_simp
    refine sv_ gA5_16_1 Y fun a496 e => ?_; clear Y
    clear h89; have h90 := pt_ F e; replace F := pu_ F e; clear e
    refine sv_ gA5_16_2 (ym_ rfl h90) fun a497 e => ?_
    clear h90; have h91 := pt_ F e; replace F := pu_ F e; clear e
    cases b495 with
    | false =>
      have fb495 := hb495; clear hb495
      simp only [decide_eq_true_eq, decide_eq_false_iff_not, bne_iff_ne, bne_eq_false_iff_eq, beq_iff_eq, beq_eq_false_iff_ne, ne_eq, Bool.not_eq_true', Bool.not_eq_false', Bool.not_eq_eq_eq_not, Bool.not_true, Bool.not_false] at fb495
      refine st_not gA5_16_3 rfl (wanted_is (j := 2) (d := 91) rfl rfl h91 rfl) fun a498 e => ?_
      have h92 := pt_ F e; replace F := pu_ F e; replace h91 := so_ e h91; clear e
      refine st_not gA5_16_4 rfl (wanted_is (j := 2) (d := 91) rfl rfl h91 rfl) fun a499 e => ?_
      clear h92; have h93 := pt_ F e; replace F := pu_ F e; replace h91 := so_ e h91; clear e
      refine st_not gA5_16_5 rfl (wanted_is (j := 2) (d := 91) rfl rfl h91 rfl) fun a500 e => ?_
      clear h93; have h94 := pt_ F e; replace F := pu_ F e; replace h91 := so_ e h91; clear e
      refine st_not gA5_16_6 rfl (wanted_un (j := 5) (d := 94) rfl rfl h94) fun a501 e => ?_
      have h95 := pt_ F e; replace F := pu_ F e; replace h91 := so_ e h91; replace h94 := so_ e h94; clear e
      refine st_not gA5_16_7 rfl (wanted_un (j := 5) (d := 94) rfl rfl h94) fun a502 e => ?_
      clear h95; have h96 := pt_ F e; replace F := pu_ F e; replace h91 := so_ e h91; replace h94 := so_ e h94; clear e
      refine st_not gA5_16_8 rfl (wanted_is (j := 2) (d := 91) rfl rfl h91 rfl) fun a503 e => ?_
      clear h94 h96; have h97 := pt_ F e; replace F := pu_ F e; replace h91 := so_ e h91; clear e
      refine st_not gA5_16_9 rfl (wanted_is (j := 2) (d := 91) rfl rfl h91 rfl) fun a504 e => ?_
      clear h97; have h98 := pt_ F e; replace F := pu_ F e; replace h91 := so_ e h91; clear e
      refine st_not gA5_16_10 rfl (wanted_un (j := 9) (d := 98) rfl rfl h98) fun a505 e => ?_
      have h99 := pt_ F e; replace F := pu_ F e; replace h91 := so_ e h91; replace h98 := so_ e h98; clear e
      refine st_not gA5_16_11 rfl (wanted_un (j := 9) (d := 98) rfl rfl h98) fun a506 e => ?_
      clear h99; have h100 := pt_ F e; replace F := pu_ F e; replace h91 := so_ e h91; replace h98 := so_ e h98; clear e
      refine st_not gA5_16_12 rfl (wanted_un (j := 9) (d := 98) rfl rfl h98) fun a507 e => ?_
      clear h100; have h101 := pt_ F e; replace F := pu_ F e; replace h91 := so_ e h91; replace h98 := so_ e h98; clear e
      refine st_not gA5_16_13 rfl (wanted_un (j := 12) (d := 101) rfl rfl h101) fun a508 e => ?_
      have h102 := pt_ F e; replace F := pu_ F e; replace h91 := so_ e h91; replace h98 := so_ e h98; replace h101 := so_ e h101; clear e
      refine st_not gA5_16_14 rfl (wanted_un (j := 12) (d := 101) rfl rfl h101) fun a509 e => ?_
      clear h102; have h103 := pt_ F e; replace F := pu_ F e; replace h91 := so_ e h91; replace h98 := so_ e h98; replace h101 := so_ e h101; clear e
      refine st_not gA5_16_15 rfl (wanted_un (j := 12) (d := 101) rfl rfl h101) fun a510 e => ?_
      clear h103; have h104 := pt_ F e; replace F := pu_ F e; replace h91 := so_ e h91; replace h98 := so_ e h98; replace h101 := so_ e h101; clear e
      refine st_not gA5_16_16 rfl (wanted_un (j := 15) (d := 104) rfl rfl h104) fun a511 e => ?_
      have h105 := pt_ F e; replace F := pu_ F e; replace h91 := so_ e h91; replace h98 := so_ e h98; replace h101 := so_ e h101; replace h104 := so_ e h104; clear e
      refine st_not gA5_16_17 rfl (wanted_un (j := 15) (d := 104) rfl rfl h104) fun a512 e => ?_
      clear h105; have h106 := pt_ F e; replace F := pu_ F e; replace h91 := so_ e h91; replace h98 := so_ e h98; replace h101 := so_ e h101; replace h104 := so_ e h104; clear e
      refine st_not gA5_16_18 rfl (wanted_un (j := 12) (d := 101) rfl rfl h101) fun a513 e => ?_
      clear h104 h106; have h107 := pt_ F e; replace F := pu_ F e; replace h91 := so_ e h91; replace h98 := so_ e h98; replace h101 := so_ e h101; clear e
      refine st_not gA5_16_19 rfl (wanted_un (j := 9) (d := 98) rfl rfl h98) fun a514 e => ?_
      clear h101 h107; have h108 := pt_ F e; replace F := pu_ F e; replace h91 := so_ e h91; replace h98 := so_ e h98; clear e
      refine st_not gA5_16_20 rfl (wanted_is (j := 2) (d := 91) rfl rfl h91 rfl) fun a515 e => ?_
      clear h98 h108; have h109 := pt_ F e; replace F := pu_ F e; replace h91 := so_ e h91; clear e
      have Y : (execOp a515.eval oA5_16_21).run Try.prog w487 = .ok (.value (.bool false)) w487 := by unfold oA5_16_21; go_simp
      refine sv_ gA5_16_21 Y fun a516 e => ?_; clear Y
      clear h91 h109; have h110 := pt_ F e; replace F := pu_ F e; clear e
      refine sv_ gA5_16_22 (ym_ rfl h110) fun a517 e => ?_
      clear h110; have h111 := pt_ F e; replace F := pu_ F e; clear e
      refine st_val gA5_16_23 rfl (wanted_is (j := 22) (d := 111) rfl rfl h111 rfl) (ym_ rfl (F.of h1)) fun a518 e => ?_
      have h112 := pt_ F e; replace F := pu_ F e; replace h111 := so_ e h111; clear e
      obtain ⟨b519, hb519⟩ : ∃ x, (((b : Int) == (0 : Int))) = x := ⟨_, rfl⟩
      have Y : (execOp a518.eval oA5_16_24).run Try.prog w487 = .ok (.value (.bool b519)) w487 := by rw [← hb519]; unfold oA5_16_24; go_simp
      refine st_val gA5_16_24 rfl (wanted_is (j := 22) (d := 111) rfl rfl h111 rfl) Y fun a520 e => ?_; clear Y
      clear h112; have h113 := pt_ F e; replace F := pu_ F e; replace h111 := so_ e h111; clear e
      refine st_val gA5_16_25 rfl (wanted_is (j := 22) (d := 111) rfl rfl h111 rfl) (ym_ rfl h113) fun a521 e => ?_
      clear h113; have h114 := pt_ F e; replace F := pu_ F e; replace h111 := so_ e h111; clear e
      cases b519 with
      | false =>
        have fb519 := hb519; clear hb519
        simp only [decide_eq_true_eq, decide_eq_false_iff_not, bne_iff_ne, bne_eq_false_iff_eq, beq_iff_eq, beq_eq_false_iff_ne, ne_eq, Bool.not_eq_true', Bool.not_eq_false', Bool.not_eq_eq_eq_not, Bool.not_true, Bool.not_false] at fb519
        refine st_not gA5_16_26 rfl (wanted_is (j := 25) (d := 114) rfl rfl h114 rfl) fun a522 e => ?_
        have h115 := pt_ F e; replace F := pu_ F e; replace h111 := so_ e h111; replace h114 := so_ e h114; clear e
        refine st_not gA5_16_27 rfl (wanted_is (j := 25) (d := 114) rfl rfl h114 rfl) fun a523 e => ?_
        clear h115; have h116 := pt_ F e; replace F := pu_ F e; replace h111 := so_ e h111; replace h114 := so_ e h114; clear e
        refine st_not gA5_16_28 rfl (wanted_un (j := 27) (d := 116) rfl rfl h116) fun a524 e => ?_
        have h117 := pt_ F e; replace F := pu_ F e; replace h111 := so_ e h111; replace h114 := so_ e h114; replace h116 := so_ e h116; clear e
        refine st_not gA5_16_29 rfl (wanted_is (j := 25) (d := 114) rfl rfl h114 rfl) fun a525 e => ?_
        clear h116 h117; have h118 := pt_ F e; replace F := pu_ F e; replace h111 := so_ e h111; replace h114 := so_ e h114; clear e
        refine st_not gA5_16_30 rfl (wanted_is (j := 25) (d := 114) rfl rfl h114 rfl) fun a526 e => ?_
        clear h118; have h119 := pt_ F e; replace F := pu_ F e; replace h111 := so_ e h111; replace h114 := so_ e h114; clear e
        refine st_not gA5_16_31 rfl (wanted_un (j := 30) (d := 119) rfl rfl h119) fun a527 e => ?_
        have h120 := pt_ F e; replace F := pu_ F e; replace h111 := so_ e h111; replace h114 := so_ e h114; replace h119 := so_ e h119; clear e
        refine st_not gA5_16_32 rfl (wanted_is (j := 25) (d := 114) rfl rfl h114 rfl) fun a528 e => ?_
        clear h119 h120; have h121 := pt_ F e; replace F := pu_ F e; replace h111 := so_ e h111; replace h114 := so_ e h114; clear e
        have Y : (execOp a528.eval oA5_16_33).run Try.prog w487 = .ok (.value (.bool false)) w487 := by unfold oA5_16_33; go_simp
        refine st_val gA5_16_33 rfl (wanted_is (j := 22) (d := 111) rfl rfl h111 rfl) Y fun a529 e => ?_; clear Y
        clear h114 h121; have h122 := pt_ F e; replace F := pu_ F e; replace h111 := so_ e h111; clear e
        have Y : (execOp a529.eval oA5_16_34).run Try.prog w487 = .ok (.value (.bool false)) w487 := by unfold oA5_16_34; go_simp
        refine sv_ gA5_16_34 Y fun a530 e => ?_; clear Y
        clear h111 h122; have h123 := pt_ F e; replace F := pu_ F e; clear e
        refine st_end ?_
        replace h0 := F.of h0; replace h1 := F.of h1; replace h6 := F.of h6; replace h12 := F.of h12; replace h13 := F.of h13; clear h14; replace h15 := F.of h15; clear h16; have R := F.r; clear F
        change (cA5_51).wp _ _ _ _
        refine wp_cond_false (x := cA5_52) (y := Code.skip) (eval_slot h123) ?_
        refine wp_skip ?_
        exact ⟨R, h0, h1, h6, h12, h13, h15, K1⟩
      | true =>
        have fb519 := hb519; clear hb519
        simp only [decide_eq_true_eq, decide_eq_false_iff_not, bne_iff_ne, bne_eq_false_iff_eq, beq_iff_eq, beq_eq_false_iff_ne, ne_eq, Bool.not_eq_true', Bool.not_eq_false', Bool.not_eq_eq_eq_not, Bool.not_true, Bool.not_false] at fb519
        refine st_val gA5_16_26 rfl (wanted_is (j := 25) (d := 114) rfl rfl h114 rfl) (ym_ rfl (F.of h6)) fun a531 e => ?_
        have h115 := pt_ F e; replace F := pu_ F e; replace h111 := so_ e h111; replace h114 := so_ e h114; clear e
        refine st_val gA5_16_27 rfl (wanted_is (j := 25) (d := 114) rfl rfl h114 rfl) (ym_ rfl h115) fun a532 e => ?_
        clear h115; have h116 := pt_ F e; replace F := pu_ F e; replace h111 := so_ e h111; replace h114 := so_ e h114; clear e
        refine st_val gA5_16_28 rfl (wanted_is (j := 27) (d := 116) rfl rfl h116 rfl) (ym_ rfl (F.of h14)) fun a533 e => ?_
        have h117 := pt_ F e; replace F := pu_ F e; replace h111 := so_ e h111; replace h114 := so_ e h114; replace h116 := so_ e h116; clear e
        have Y : (execOp a533.eval oA5_16_29).run Try.prog w487 = .ok (.value (.bool true)) w487 := by unfold oA5_16_29; go_simp
        refine st_val gA5_16_29 rfl (wanted_is (j := 25) (d := 114) rfl rfl h114 rfl) Y fun a534 e => ?_; clear Y
        clear h116 h117; have h118 := pt_ F e; replace F := pu_ F e; replace h111 := so_ e h111; replace h114 := so_ e h114; clear e
        refine st_val gA5_16_30 rfl (wanted_is (j := 25) (d := 114) rfl rfl h114 rfl) (ym_ rfl h118) fun a535 e => ?_
        clear h118; have h119 := pt_ F e; replace F := pu_ F e; replace h111 := so_ e h111; replace h114 := so_ e h114; clear e
        refine st_not gA5_16_31 rfl (wanted_is (j := 30) (d := 119) rfl rfl h119 rfl) fun a536 e => ?_
        have h120 := pt_ F e; replace F := pu_ F e; replace h111 := so_ e h111; replace h114 := so_ e h114; replace h119 := so_ e h119; clear e
        have Y : (execOp a536.eval oA5_16_32).run Try.prog w487 = .ok (.value (.bool true)) w487 := by unfold oA5_16_32; go_simp
        refine st_val gA5_16_32 rfl (wanted_is (j := 25) (d := 114) rfl rfl h114 rfl) Y fun a537 e => ?_; clear Y
        clear h119 h120; have h121 := pt_ F e; replace F := pu_ F e; replace h111 := so_ e h111; replace h114 := so_ e h114; clear e
        have Y : (execOp a537.eval oA5_16_33).run Try.prog w487 = .ok (.value (.bool true)) w487 := by unfold oA5_16_33; go_simp
        refine st_val gA5_16_33 rfl (wanted_is (j := 22) (d := 111) rfl rfl h111 rfl) Y fun a538 e => ?_; clear Y
        clear h114 h121; have h122 := pt_ F e; replace F := pu_ F e; replace h111 := so_ e h111; clear e
        have Y : (execOp a538.eval oA5_16_34).run Try.prog w487 = .ok (.value (.bool true)) w487 := by unfold oA5_16_34; go_simp
        refine sv_ gA5_16_34 Y fun a539 e => ?_; clear Y
        clear h111 h122; have h123 := pt_ F e; replace F := pu_ F e; clear e
        refine st_end ?_
        replace h0 := F.of h0; replace h1 := F.of h1; replace h6 := F.of h6; replace h12 := F.of h12; replace h13 := F.of h13; clear h14; replace h15 := F.of h15; clear h16; have R := F.r; clear F
        change (cA5_51).wp _ _ _ _
        refine wp_cond_true (x := cA5_52) (y := Code.skip) (eval_slot h123) ?_
        refine wp_seq (x := cA5_53) (y := Code.ret) ?_
        change (Code.region 17 OA5_17 false).wp _ _ _ _
        refine reg_in (l := [0]) rfl ?_
        have F : FE_ _ [] a539 a539 := ⟨R, Ag_.refl _⟩; clear R
        have Y : (execOp a539.eval oA5_17_0).run Try.prog w487 = .ok (.value (.bool false)) w487 := by unfold oA5_17_0; go_simp
        refine sv_ gA5_17_0 Y fun a540 e => ?_; clear Y
        have h4 := pt_ F e; replace F := pu_ F e; clear e
        refine st_end ?_
        replace h0 := F.of h0; replace h1 := F.of h1; replace h6 := F.of h6; replace h12 := F.of h12; replace h13 := F.of h13; replace h15 := F.of h15; clear h123; have R := F.r; clear F
        change (Code.ret).wp _ _ _ _
        refine wp_ret ?_
        change bodyPost Try.prog Try.f5 (fun e w' => e = .returned (.bool true) ∧ Keep (fun g => g < W.heap.size) W w') .ret a540 w487
        refine ret_one rfl R h4 ?_
        exfalso; first | (have h8 := HC.out; omega) | (have a1 := HHL.out; have a2 := HHG.out; have a3 := HHQ.out; have a4 := HHH.out; simp at a1 a2 a3 a4; omega)
    | true =>
      have fb495 := hb495; clear hb495
      simp only [decide_eq_true_eq, decide_eq_false_iff_not, bne_iff_ne, bne_eq_false_iff_eq, beq_iff_eq, beq_eq_false_iff_ne, ne_eq, Bool.not_eq_true', Bool.not_eq_false', Bool.not_eq_eq_eq_not, Bool.not_true, Bool.not_false] at fb495
      refine st_val gA5_16_3 rfl (wanted_is (j := 2) (d := 91) rfl rfl h91 rfl) (ym_ rfl (F.of h14)) fun a541 e => ?_
      have h92 := pt_ F e; replace F := pu_ F e; replace h91 := so_ e h91; clear e
      have Y : (execOp a541.eval oA5_16_4).run Try.prog w487 = .ok (.value (.bool false)) w487 := by unfold oA5_16_4; go_simp
      refine st_val gA5_16_4 rfl (wanted_is (j := 2) (d := 91) rfl rfl h91 rfl) Y fun a542 e => ?_; clear Y
      clear h92; have h93 := pt_ F e; replace F := pu_ F e; replace h91 := so_ e h91; clear e
      refine st_val gA5_16_5 rfl (wanted_is (j := 2) (d := 91) rfl rfl h91 rfl) (ym_ rfl h93) fun a543 e => ?_
      clear h93; have h94 := pt_ F e; replace F := pu_ F e; replace h91 := so_ e h91; clear e
      refine st_val gA5_16_6 rfl (wanted_is (j := 5) (d := 94) rfl rfl h94 rfl) (ym_ rfl (F.of h16)) fun a544 e => ?_
      have h95 := pt_ F e; replace F := pu_ F e; replace h91 := so_ e h91; replace h94 := so_ e h94; clear e
      have Y : (execOp a544.eval oA5_16_7).run Try.prog w487 = .ok (.value (.bool false)) w487 := by unfold oA5_16_7; go_simp
      refine st_val gA5_16_7 rfl (wanted_is (j := 5) (d := 94) rfl rfl h94 rfl) Y fun a545 e => ?_; clear Y
      clear h95; have h96 := pt_ F e; replace F := pu_ F e; replace h91 := so_ e h91; replace h94 := so_ e h94; clear e
      have Y : (execOp a545.eval oA5_16_8).run Try.prog w487 = .ok (.value (.bool false)) w487 := by unfold oA5_16_8; go_simp
      refine st_val gA5_16_8 rfl (wanted_is (j := 2) (d := 91) rfl rfl h91 rfl) Y fun a546 e => ?_; clear Y
      clear h94 h96; have h97 := pt_ F e; replace F := pu_ F e; replace h91 := so_ e h91; clear e
      refine st_val gA5_16_9 rfl (wanted_is (j := 2) (d := 91) rfl rfl h91 rfl) (ym_ rfl h97) fun a547 e => ?_
      clear h97; have h98 := pt_ F e; replace F := pu_ F e; replace h91 := so_ e h91; clear e
      refine st_val gA5_16_10 rfl (wanted_is (j := 9) (d := 98) rfl rfl h98 rfl) (ym_ rfl (F.of h6)) fun a548 e => ?_
      have h99 := pt_ F e; replace F := pu_ F e; replace h91 := so_ e h91; replace h98 := so_ e h98; clear e
      have Y : (execOp a548.eval oA5_16_11).run Try.prog w487 = .ok (.value (.bool true)) w487 := by unfold oA5_16_11; go_simp
      refine st_val gA5_16_11 rfl (wanted_is (j := 9) (d := 98) rfl rfl h98 rfl) Y fun a549 e => ?_; clear Y
      clear h99; have h100 := pt_ F e; replace F := pu_ F e; replace h91 := so_ e h91; replace h98 := so_ e h98; clear e
      refine st_val gA5_16_12 rfl (wanted_is (j := 9) (d := 98) rfl rfl h98 rfl) (ym_ rfl h100) fun a550 e => ?_
      clear h100; have h101 := pt_ F e; replace F := pu_ F e; replace h91 := so_ e h91; replace h98 := so_ e h98; clear e
      refine st_val gA5_16_13 rfl (wanted_is (j := 12) (d := 101) rfl rfl h101 rfl) (ym_ rfl (F.of h1)) fun a551 e => ?_
      have h102 := pt_ F e; replace F := pu_ F e; replace h91 := so_ e h91; replace h98 := so_ e h98; replace h101 := so_ e h101; clear e
      obtain ⟨b552, hb552⟩ : ∃ x, (((b : Int) != (-1 : Int))) = x := ⟨_, rfl⟩
      have Y : (execOp a551.eval oA5_16_14).run Try.prog w487 = .ok (.value (.bool b552)) w487 := by rw [← hb552]; unfold oA5_16_14; go_simp
      refine st_val gA5_16_14 rfl (wanted_is (j := 12) (d := 101) rfl rfl h101 rfl) Y fun a553 e => ?_; clear Y
      clear h102; have h103 := pt_ F e; replace F := pu_ F e; replace h91 := so_ e h91; replace h98 := so_ e h98; replace h101 := so_ e h101; clear e
      refine st_val gA5_16_15 rfl (wanted_is (j := 12) (d := 101) rfl rfl h101 rfl) (ym_ rfl h103) fun a554 e => ?_
      clear h103; have h104 := pt_ F e; replace F := pu_ F e; replace h91 := so_ e h91; replace h98 := so_ e h98; replace h101 := so_ e h101; clear e
      cases b552 with
      | false =>
        have fb552 := hb552; clear hb552
        simp only [decide_eq_true_eq, decide_eq_false_iff_not, bne_iff_ne, bne_eq_false_iff_eq, beq_iff_eq, beq_eq_false_iff_ne, ne_eq, Bool.not_eq_true', Bool.not_eq_false', Bool.not_eq_eq_eq_not, Bool.not_true, Bool.not_false] at fb552
        refine st_val gA5_16_16 rfl (wanted_is (j := 15) (d := 104) rfl rfl h104 rfl) (ym_ rfl (F.of h0)) fun a555 e => ?_
        have h105 := pt_ F e; replace F := pu_ F e; replace h91 := so_ e h91; replace h98 := so_ e h98; replace h101 := so_ e h101; replace h104 := so_ e h104; clear e
        obtain ⟨b556, hb556⟩ : ∃ x, (((a : Int) != (-9223372036854775808 : Int))) = x := ⟨_, rfl⟩
        have Y : (execOp a555.eval oA5_16_17).run Try.prog w487 = .ok (.value (.bool b556)) w487 := by rw [← hb556]; unfold oA5_16_17; go_simp
        refine st_val gA5_16_17 rfl (wanted_is (j := 15) (d := 104) rfl rfl h104 rfl) Y fun a557 e => ?_; clear Y
        clear h105; have h106 := pt_ F e; replace F := pu_ F e; replace h91 := so_ e h91; replace h98 := so_ e h98; replace h101 := so_ e h101; replace h104 := so_ e h104; clear e
        have Y : (execOp a557.eval oA5_16_18).run Try.prog w487 = .ok (.value (.bool b556)) w487 := by unfold oA5_16_18; go_simp
        refine st_val gA5_16_18 rfl (wanted_is (j := 12) (d := 101) rfl rfl h101 rfl) Y fun a558 e => ?_; clear Y
        clear h104 h106; have h107 := pt_ F e; replace F := pu_ F e; replace h91 := so_ e h91; replace h98 := so_ e h98; replace h101 := so_ e h101; clear e
        have Y : (execOp a558.eval oA5_16_19).run Try.prog w487 = .ok (.value (.bool b556)) w487 := by unfold oA5_16_19; go_simp
        refine st_val gA5_16_19 rfl (wanted_is (j := 9) (d := 98) rfl rfl h98 rfl) Y fun a559 e => ?_; clear Y
        clear h101 h107; have h108 := pt_ F e; replace F := pu_ F e; replace h91 := so_ e h91; replace h98 := so_ e h98; clear e
        have Y : (execOp a559.eval oA5_16_20).run Try.prog w487 = .ok (.value (.bool b556)) w487 := by unfold oA5_16_20; go_simp
        refine st_val gA5_16_20 rfl (wanted_is (j := 2) (d := 91) rfl rfl h91 rfl) Y fun a560 e => ?_; clear Y
        clear h98 h108; have h109 := pt_ F e; replace F := pu_ F e; replace h91 := so_ e h91; clear e
        have Y : (execOp a560.eval oA5_16_21).run Try.prog w487 = .ok (.value (.bool b556)) w487 := by unfold oA5_16_21; go_simp
        refine sv_ gA5_16_21 Y fun a561 e => ?_; clear Y
        clear h91 h109; have h110 := pt_ F e; replace F := pu_ F e; clear e
        refine sv_ gA5_16_22 (ym_ rfl h110) fun a562 e => ?_
        clear h110; have h111 := pt_ F e; replace F := pu_ F e; clear e
        cases b556 with
        | false =>
          have fb556 := hb556; clear hb556
          simp only [decide_eq_true_eq, decide_eq_false_iff_not, bne_iff_ne, bne_eq_false_iff_eq, beq_iff_eq, beq_eq_false_iff_ne, ne_eq, Bool.not_eq_true', Bool.not_eq_false', Bool.not_eq_eq_eq_not, Bool.not_true, Bool.not_false] at fb556
          refine st_val gA5_16_23 rfl (wanted_is (j := 22) (d := 111) rfl rfl h111 rfl) (ym_ rfl (F.of h1)) fun a563 e => ?_
          have h112 := pt_ F e; replace F := pu_ F e; replace h111 := so_ e h111; clear e
          obtain ⟨b564, hb564⟩ : ∃ x, (((b : Int) == (0 : Int))) = x := ⟨_, rfl⟩
          have Y : (execOp a563.eval oA5_16_24).run Try.prog w487 = .ok (.value (.bool b564)) w487 := by rw [← hb564]; unfold oA5_16_24; go_simp
          refine st_val gA5_16_24 rfl (wanted_is (j := 22) (d := 111) rfl rfl h111 rfl) Y fun a565 e => ?_; clear Y
          clear h112; have h113 := pt_ F e; replace F := pu_ F e; replace h111 := so_ e h111; clear e
          refine st_val gA5_16_25 rfl (wanted_is (j := 22) (d := 111) rfl rfl h111 rfl) (ym_ rfl h113) fun a566 e => ?_
          clear h113; have h114 := pt_ F e; replace F := pu_ F e; replace h111 := so_ e h111; clear e
          cases b564 with
          | false =>
            have fb564 := hb564; clear hb564
            simp only [decide_eq_true_eq, decide_eq_false_iff_not, bne_iff_ne, bne_eq_false_iff_eq, beq_iff_eq, beq_eq_false_iff_ne, ne_eq, Bool.not_eq_true', Bool.not_eq_false', Bool.not_eq_eq_eq_not, Bool.not_true, Bool.not_false] at fb564
            refine st_not gA5_16_26 rfl (wanted_is (j := 25) (d := 114) rfl rfl h114 rfl) fun a567 e => ?_
            have h115 := pt_ F e; replace F := pu_ F e; replace h111 := so_ e h111; replace h114 := so_ e h114; clear e
            refine st_not gA5_16_27 rfl (wanted_is (j := 25) (d := 114) rfl rfl h114 rfl) fun a568 e => ?_
            clear h115; have h116 := pt_ F e; replace F := pu_ F e; replace h111 := so_ e h111; replace h114 := so_ e h114; clear e
            refine st_not gA5_16_28 rfl (wanted_un (j := 27) (d := 116) rfl rfl h116) fun a569 e => ?_
            have h117 := pt_ F e; replace F := pu_ F e; replace h111 := so_ e h111; replace h114 := so_ e h114; replace h116 := so_ e h116; clear e
            refine st_not gA5_16_29 rfl (wanted_is (j := 25) (d := 114) rfl rfl h114 rfl) fun a570 e => ?_
            clear h116 h117; have h118 := pt_ F e; replace F := pu_ F e; replace h111 := so_ e h111; replace h114 := so_ e h114; clear e
            refine st_not gA5_16_30 rfl (wanted_is (j := 25) (d := 114) rfl rfl h114 rfl) fun a571 e => ?_
            clear h118; have h119 := pt_ F e; replace F := pu_ F e; replace h111 := so_ e h111; replace h114 := so_ e h114; clear e
            refine st_not gA5_16_31 rfl (wanted_un (j := 30) (d := 119) rfl rfl h119) fun a572 e => ?_
            have h120 := pt_ F e; replace F := pu_ F e; replace h111 := so_ e h111; replace h114 := so_ e h114; replace h119 := so_ e h119; clear e
            refine st_not gA5_16_32 rfl (wanted_is (j := 25) (d := 114) rfl rfl h114 rfl) fun a573 e => ?_
            clear h119 h120; have h121 := pt_ F e; replace F := pu_ F e; replace h111 := so_ e h111; replace h114 := so_ e h114; clear e
            have Y : (execOp a573.eval oA5_16_33).run Try.prog w487 = .ok (.value (.bool false)) w487 := by unfold oA5_16_33; go_simp
            refine st_val gA5_16_33 rfl (wanted_is (j := 22) (d := 111) rfl rfl h111 rfl) Y fun a574 e => ?_; clear Y
            clear h114 h121; have h122 := pt_ F e; replace F := pu_ F e; replace h111 := so_ e h111; clear e
            have Y : (execOp a574.eval oA5_16_34).run Try.prog w487 = .ok (.value (.bool false)) w487 := by unfold oA5_16_34; go_simp
            refine sv_ gA5_16_34 Y fun a575 e => ?_; clear Y
            clear h111 h122; have h123 := pt_ F e; replace F := pu_ F e; clear e
            refine st_end ?_
            replace h0 := F.of h0; replace h1 := F.of h1; replace h6 := F.of h6; replace h12 := F.of h12; replace h13 := F.of h13; clear h14; replace h15 := F.of h15; clear h16; have R := F.r; clear F
            change (cA5_51).wp _ _ _ _
            refine wp_cond_false (x := cA5_52) (y := Code.skip) (eval_slot h123) ?_
            refine wp_skip ?_
            exact ⟨R, h0, h1, h6, h12, h13, h15, K1⟩
          | true =>
            have fb564 := hb564; clear hb564
            simp only [decide_eq_true_eq, decide_eq_false_iff_not, bne_iff_ne, bne_eq_false_iff_eq, beq_iff_eq, beq_eq_false_iff_ne, ne_eq, Bool.not_eq_true', Bool.not_eq_false', Bool.not_eq_eq_eq_not, Bool.not_true, Bool.not_false] at fb564
            refine st_val gA5_16_26 rfl (wanted_is (j := 25) (d := 114) rfl rfl h114 rfl) (ym_ rfl (F.of h6)) fun a576 e => ?_
            have h115 := pt_ F e; replace F := pu_ F e; replace h111 := so_ e h111; replace h114 := so_ e h114; clear e
            refine st_val gA5_16_27 rfl (wanted_is (j := 25) (d := 114) rfl rfl h114 rfl) (ym_ rfl h115) fun a577 e => ?_
            clear h115; have h116 := pt_ F e; replace F := pu_ F e; replace h111 := so_ e h111; replace h114 := so_ e h114; clear e
            refine st_val gA5_16_28 rfl (wanted_is (j := 27) (d := 116) rfl rfl h116 rfl) (ym_ rfl (F.of h14)) fun a578 e => ?_
            have h117 := pt_ F e; replace F := pu_ F e; replace h111 := so_ e h111; replace h114 := so_ e h114; replace h116 := so_ e h116; clear e
            have Y : (execOp a578.eval oA5_16_29).run Try.prog w487 = .ok (.value (.bool true)) w487 := by unfold oA5_16_29; go_simp
            refine st_val gA5_16_29 rfl (wanted_is (j := 25) (d := 114) rfl rfl h114 rfl) Y fun a579 e => ?_; clear Y
            clear h116 h117; have h118 := pt_ F e; replace F := pu_ F e; replace h111 := so_ e h111; replace h114 := so_ e h114; clear e
            refine st_val gA5_16_30 rfl (wanted_is (j := 25) (d := 114) rfl rfl h114 rfl) (ym_ rfl h118) fun a580 e => ?_
            clear h118; have h119 := pt_ F e; replace F := pu_ F e; replace h111 := so_ e h111; replace h114 := so_ e h114; clear e
            refine st_not gA5_16_31 rfl (wanted_is (j := 30) (d := 119) rfl rfl h119 rfl) fun a581 e => ?_
            have h120 := pt_ F e; replace F := pu_ F e; replace h111 := so_ e h111; replace h114 := so_ e h114; replace h119 := so_ e h119; clear e
            have Y : (execOp a581.eval oA5_16_32).run Try.prog w487 = .ok (.value (.bool true)) w487 := by unfold oA5_16_32; go_simp
            refine st_val gA5_16_32 rfl (wanted_is (j := 25) (d := 114) rfl rfl h114 rfl) Y fun a582 e => ?_; clear Y
            clear h119 h120; have h121 := pt_ F e; replace F := pu_ F e; replace h111 := so_ e h111; replace h114 := so_ e h114; clear e
            have Y : (execOp a582.eval oA5_16_33).run Try.prog w487 = .ok (.value (.bool true)) w487 := by unfold oA5_16_33; go_simp
            refine st_val gA5_16_33 rfl (wanted_is (j := 22) (d := 111) rfl rfl h111 rfl) Y fun a583 e => ?_; clear Y
            clear h114 h121; have h122 := pt_ F e; replace F := pu_ F e; replace h111 := so_ e h111; clear e
            have Y : (execOp a583.eval oA5_16_34).run Try.prog w487 = .ok (.value (.bool true)) w487 := by unfold oA5_16_34; go_simp
            refine sv_ gA5_16_34 Y fun a584 e => ?_; clear Y
            clear h111 h122; have h123 := pt_ F e; replace F := pu_ F e; clear e
            refine st_end ?_
            replace h0 := F.of h0; replace h1 := F.of h1; replace h6 := F.of h6; replace h12 := F.of h12; replace h13 := F.of h13; clear h14; replace h15 := F.of h15; clear h16; have R := F.r; clear F
            change (cA5_51).wp _ _ _ _
            refine wp_cond_true (x := cA5_52) (y := Code.skip) (eval_slot h123) ?_
            refine wp_seq (x := cA5_53) (y := Code.ret) ?_
            change (Code.region 17 OA5_17 false).wp _ _ _ _
            refine reg_in (l := [0]) rfl ?_
            have F : FE_ _ [] a584 a584 := ⟨R, Ag_.refl _⟩; clear R
            have Y : (execOp a584.eval oA5_17_0).run Try.prog w487 = .ok (.value (.bool false)) w487 := by unfold oA5_17_0; go_simp
            refine sv_ gA5_17_0 Y fun a585 e => ?_; clear Y
            have h4 := pt_ F e; replace F := pu_ F e; clear e
            refine st_end ?_
            replace h0 := F.of h0; replace h1 := F.of h1; replace h6 := F.of h6; replace h12 := F.of h12; replace h13 := F.of h13; replace h15 := F.of h15; clear h123; have R := F.r; clear F
            change (Code.ret).wp _ _ _ _
            refine wp_ret ?_
            change bodyPost Try.prog Try.f5 (fun e w' => e = .returned (.bool true) ∧ Keep (fun g => g < W.heap.size) W w') .ret a585 w487
            refine ret_one rfl R h4 ?_
            exfalso; first | (have h8 := HC.out; omega) | (have a1 := HHL.out; have a2 := HHG.out; have a3 := HHQ.out; have a4 := HHH.out; simp at a1 a2 a3 a4; omega)
        | true =>
          have fb556 := hb556; clear hb556
          simp only [decide_eq_true_eq, decide_eq_false_iff_not, bne_iff_ne, bne_eq_false_iff_eq, beq_iff_eq, beq_eq_false_iff_ne, ne_eq, Bool.not_eq_true', Bool.not_eq_false', Bool.not_eq_eq_eq_not, Bool.not_true, Bool.not_false] at fb556
          refine st_not gA5_16_23 rfl (wanted_is (j := 22) (d := 111) rfl rfl h111 rfl) fun a586 e => ?_
          have h112 := pt_ F e; replace F := pu_ F e; replace h111 := so_ e h111; clear e
          refine st_not gA5_16_24 rfl (wanted_is (j := 22) (d := 111) rfl rfl h111 rfl) fun a587 e => ?_
          clear h112; have h113 := pt_ F e; replace F := pu_ F e; replace h111 := so_ e h111; clear e
          refine st_not gA5_16_25 rfl (wanted_is (j := 22) (d := 111) rfl rfl h111 rfl) fun a588 e => ?_
          clear h113; have h114 := pt_ F e; replace F := pu_ F e; replace h111 := so_ e h111; clear e
          refine st_not gA5_16_26 rfl (wanted_un (j := 25) (d := 114) rfl rfl h114) fun a589 e => ?_
          have h115 := pt_ F e; replace F := pu_ F e; replace h111 := so_ e h111; replace h114 := so_ e h114; clear e
          refine st_not gA5_16_27 rfl (wanted_un (j := 25) (d := 114) rfl rfl h114) fun a590 e => ?_
          clear h115; have h116 := pt_ F e; replace F := pu_ F e; replace h111 := so_ e h111; replace h114 := so_ e h114; clear e
          refine st_not gA5_16_28 rfl (wanted_un (j := 27) (d := 116) rfl rfl h116) fun a591 e => ?_
          have h117 := pt_ F e; replace F := pu_ F e; replace h111 := so_ e h111; replace h114 := so_ e h114; replace h116 := so_ e h116; clear e
          refine st_not gA5_16_29 rfl (wanted_un (j := 25) (d := 114) rfl rfl h114) fun a592 e => ?_
          clear h116 h117; have h118 := pt_ F e; replace F := pu_ F e; replace h111 := so_ e h111; replace h114 := so_ e h114; clear e
          refine st_not gA5_16_30 rfl (wanted_un (j := 25) (d := 114) rfl rfl h114) fun a593 e => ?_
          clear h118; have h119 := pt_ F e; replace F := pu_ F e; replace h111 := so_ e h111; replace h114 := so_ e h114; clear e
          refine st_not gA5_16_31 rfl (wanted_un (j := 30) (d := 119) rfl rfl h119) fun a594 e => ?_
          have h120 := pt_ F e; replace F := pu_ F e; replace h111 := so_ e h111; replace h114 := so_ e h114; replace h119 := so_ e h119; clear e
          refine st_not gA5_16_32 rfl (wanted_un (j := 25) (d := 114) rfl rfl h114) fun a595 e => ?_
          clear h119 h120; have h121 := pt_ F e; replace F := pu_ F e; replace h111 := so_ e h111; replace h114 := so_ e h114; clear e
          refine st_not gA5_16_33 rfl (wanted_is (j := 22) (d := 111) rfl rfl h111 rfl) fun a596 e => ?_
          clear h114 h121; have h122 := pt_ F e; replace F := pu_ F e; replace h111 := so_ e h111; clear e
          have Y : (execOp a596.eval oA5_16_34).run Try.prog w487 = .ok (.value (.bool true)) w487 := by unfold oA5_16_34; go_simp
          refine sv_ gA5_16_34 Y fun a597 e => ?_; clear Y
          clear h111 h122; have h123 := pt_ F e; replace F := pu_ F e; clear e
          refine st_end ?_
          replace h0 := F.of h0; replace h1 := F.of h1; replace h6 := F.of h6; replace h12 := F.of h12; replace h13 := F.of h13; clear h14; replace h15 := F.of h15; clear h16; have R := F.r; clear F
          change (cA5_51).wp _ _ _ _
          refine wp_cond_true (x := cA5_52) (y := Code.skip) (eval_slot h123) ?_
          refine wp_seq (x := cA5_53) (y := Code.ret) ?_
          change (Code.region 17 OA5_17 false).wp _ _ _ _
          refine reg_in (l := [0]) rfl ?_
          have F : FE_ _ [] a597 a597 := ⟨R, Ag_.refl _⟩; clear R
          have Y : (execOp a597.eval oA5_17_0).run Try.prog w487 = .ok (.value (.bool false)) w487 := by unfold oA5_17_0; go_simp
          refine sv_ gA5_17_0 Y fun a598 e => ?_; clear Y
          have h4 := pt_ F e; replace F := pu_ F e; clear e
          refine st_end ?_
          replace h0 := F.of h0; replace h1 := F.of h1; replace h6 := F.of h6; replace h12 := F.of h12; replace h13 := F.of h13; replace h15 := F.of h15; clear h123; have R := F.r; clear F
          change (Code.ret).wp _ _ _ _
          refine wp_ret ?_
          change bodyPost Try.prog Try.f5 (fun e w' => e = .returned (.bool true) ∧ Keep (fun g => g < W.heap.size) W w') .ret a598 w487
          refine ret_one rfl R h4 ?_
          exfalso; first | (have h8 := HC.out; omega) | (have a1 := HHL.out; have a2 := HHG.out; have a3 := HHQ.out; have a4 := HHH.out; simp at a1 a2 a3 a4; omega)
      | true =>
        have fb552 := hb552; clear hb552
        simp only [decide_eq_true_eq, decide_eq_false_iff_not, bne_iff_ne, bne_eq_false_iff_eq, beq_iff_eq, beq_eq_false_iff_ne, ne_eq, Bool.not_eq_true', Bool.not_eq_false', Bool.not_eq_eq_eq_not, Bool.not_true, Bool.not_false] at fb552
        refine st_not gA5_16_16 rfl (wanted_is (j := 15) (d := 104) rfl rfl h104 rfl) fun a599 e => ?_
        have h105 := pt_ F e; replace F := pu_ F e; replace h91 := so_ e h91; replace h98 := so_ e h98; replace h101 := so_ e h101; replace h104 := so_ e h104; clear e
        refine st_not gA5_16_17 rfl (wanted_is (j := 15) (d := 104) rfl rfl h104 rfl) fun a600 e => ?_
        clear h105; have h106 := pt_ F e; replace F := pu_ F e; replace h91 := so_ e h91; replace h98 := so_ e h98; replace h101 := so_ e h101; replace h104 := so_ e h104; clear e
        have Y : (execOp a600.eval oA5_16_18).run Try.prog w487 = .ok (.value (.bool true)) w487 := by unfold oA5_16_18; go_simp
        refine st_val gA5_16_18 rfl (wanted_is (j := 12) (d := 101) rfl rfl h101 rfl) Y fun a601 e => ?_; clear Y
        clear h104 h106; have h107 := pt_ F e; replace F := pu_ F e; replace h91 := so_ e h91; replace h98 := so_ e h98; replace h101 := so_ e h101; clear e
        have Y : (execOp a601.eval oA5_16_19).run Try.prog w487 = .ok (.value (.bool true)) w487 := by unfold oA5_16_19; go_simp
        refine st_val gA5_16_19 rfl (wanted_is (j := 9) (d := 98) rfl rfl h98 rfl) Y fun a602 e => ?_; clear Y
        clear h101 h107; have h108 := pt_ F e; replace F := pu_ F e; replace h91 := so_ e h91; replace h98 := so_ e h98; clear e
        have Y : (execOp a602.eval oA5_16_20).run Try.prog w487 = .ok (.value (.bool true)) w487 := by unfold oA5_16_20; go_simp
        refine st_val gA5_16_20 rfl (wanted_is (j := 2) (d := 91) rfl rfl h91 rfl) Y fun a603 e => ?_; clear Y
        clear h98 h108; have h109 := pt_ F e; replace F := pu_ F e; replace h91 := so_ e h91; clear e
        have Y : (execOp a603.eval oA5_16_21).run Try.prog w487 = .ok (.value (.bool true)) w487 := by unfold oA5_16_21; go_simp
        refine sv_ gA5_16_21 Y fun a604 e => ?_; clear Y
        clear h91 h109; have h110 := pt_ F e; replace F := pu_ F e; clear e
        refine sv_ gA5_16_22 (ym_ rfl h110) fun a605 e => ?_
        clear h110; have h111 := pt_ F e; replace F := pu_ F e; clear e
        refine st_not gA5_16_23 rfl (wanted_is (j := 22) (d := 111) rfl rfl h111 rfl) fun a606 e => ?_
        have h112 := pt_ F e; replace F := pu_ F e; replace h111 := so_ e h111; clear e
        refine st_not gA5_16_24 rfl (wanted_is (j := 22) (d := 111) rfl rfl h111 rfl) fun a607 e => ?_
        clear h112; have h113 := pt_ F e; replace F := pu_ F e; replace h111 := so_ e h111; clear e
        refine st_not gA5_16_25 rfl (wanted_is (j := 22) (d := 111) rfl rfl h111 rfl) fun a608 e => ?_
        clear h113; have h114 := pt_ F e; replace F := pu_ F e; replace h111 := so_ e h111; clear e
        refine st_not gA5_16_26 rfl (wanted_un (j := 25) (d := 114) rfl rfl h114) fun a609 e => ?_
        have h115 := pt_ F e; replace F := pu_ F e; replace h111 := so_ e h111; replace h114 := so_ e h114; clear e
        refine st_not gA5_16_27 rfl (wanted_un (j := 25) (d := 114) rfl rfl h114) fun a610 e => ?_
        clear h115; have h116 := pt_ F e; replace F := pu_ F e; replace h111 := so_ e h111; replace h114 := so_ e h114; clear e
        refine st_not gA5_16_28 rfl (wanted_un (j := 27) (d := 116) rfl rfl h116) fun a611 e => ?_
        have h117 := pt_ F e; replace F := pu_ F e; replace h111 := so_ e h111; replace h114 := so_ e h114; replace h116 := so_ e h116; clear e
        refine st_not gA5_16_29 rfl (wanted_un (j := 25) (d := 114) rfl rfl h114) fun a612 e => ?_
        clear h116 h117; have h118 := pt_ F e; replace F := pu_ F e; replace h111 := so_ e h111; replace h114 := so_ e h114; clear e
        refine st_not gA5_16_30 rfl (wanted_un (j := 25) (d := 114) rfl rfl h114) fun a613 e => ?_
        clear h118; have h119 := pt_ F e; replace F := pu_ F e; replace h111 := so_ e h111; replace h114 := so_ e h114; clear e
        refine st_not gA5_16_31 rfl (wanted_un (j := 30) (d := 119) rfl rfl h119) fun a614 e => ?_
        have h120 := pt_ F e; replace F := pu_ F e; replace h111 := so_ e h111; replace h114 := so_ e h114; replace h119 := so_ e h119; clear e
        refine st_not gA5_16_32 rfl (wanted_un (j := 25) (d := 114) rfl rfl h114) fun a615 e => ?_
        clear h119 h120; have h121 := pt_ F e; replace F := pu_ F e; replace h111 := so_ e h111; replace h114 := so_ e h114; clear e
        refine st_not gA5_16_33 rfl (wanted_is (j := 22) (d := 111) rfl rfl h111 rfl) fun a616 e => ?_
        clear h114 h121; have h122 := pt_ F e; replace F := pu_ F e; replace h111 := so_ e h111; clear e
        have Y : (execOp a616.eval oA5_16_34).run Try.prog w487 = .ok (.value (.bool true)) w487 := by unfold oA5_16_34; go_simp
        refine sv_ gA5_16_34 Y fun a617 e => ?_; clear Y
        clear h111 h122; have h123 := pt_ F e; replace F := pu_ F e; clear e
        refine st_end ?_
        replace h0 := F.of h0; replace h1 := F.of h1; replace h6 := F.of h6; replace h12 := F.of h12; replace h13 := F.of h13; clear h14; replace h15 := F.of h15; clear h16; have R := F.r; clear F
        change (cA5_51).wp _ _ _ _
        refine wp_cond_true (x := cA5_52) (y := Code.skip) (eval_slot h123) ?_
        refine wp_seq (x := cA5_53) (y := Code.ret) ?_
        change (Code.region 17 OA5_17 false).wp _ _ _ _
        refine reg_in (l := [0]) rfl ?_
        have F : FE_ _ [] a617 a617 := ⟨R, Ag_.refl _⟩; clear R
        have Y : (execOp a617.eval oA5_17_0).run Try.prog w487 = .ok (.value (.bool false)) w487 := by unfold oA5_17_0; go_simp
        refine sv_ gA5_17_0 Y fun a618 e => ?_; clear Y
        have h4 := pt_ F e; replace F := pu_ F e; clear e
        refine st_end ?_
        replace h0 := F.of h0; replace h1 := F.of h1; replace h6 := F.of h6; replace h12 := F.of h12; replace h13 := F.of h13; replace h15 := F.of h15; clear h123; have R := F.r; clear F
        change (Code.ret).wp _ _ _ _
        refine wp_ret ?_
        change bodyPost Try.prog Try.f5 (fun e w' => e = .returned (.bool true) ∧ Keep (fun g => g < W.heap.size) W w') .ret a618 w487
        refine ret_one rfl R h4 ?_
        exfalso; first | (have h8 := HC.out; omega) | (have a1 := HHL.out; have a2 := HHG.out; have a3 := HHQ.out; have a4 := HHH.out; simp at a1 a2 a3 a4; omega)
  ·
    clear R h0 h1 h6 h12 h13 h15 K1 h14 h16
    rintro a619 w620 ⟨R, h0, h1, h6, h12, h13, h15, K1⟩
    refine wp_seq (x := cA5_57) (y := cA5_64) ?_
    refine wp_seq (x := cA5_58) (y := cA5_59) ?_
    change (Code.region 18 OA5_18 false).wp _ _ _ _
    refine reg_in (l := [0, 1, 2, 3, 4, 5, 6, 7, 8, 9, 10, 11, 12, 13, 14, 15, 16, 17, 18, 19, 20, 21, 22, 23, 24, 25, 26, 27, 28, 29, 30, 31, 32]) rfl ?_
    have F : FE_ _ [] a619 a619 := ⟨R, Ag_.refl _⟩; clear R
    refine sv_ gA5_18_0 (ym_ rfl (F.of h6)) fun a621 e => ?_
    have h124 := pt_ F e; replace F := pu_ F e; clear e
    refine sv_ gA5_18_1 (ym_ rfl h124) fun a622 e => ?_
    clear h124; have h125 := pt_ F e; replace F := pu_ F e; clear e
    refine st_not gA5_18_2 rfl (wanted_is (j := 1) (d := 125) rfl rfl h125 rfl) fun a623 e => ?_
    have h126 := pt_ F e; replace F := pu_ F e; replace h125 := so_ e h125; clear e
    refine st_not gA5_18_3 rfl (wanted_is (j := 1) (d := 125) rfl rfl h125 rfl) fun a624 e => ?_
    have h127 := pt_ F e; replace F := pu_ F e; replace h125 := so_ e h125; replace h126 := so_ e h126; clear e
    refine st_not gA5_18_4 rfl (wanted_is (j := 1) (d := 125) rfl rfl h125 rfl) fun a625 e => ?_
    clear h126 h127; have h128 := pt_ F e; replace F := pu_ F e; replace h125 := so_ e h125; clear e
    refine st_not gA5_18_5 rfl (wanted_is (j := 1) (d := 125) rfl rfl h125 rfl) fun a626 e => ?_
    have h129 := pt_ F e; replace F := pu_ F e; replace h125 := so_ e h125; replace h128 := so_ e h128; clear e
    refine st_not gA5_18_6 rfl (wanted_is (j := 1) (d := 125) rfl rfl h125 rfl) fun a627 e => ?_
    clear h128 h129; have h130 := pt_ F e; replace F := pu_ F e; replace h125 := so_ e h125; clear e
    refine st_not gA5_18_7 rfl (wanted_is (j := 1) (d := 125) rfl rfl h125 rfl) fun a628 e => ?_
    have h131 := pt_ F e; replace F := pu_ F e; replace h125 := so_ e h125; replace h130 := so_ e h130; clear e
    refine st_not gA5_18_8 rfl (wanted_is (j := 1) (d := 125) rfl rfl h125 rfl) fun a629 e => ?_
    clear h130 h131; have h132 := pt_ F e; replace F := pu_ F e; replace h125 := so_ e h125; clear e
    refine st_not gA5_18_9 rfl (wanted_is (j := 1) (d := 125) rfl rfl h125 rfl) fun a630 e => ?_
    clear h132; have h133 := pt_ F e; replace F := pu_ F e; replace h125 := so_ e h125; clear e
    refine st_not gA5_18_10 rfl (wanted_un (j := 9) (d := 133) rfl rfl h133) fun a631 e => ?_
    have h134 := pt_ F e; replace F := pu_ F e; replace h125 := so_ e h125; replace h133 := so_ e h133; clear e
    refine st_not gA5_18_11 rfl (wanted_un (j := 9) (d := 133) rfl rfl h133) fun a632 e => ?_
    have h135 := pt_ F e; replace F := pu_ F e; replace h125 := so_ e h125; replace h133 := so_ e h133; replace h134 := so_ e h134; clear e
    refine st_not gA5_18_12 rfl (wanted_un (j := 9) (d := 133) rfl rfl h133) fun a633 e => ?_
    clear h134 h135; have h136 := pt_ F e; replace F := pu_ F e; replace h125 := so_ e h125; replace h133 := so_ e h133; clear e
    refine st_not gA5_18_13 rfl (wanted_un (j := 9) (d := 133) rfl rfl h133) fun a634 e => ?_
    clear h136; have h137 := pt_ F e; replace F := pu_ F e; replace h125 := so_ e h125; replace h133 := so_ e h133; clear e
    refine st_not gA5_18_14 rfl (wanted_un (j := 13) (d := 137) rfl rfl h137) fun a635 e => ?_
    have h138 := pt_ F e; replace F := pu_ F e; replace h125 := so_ e h125; replace h133 := so_ e h133; replace h137 := so_ e h137; clear e
    refine st_not gA5_18_15 rfl (wanted_un (j := 13) (d := 137) rfl rfl h137) fun a636 e => ?_
    have h139 := pt_ F e; replace F := pu_ F e; replace h125 := so_ e h125; replace h133 := so_ e h133; replace h137 := so_ e h137; replace h138 := so_ e h138; clear e
    refine st_not gA5_18_16 rfl (wanted_un (j := 13) (d := 137) rfl rfl h137) fun a637 e => ?_
    have h140 := pt_ F e; replace F := pu_ F e; replace h125 := so_ e h125; replace h133 := so_ e h133; replace h137 := so_ e h137; replace h138 := so_ e h138; replace h139 := so_ e h139; clear e
    refine st_not gA5_18_17 rfl (wanted_un (j := 13) (d := 137) rfl rfl h137) fun a638 e => ?_
    clear h139 h140; have h141 := pt_ F e; replace F := pu_ F e; replace h125 := so_ e h125; replace h133 := so_ e h133; replace h137 := so_ e h137; replace h138 := so_ e h138; clear e
    refine st_not gA5_18_18 rfl (wanted_un (j := 13) (d := 137) rfl rfl h137) fun a639 e => ?_
    clear h138 h141; have h142 := pt_ F e; replace F := pu_ F e; replace h125 := so_ e h125; replace h133 := so_ e h133; replace h137 := so_ e h137; clear e
    refine st_not gA5_18_19 rfl (wanted_un (j := 9) (d := 133) rfl rfl h133) fun a640 e => ?_
    clear h137 h142; have h143 := pt_ F e; replace F := pu_ F e; replace h125 := so_ e h125; replace h133 := so_ e h133; clear e
    refine st_not gA5_18_20 rfl (wanted_is (j := 1) (d := 125) rfl rfl h125 rfl) fun a641 e => ?_
    clear h133 h143; have h144 := pt_ F e; replace F := pu_ F e; replace h125 := so_ e h125; clear e
    refine st_not gA5_18_21 rfl (wanted_is (j := 1) (d := 125) rfl rfl h125 rfl) fun a642 e => ?_
    clear h144; have h145 := pt_ F e; replace F := pu_ F e; replace h125 := so_ e h125; clear e
    refine st_not gA5_18_22 rfl (wanted_un (j := 21) (d := 145) rfl rfl h145) fun a643 e => ?_
    have h146 := pt_ F e; replace F := pu_ F e; replace h125 := so_ e h125; replace h145 := so_ e h145; clear e
    refine st_not gA5_18_23 rfl (wanted_un (j := 21) (d := 145) rfl rfl h145) fun a644 e => ?_
    clear h146; have h147 := pt_ F e; replace F := pu_ F e; replace h125 := so_ e h125; replace h145 := so_ e h145; clear e
    refine st_not gA5_18_24 rfl (wanted_un (j := 21) (d := 145) rfl rfl h145) fun a645 e => ?_
    clear h147; have h148 := pt_ F e; replace F := pu_ F e; replace h125 := so_ e h125; replace h145 := so_ e h145; clear e
    refine st_not gA5_18_25 rfl (wanted_un (j := 24) (d := 148) rfl rfl h148) fun a646 e => ?_
    have h149 := pt_ F e; replace F := pu_ F e; replace h125 := so_ e h125; replace h145 := so_ e h145; replace h148 := so_ e h148; clear e
    refine st_not gA5_18_26 rfl (wanted_un (j := 24) (d := 148) rfl rfl h148) fun a647 e => ?_
    clear h149; have h150 := pt_ F e; replace F := pu_ F e; replace h125 := so_ e h125; replace h145 := so_ e h145; replace h148 := so_ e h148; clear e
    refine st_not gA5_18_27 rfl (wanted_un (j := 24) (d := 148) rfl rfl h148) fun a648 e => ?_
    have h151 := pt_ F e; replace F := pu_ F e; replace h125 := so_ e h125; replace h145 := so_ e h145; replace h148 := so_ e h148; replace h150 := so_ e h150; clear e
    refine st_not gA5_18_28 rfl (wanted_un (j := 24) (d := 148) rfl rfl h148) fun a649 e => ?_
    clear h151; have h152 := pt_ F e; replace F := pu_ F e; replace h125 := so_ e h125; replace h145 := so_ e h145; replace h148 := so_ e h148; replace h150 := so_ e h150; clear e
    refine st_not gA5_18_29 rfl (wanted_un (j := 24) (d := 148) rfl rfl h148) fun a650 e => ?_
    clear h150 h152; have h153 := pt_ F e; replace F := pu_ F e; replace h125 := so_ e h125; replace h145 := so_ e h145; replace h148 := so_ e h148; clear e
    refine st_not gA5_18_30 rfl (wanted_un (j := 21) (d := 145) rfl rfl h145) fun a651 e => ?_
    clear h148 h153; have h154 := pt_ F e; replace F := pu_ F e; replace h125 := so_ e h125; replace h145 := so_ e h145; clear e
    refine st_not gA5_18_31 rfl (wanted_is (j := 1) (d := 125) rfl rfl h125 rfl) fun a652 e => ?_
    clear h145 h154; have h155 := pt_ F e; replace F := pu_ F e; replace h125 := so_ e h125; clear e
    have Y : (execOp a652.eval oA5_18_32).run Try.prog w620 = .ok (.value (.bool false)) w620 := by unfold oA5_18_32; go_simp
    refine sv_ gA5_18_32 Y fun a653 e => ?_; clear Y
    clear h125 h155; have h156 := pt_ F e; replace F := pu_ F e; clear e
    refine st_end ?_
    replace h0 := F.of h0; replace h1 := F.of h1; clear h6; clear h12; clear h13; clear h15; have R := F.r; clear F
    change (cA5_59).wp _ _ _ _
    refine wp_cond_false (x := cA5_60) (y := Code.skip) (eval_slot h156) ?_
    refine wp_skip ?_
    exact rules_e R h0 h1 K1 HA HB (Lib.hid trivial)
set_option maxRecDepth 100000 in
set_option maxHeartbeats 4000000 in
theorem rules_m {W : World} {a b : Int} {f0 : Act} {w0 : World} (R : FrS 192 f0) (h0 : f0.tmps[0]? = some (.int .i64 a)) (h1 : f0.tmps[1]? = some (.int .i64 b)) (K1 : Keep (fun g => g < W.heap.size) W w0)  (HA : Hid (inR a)) (HB : Hid (inR b)) (HT42 : Hid (∀ (f : Act) (w : World), FrS 192 f → f.tmps[0]? = some (.int .i64 a) → f.tmps[1]? = some (.int .i64 b) → Keep (fun g => g < W.heap.size) W w → cA5_42.wp Try.prog (bodyPost Try.prog Try.f5 (fun e w' => e = .returned (.bool true) ∧ Keep (fun g => g < W.heap.size) W w')) f w)) : cA5_0.wp Try.prog (bodyPost Try.prog Try.f5 (fun e w' => e = .returned (.bool true) ∧ Keep (fun g => g < W.heap.size) W w')) f0 w0 := by
  refine wp_seq (x := cA5_1) (y := cA5_2) ?_
  change (Code.region 0 OA5_0 false).wp _ _ _ _
  refine reg_in (l := [0]) rfl ?_
  have F : FE_ _ [] f0 f0 := ⟨R, Ag_.refl _⟩; clear R
  have Y : (execOp f0.eval oA5_0_0).run Try.prog w0 = .ok (.value (.bool false)) w0 := by unfold oA5_0_0; go_simp
  refine sv_ gA5_0_0 Y fun a654 e => ?_; clear Y
  have h4 := pt_ F e; replace F := pu_ F e; clear e
  refine st_end ?_
  replace h0 := F.of h0; replace h1 := F.of h1; have R := F.r; clear F
  change (cA5_2).wp _ _ _ _
  refine wp_seq (x := cA5_3) (y := cA5_10) ?_
  refine wp_seq (x := cA5_4) (y := cA5_5) ?_
  change (Code.region 1 OA5_1 false).wp _ _ _ _
  refine reg_in (l := [0, 1]) rfl ?_
  have F : FE_ _ [] a654 a654 := ⟨R, Ag_.refl _⟩; clear R
  have Y : (execOp a654.eval oA5_1_0).run Try.prog w0 = .ok (.enter 9 #[]) w0 := by unfold oA5_1_0; go_simp
  refine st_call gA5_1_0 rfl (wanted_free rfl) Y ((alive_any _).mono ?_); clear Y
  rintro e9 w655 ⟨rfl, kk⟩
  replace K1 := keep_onto K1 kk
  clear kk
  refine ⟨_, rfl, fun a656 e => ?_⟩
  have h25 := pt_ F e; replace F := pu_ F e; clear e
  have Y : (execOp a656.eval oA5_1_1).run Try.prog w655 = .ok (.value (.bool false)) w655 := by unfold oA5_1_1; go_simp
  refine sv_ gA5_1_1 Y fun a657 e => ?_; clear Y
  clear h25; have h26 := pt_ F e; replace F := pu_ F e; clear e
  refine st_end ?_
  replace h0 := F.of h0; replace h1 := F.of h1; replace h4 := F.of h4; have R := F.r; clear F
  change (cA5_5).wp _ _ _ _
  refine wp_cond_false (x := cA5_6) (y := Code.skip) (eval_slot h26) ?_
  refine wp_skip ?_
  change (cA5_10).wp _ _ _ _
  refine wp_seq (x := cA5_11) (y := cA5_12) ?_
  change (Code.region 3 OA5_3 false).wp _ _ _ _
  refine reg_in (l := [0, 1, 2, 3, 4, 5, 6, 7]) rfl ?_
  have F : FE_ _ [] a657 a657 := ⟨R, Ag_.refl _⟩; clear R
  refine sv_ gA5_3_0 (ym_ rfl (F.of h0)) fun a658 e => ?_
  have h28 := pt_ F e; replace F := pu_ F e; clear e
  refine sv_ gA5_3_1 (ym_ rfl (F.of h1)) fun a659 e => ?_
  have h29 := pt_ F e; replace F := pu_ F e; replace h28 := so_ e h28; clear e
  have Y : (execOp a659.eval oA5_3_2).run Try.prog w655 = .ok (.enter 19 #[.string (⟨#[43]⟩), .int .i64 a, .int .i64 b]) w655 := by unfold oA5_3_2; go_simp
  obtain ⟨ks, hks⟩ : ∃ q, (decide (inR (a + b))) = q := ⟨_, rfl⟩
  have hca := lworth_big (W := w655) (ev_add a b) hks (by decide) HA.out HB.out; have HKS := Lib.hid hks; clear hks
  refine st_call gA5_3_2 rfl (wanted_free rfl) Y ((hca).mono ?_); clear Y
  rintro e9 w660 ⟨rfl, kk⟩
  replace K1 := keep_onto K1 kk
  clear kk
  clear hca
  refine ⟨_, rfl, fun a661 e => ?_⟩
  clear h28 h29; have h30 := pt_ F e; replace F := pu_ F e; clear e
  refine sv_ gA5_3_3 (ym_ rfl h30) fun a662 e => ?_
  clear h30; have h27 := pt_ F e; replace F := pu_ F e; clear e
  refine sv_ gA5_3_4 (ye20_ rfl h27) fun a663 e => ?_
  have h31 := pt_ F e; replace F := pu_ F e; replace h27 := so_ e h27; clear e
  refine sv_ gA5_3_5 (ye21_ rfl h27) fun a664 e => ?_
  clear h27; have h32 := pt_ F e; replace F := pu_ F e; replace h31 := so_ e h31; clear e
  refine sv_ gA5_3_6 (ya_ rfl h31) fun a665 e => ?_
  clear h31; have h5 := pt_ F e; replace F := pu_ F e; replace h32 := so_ e h32; clear e
  refine sv_ gA5_3_7 (ya_ rfl h32) fun a666 e => ?_
  clear h32; have h6 := pt_ F e; replace F := pu_ F e; replace h5 := so_ e h5; clear e
  refine st_end ?_
  replace h0 := F.of h0; replace h1 := F.of h1; replace h4 := F.of h4; clear h26; have R := F.r; clear F
  change (cA5_12).wp _ _ _ _
  refine js_ (x := cA5_13) (y := cA5_26) (fun fX wX => FrS 192 fX ∧ fX.tmps[0]? = some (.int .i64 a) ∧ fX.tmps[1]? = some (.int .i64 b) ∧ fX.tmps[4]? = some (.bool false) ∧ fX.tmps[6]? = some (.bool ks) ∧ Keep (fun g => g < W.heap.size) W wX) ?_ ?_
  ·
    refine wp_seq (x := cA5_14) (y := cA5_15) ?_
    change (Code.region 4 OA5_4 false).wp _ _ _ _
    refine reg_in (l := [0]) rfl ?_
    have F : FE_ _ [] a666 a666 := ⟨R, Ag_.refl _⟩; clear R
    refine sv_ gA5_4_0 (ym_ rfl (F.of h6)) fun a667 e => ?_
    have h33 := pt_ F e; replace F := pu_ F e; clear e
    refine st_end ?_
    replace h0 := F.of h0; replace h1 := F.of h1; replace h4 := F.of h4; replace h5 := F.of h5; replace h6 := F.of h6; have R := F.r; clear F
    change (cA5_15).wp _ _ _ _
    cases ks with
    | false =>
      refine wp_cond_false (x := cA5_16) (y := Code.skip) (eval_slot h33) ?_
      refine wp_skip ?_
      exact ⟨R, h0, h1, h4, h6, K1⟩
    | true =>
      refine wp_cond_true (x := cA5_16) (y := Code.skip) (eval_slot h33) ?_
      refine wp_seq (x := cA5_17) (y := cA5_18) ?_
      change (Code.region 5 OA5_5 false).wp _ _ _ _
      refine reg_in (l := [0, 1, 2, 3, 4, 5, 6, 7]) rfl ?_
      have F : FE_ _ [] a667 a667 := ⟨R, Ag_.refl _⟩; clear R
      have Y : (execOp a667.eval oA5_5_0).run Try.prog w660 = .ok (.value (.int .i64 (a + b))) w660 := by have r5 := F.of h5; unfold oA5_5_0; go_simp
      refine sv_ gA5_5_0 Y fun a668 e => ?_; clear Y
      have h35 := pt_ F e; replace F := pu_ F e; clear e
      refine sv_ gA5_5_1 (ym_ rfl (F.of h1)) fun a669 e => ?_
      have h36 := pt_ F e; replace F := pu_ F e; replace h35 := so_ e h35; clear e
      have Y : (execOp a669.eval oA5_5_2).run Try.prog w660 = .ok (.enter 19 #[.string (⟨#[45]⟩), .int .i64 (a + b), .int .i64 b]) w660 := by unfold oA5_5_2; go_simp
      refine st_call gA5_5_2 rfl (wanted_free rfl) Y ((lworth_num (ev_back HA.out) (by decide) (by simpa using HKS.out) HB.out).mono ?_); clear Y
      rintro e9 w670 ⟨rfl, kk⟩
      replace K1 := keep_onto K1 kk
      clear kk
      refine ⟨_, rfl, fun a671 e => ?_⟩
      clear h35 h36; have h37 := pt_ F e; replace F := pu_ F e; clear e
      refine sv_ gA5_5_3 (ym_ rfl h37) fun a672 e => ?_
      clear h37; have h34 := pt_ F e; replace F := pu_ F e; clear e
      refine sv_ gA5_5_4 (ye20_ rfl h34) fun a673 e => ?_
      have h38 := pt_ F e; replace F := pu_ F e; replace h34 := so_ e h34; clear e
      refine sv_ gA5_5_5 (ye21_ rfl h34) fun a674 e => ?_
      clear h34; have h39 := pt_ F e; replace F := pu_ F e; replace h38 := so_ e h38; clear e
      refine sv_ gA5_5_6 (ya_ rfl h38) fun a675 e => ?_
      clear h38; have h7 := pt_ F e; replace F := pu_ F e; replace h39 := so_ e h39; clear e
      refine sv_ gA5_5_7 (ya_ rfl h39) fun a676 e => ?_
      clear h39; have h8 := pt_ F e; replace F := pu_ F e; replace h7 := so_ e h7; clear e
      refine st_end ?_
      replace h0 := F.of h0; replace h1 := F.of h1; replace h4 := F.of h4; clear h5; replace h6 := F.of h6; clear h33; have R := F.r; clear F
      change (cA5_18).wp _ _ _ _
      refine wp_seq (x := cA5_19) (y := cA5_20) ?_
      change (Code.region 6 OA5_6 false).wp _ _ _ _
      refine reg_in (l := [0, 1, 2, 3, 4, 5, 6]) rfl ?_
      have F : FE_ _ [] a676 a676 := ⟨R, Ag_.refl _⟩; clear R
      refine sv_ gA5_6_0 (ym_ rfl (F.of h8)) fun a677 e => ?_
      have h40 := pt_ F e; replace F := pu_ F e; clear e
      have Y : (execOp a677.eval oA5_6_1).run Try.prog w670 = .ok (.value (.bool false)) w670 := by unfold oA5_6_1; go_simp
      refine sv_ gA5_6_1 Y fun a678 e => ?_; clear Y
      clear h40; have h41 := pt_ F e; replace F := pu_ F e; clear e
      refine sv_ gA5_6_2 (ym_ rfl h41) fun a679 e => ?_
      clear h41; have h42 := pt_ F e; replace F := pu_ F e; clear e
      refine st_val gA5_6_3 rfl (wanted_is (j := 2) (d := 42) rfl rfl h42 rfl) (ym_ rfl (F.of h7)) fun a680 e => ?_
      have h43 := pt_ F e; replace F := pu_ F e; replace h42 := so_ e h42; clear e
      refine st_val gA5_6_4 rfl (wanted_is (j := 2) (d := 42) rfl rfl h42 rfl) (ym_ rfl (F.of h0)) fun a681 e => ?_
      have h44 := pt_ F e; replace F := pu_ F e; replace h42 := so_ e h42; replace h43 := so_ e h43; clear e
      have Y : (execOp a681.eval oA5_6_5).run Try.prog w670 = .ok (.value (.bool false)) w670 := by unfold oA5_6_5; go_simp
      refine st_val gA5_6_5 rfl (wanted_is (j := 2) (d := 42) rfl rfl h42 rfl) Y fun a682 e => ?_; clear Y
      clear h43 h44; have h45 := pt_ F e; replace F := pu_ F e; replace h42 := so_ e h42; clear e
      have Y : (execOp a682.eval oA5_6_6).run Try.prog w670 = .ok (.value (.bool false)) w670 := by unfold oA5_6_6; go_simp
      refine sv_ gA5_6_6 Y fun a683 e => ?_; clear Y
      clear h42 h45; have h46 := pt_ F e; replace F := pu_ F e; clear e
      refine st_end ?_
      replace h0 := F.of h0; replace h1 := F.of h1; replace h4 := F.of h4; replace h6 := F.of h6; clear h7; clear h8; have R := F.r; clear F
      change (cA5_20).wp _ _ _ _
      refine wp_cond_false (x := cA5_21) (y := Code.skip) (eval_slot h46) ?_
      refine wp_skip ?_
      exact ⟨R, h0, h1, h4, h6, K1⟩
  ·
    clear R h0 h1 h4 h6 K1 h5
    rintro a684 w685 ⟨R, h0, h1, h4, h6, K1⟩
    refine wp_seq (x := cA5_27) (y := cA5_28) ?_
    change (Code.region 8 OA5_8 false).wp _ _ _ _
    refine reg_in (l := [0, 1, 2, 3, 4, 5, 6, 7]) rfl ?_
    have F : FE_ _ [] a684 a684 := ⟨R, Ag_.refl _⟩; clear R
    refine sv_ gA5_8_0 (ym_ rfl (F.of h0)) fun a686 e => ?_
    have h48 := pt_ F e; replace F := pu_ F e; clear e
    refine sv_ gA5_8_1 (ym_ rfl (F.of h1)) fun a687 e => ?_
    have h49 := pt_ F e; replace F := pu_ F e; replace h48 := so_ e h48; clear e
    have Y : (execOp a687.eval oA5_8_2).run Try.prog w685 = .ok (.enter 19 #[.string (⟨#[42]⟩), .int .i64 a, .int .i64 b]) w685 := by unfold oA5_8_2; go_simp
    obtain ⟨kp, hkp⟩ : ∃ q, (decide (inR (a * b))) = q := ⟨_, rfl⟩
    have hca := lworth_big (W := w685) (ev_mul a b) hkp (by decide) HA.out HB.out; have HKP := Lib.hid hkp; clear hkp
    refine st_call gA5_8_2 rfl (wanted_free rfl) Y ((hca).mono ?_); clear Y
    rintro e9 w688 ⟨rfl, kk⟩
    replace K1 := keep_onto K1 kk
    clear kk
    clear hca
    refine ⟨_, rfl, fun a689 e => ?_⟩
    clear h48 h49; have h50 := pt_ F e; replace F := pu_ F e; clear e
    refine sv_ gA5_8_3 (ym_ rfl h50) fun a690 e => ?_
    clear h50; have h47 := pt_ F e; replace F := pu_ F e; clear e
    refine sv_ gA5_8_4 (ye20_ rfl h47) fun a691 e => ?_
    have h51 := pt_ F e; replace F := pu_ F e; replace h47 := so_ e h47; clear e
    refine sv_ gA5_8_5 (ye21_ rfl h47) fun a692 e => ?_
    clear h47; have h52 := pt_ F e; replace F := pu_ F e; replace h51 := so_ e h51; clear e
    refine sv_ gA5_8_6 (ya_ rfl h51) fun a693 e => ?_
    clear h51; have h9 := pt_ F e; replace F := pu_ F e; replace h52 := so_ e h52; clear e
    refine sv_ gA5_8_7 (ya_ rfl h52) fun a694 e => ?_
    clear h52 h6; have h6 := pt_ F e; replace F := pu_ F e; replace h9 := so_ e h9; clear e
    refine st_end ?_
    replace h0 := F.of h0; replace h1 := F.of h1; replace h4 := F.of h4; have R := F.r; clear F
    change (cA5_28).wp _ _ _ _
    refine js_ (x := cA5_29) (y := cA5_42) (fun fX wX => FrS 192 fX ∧ fX.tmps[0]? = some (.int .i64 a) ∧ fX.tmps[1]? = some (.int .i64 b) ∧ fX.tmps[4]? = some (.bool false) ∧ fX.tmps[6]? = some (.bool kp) ∧ Keep (fun g => g < W.heap.size) W wX) ?_ ?_
    ·
      refine wp_seq (x := cA5_30) (y := cA5_31) ?_
      change (Code.region 9 OA5_9 false).wp _ _ _ _
      refine reg_in (l := [0, 1, 2, 3, 4]) rfl ?_
      have F : FE_ _ [] a694 a694 := ⟨R, Ag_.refl _⟩; clear R
      refine sv_ gA5_9_0 (ym_ rfl (F.of h6)) fun a695 e => ?_
      have h53 := pt_ F e; replace F := pu_ F e; clear e
      refine sv_ gA5_9_1 (ym_ rfl h53) fun a696 e => ?_
      clear h53; have h54 := pt_ F e; replace F := pu_ F e; clear e
      cases kp with
      | false =>
        refine st_not gA5_9_2 rfl (wanted_is (j := 1) (d := 54) rfl rfl h54 rfl) fun a697 e => ?_
        have h55 := pt_ F e; replace F := pu_ F e; replace h54 := so_ e h54; clear e
        refine st_not gA5_9_3 rfl (wanted_is (j := 1) (d := 54) rfl rfl h54 rfl) fun a698 e => ?_
        clear h55; have h56 := pt_ F e; replace F := pu_ F e; replace h54 := so_ e h54; clear e
        have Y : (execOp a698.eval oA5_9_4).run Try.prog w688 = .ok (.value (.bool false)) w688 := by unfold oA5_9_4; go_simp
        refine sv_ gA5_9_4 Y fun a699 e => ?_; clear Y
        clear h54 h56; have h57 := pt_ F e; replace F := pu_ F e; clear e
        refine st_end ?_
        replace h0 := F.of h0; replace h1 := F.of h1; replace h4 := F.of h4; replace h6 := F.of h6; replace h9 := F.of h9; have R := F.r; clear F
        change (cA5_31).wp _ _ _ _
        refine wp_cond_false (x := cA5_32) (y := Code.skip) (eval_slot h57) ?_
        refine wp_skip ?_
        exact ⟨R, h0, h1, h4, h6, K1⟩
      | true =>
        refine st_val gA5_9_2 rfl (wanted_is (j := 1) (d := 54) rfl rfl h54 rfl) (ym_ rfl (F.of h1)) fun a700 e => ?_
        have h55 := pt_ F e; replace F := pu_ F e; replace h54 := so_ e h54; clear e
        obtain ⟨b701, hb701⟩ : ∃ x, (((b : Int) != (0 : Int))) = x := ⟨_, rfl⟩
        have Y : (execOp a700.eval oA5_9_3).run Try.prog w688 = .ok (.value (.bool b701)) w688 := by rw [← hb701]; unfold oA5_9_3; go_simp
        refine st_val gA5_9_3 rfl (wanted_is (j := 1) (d := 54) rfl rfl h54 rfl) Y fun a702 e => ?_; clear Y
        clear h55; have h56 := pt_ F e; replace F := pu_ F e; replace h54 := so_ e h54; clear e
        have Y : (execOp a702.eval oA5_9_4).run Try.prog w688 = .ok (.value (.bool b701)) w688 := by unfold oA5_9_4; go_simp
        refine sv_ gA5_9_4 Y fun a703 e => ?_; clear Y
        clear h54 h56; have h57 := pt_ F e; replace F := pu_ F e; clear e
        refine st_end ?_
        replace h0 := F.of h0; replace h1 := F.of h1; replace h4 := F.of h4; replace h6 := F.of h6; replace h9 := F.of h9; have R := F.r; clear F
        change (cA5_31).wp _ _ _ _
        cases b701 with
        | false =>
          have fb701 := hb701; clear hb701
          simp only [decide_eq_true_eq, decide_eq_false_iff_not, bne_iff_ne, bne_eq_false_iff_eq, beq_iff_eq, beq_eq_false_iff_ne, ne_eq, Bool.not_eq_true', Bool.not_eq_false', Bool.not_eq_eq_eq_not, Bool.not_true, Bool.not_false] at fb701
          refine wp_cond_false (x := cA5_32) (y := Code.skip) (eval_slot h57) ?_
          refine wp_skip ?_
          exact ⟨R, h0, h1, h4, h6, K1⟩
        | true =>
          have fb701 := hb701; clear hb701
          simp only [decide_eq_true_eq, decide_eq_false_iff_not, bne_iff_ne, bne_eq_false_iff_eq, beq_iff_eq, beq_eq_false_iff_ne, ne_eq, Bool.not_eq_true', Bool.not_eq_false', Bool.not_eq_eq_eq_not, Bool.not_true, Bool.not_false] at fb701
          refine wp_cond_true (x := cA5_32) (y := Code.skip) (eval_slot h57) ?_
          refine wp_seq (x := cA5_33) (y := cA5_34) ?_
          change (Code.region 10 OA5_10 false).wp _ _ _ _
          refine reg_in (l := [0, 1, 2, 3, 4, 5, 6, 7]) rfl ?_
          have F : FE_ _ [] a703 a703 := ⟨R, Ag_.refl _⟩; clear R
          have Y : (execOp a703.eval oA5_10_0).run Try.prog w688 = .ok (.value (.int .i64 (a * b))) w688 := by have r9 := F.of h9; unfold oA5_10_0; go_simp
          refine sv_ gA5_10_0 Y fun a704 e => ?_; clear Y
          have h59 := pt_ F e; replace F := pu_ F e; clear e
          refine sv_ gA5_10_1 (ym_ rfl (F.of h1)) fun a705 e => ?_
          have h60 := pt_ F e; replace F := pu_ F e; replace h59 := so_ e h59; clear e
          have Y : (execOp a705.eval oA5_10_2).run Try.prog w688 = .ok (.enter 19 #[.string (⟨#[47, 47]⟩), .int .i64 (a * b), .int .i64 b]) w688 := by unfold oA5_10_2; go_simp
          refine st_call gA5_10_2 rfl (wanted_free rfl) Y ((lworth_num (ev_mback HA.out (by assumption)) (by decide) (by simpa using HKP.out) HB.out).mono ?_); clear Y
          rintro e9 w706 ⟨rfl, kk⟩
          replace K1 := keep_onto K1 kk
          clear kk
          refine ⟨_, rfl, fun a707 e => ?_⟩
          clear h59 h60; have h61 := pt_ F e; replace F := pu_ F e; clear e
          refine sv_ gA5_10_3 (ym_ rfl h61) fun a708 e => ?_
          clear h61; have h58 := pt_ F e; replace F := pu_ F e; clear e
          refine sv_ gA5_10_4 (ye20_ rfl h58) fun a709 e => ?_
          have h62 := pt_ F e; replace F := pu_ F e; replace h58 := so_ e h58; clear e
          refine sv_ gA5_10_5 (ye21_ rfl h58) fun a710 e => ?_
          clear h58; have h63 := pt_ F e; replace F := pu_ F e; replace h62 := so_ e h62; clear e
          refine sv_ gA5_10_6 (ya_ rfl h62) fun a711 e => ?_
          clear h62; have h10 := pt_ F e; replace F := pu_ F e; replace h63 := so_ e h63; clear e
          refine sv_ gA5_10_7 (ya_ rfl h63) fun a712 e => ?_
          clear h63; have h11 := pt_ F e; replace F := pu_ F e; replace h10 := so_ e h10; clear e
          refine st_end ?_
          replace h0 := F.of h0; replace h1 := F.of h1; replace h4 := F.of h4; replace h6 := F.of h6; clear h9; clear h57; have R := F.r; clear F
          change (cA5_34).wp _ _ _ _
          refine wp_seq (x := cA5_35) (y := cA5_36) ?_
          change (Code.region 11 OA5_11 false).wp _ _ _ _
          refine reg_in (l := [0, 1, 2, 3, 4, 5, 6]) rfl ?_
          have F : FE_ _ [] a712 a712 := ⟨R, Ag_.refl _⟩; clear R
          refine sv_ gA5_11_0 (ym_ rfl (F.of h11)) fun a713 e => ?_
          have h64 := pt_ F e; replace F := pu_ F e; clear e
          have Y : (execOp a713.eval oA5_11_1).run Try.prog w706 = .ok (.value (.bool false)) w706 := by unfold oA5_11_1; go_simp
          refine sv_ gA5_11_1 Y fun a714 e => ?_; clear Y
          clear h64; have h65 := pt_ F e; replace F := pu_ F e; clear e
          refine sv_ gA5_11_2 (ym_ rfl h65) fun a715 e => ?_
          clear h65; have h66 := pt_ F e; replace F := pu_ F e; clear e
          refine st_val gA5_11_3 rfl (wanted_is (j := 2) (d := 66) rfl rfl h66 rfl) (ym_ rfl (F.of h10)) fun a716 e => ?_
          have h67 := pt_ F e; replace F := pu_ F e; replace h66 := so_ e h66; clear e
          refine st_val gA5_11_4 rfl (wanted_is (j := 2) (d := 66) rfl rfl h66 rfl) (ym_ rfl (F.of h0)) fun a717 e => ?_
          have h68 := pt_ F e; replace F := pu_ F e; replace h66 := so_ e h66; replace h67 := so_ e h67; clear e
          have Y : (execOp a717.eval oA5_11_5).run Try.prog w706 = .ok (.value (.bool false)) w706 := by unfold oA5_11_5; go_simp
          refine st_val gA5_11_5 rfl (wanted_is (j := 2) (d := 66) rfl rfl h66 rfl) Y fun a718 e => ?_; clear Y
          clear h67 h68; have h69 := pt_ F e; replace F := pu_ F e; replace h66 := so_ e h66; clear e
          have Y : (execOp a718.eval oA5_11_6).run Try.prog w706 = .ok (.value (.bool false)) w706 := by unfold oA5_11_6; go_simp
          refine sv_ gA5_11_6 Y fun a719 e => ?_; clear Y
          clear h66 h69; have h70 := pt_ F e; replace F := pu_ F e; clear e
          refine st_end ?_
          replace h0 := F.of h0; replace h1 := F.of h1; replace h4 := F.of h4; replace h6 := F.of h6; clear h10; clear h11; have R := F.r; clear F
          change (cA5_36).wp _ _ _ _
          refine wp_cond_false (x := cA5_37) (y := Code.skip) (eval_slot h70) ?_
          refine wp_skip ?_
          exact ⟨R, h0, h1, h4, h6, K1⟩
    ·
      clear R h0 h1 h4 h6 K1 h9
      rintro a720 w721 ⟨R, h0, h1, h4, h6, K1⟩
      change (cA5_42).wp _ _ _ _
      exact HT42.out _ _ R h0 h1 K1
theorem rules_walk {W : World} {a b : Int} (ha : inR a) (hb : inR b) : Calls Try.prog 5 #[.int .i64 a, .int .i64 b] W fun e w' => e = .returned (.bool true) ∧ Keep (fun g => g < W.heap.size) W w' := by
  refine enter_sx Try.func5 bodyA5 rfl (by show (2 : Nat) ≤ 192; decide) fun f0 R hs => ?_
  refine rules_m R (hs 0 _ rfl) (hs 1 _ rfl) (Keep.refl _ W) (Lib.hid ha) (Lib.hid hb) (Lib.hid fun f w R h0 h1 K1 => ?_)
  by_cases hz : b = 0
  · exact rules_a R h0 h1 K1 (Lib.hid ha) (Lib.hid hb) (Lib.hid hz)
  · by_cases h9 : a = -9223372036854775808 ∧ b = -1
    · obtain ⟨rfl, rfl⟩ := h9
      exact rules_c R h0 h1 K1 (Lib.hid ha) (Lib.hid hb) (Lib.hid ⟨rfl, rfl⟩) (Lib.hid (by rw [ev_quo]; rfl)) (Lib.hid (by rw [ev_rem]; rfl)) (Lib.hid (by rw [ev_mod]; rfl))
    · obtain ⟨m, hm, -, h2, h3⟩ := ev_mod1 ha hb hz
      exact rules_b (z0 := wrap64 (a.tdiv b * b)) (y0 := wrap64 (a.tmod b + b)) R h0 h1 K1 (Lib.hid ha) (Lib.hid hb) (Lib.hid ⟨hz, h9, h2, h3⟩) (Lib.hid (ev_quo1 ha hz h9)) (Lib.hid (ev_rem1 hz)) (Lib.hid hm) (Lib.hid ⟨i64_l _, (i64_l _).trans (quo_rem_sum ha), i64_l _⟩)
end Go.Proofs.Ytmgephleogiaoaa
