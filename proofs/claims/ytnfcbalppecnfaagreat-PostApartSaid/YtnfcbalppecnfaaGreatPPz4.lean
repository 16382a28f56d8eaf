/-
  PostApart's walk: what happens to one queue changes no other. No condition.
-/
import Derived.Test.YtnfcbalppecnfaaGreatPPz3
namespace Go.Proofs.YtnfcbalppecnfaaGreat
open Go.RowKit Go.Maps
set_option linter.unusedVariables false
set_option linter.unusedSimpArgs false
def oz3_0_0:Oper:=⟨some 6,Op.assign (Operand.const (Value.bool false)),4, "law.go:129",#[],none⟩
def Oz3_0:Array Oper:=List.toArray (oz3_0_0::[])
theorem gz3_0_0:Oz3_0[0]? = some oz3_0_0:=rfl
def cz3_1:Code:=Code.region 0 Oz3_0 false
def oz3_1_0:Oper:=⟨some 22,Op.call { callee:=Callee.value (Operand.func 4),args:=#[],argTypes:=#[] },23, "law.go:130",#[],none⟩
def oz3_1_1:Oper:=⟨some 7,Op.assign (Operand.tmp 22),23, "law.go:130",#[ed_ 0,ec_ 0,ep_ 0],none⟩
def Oz3_1:Array Oper:=List.toArray (oz3_1_0::oz3_1_1::[])
theorem gz3_1_0:Oz3_1[0]? = some oz3_1_0:=rfl
theorem gz3_1_1:Oz3_1[1]? = some oz3_1_1:=rfl
def cz3_3:Code:=Code.region 1 Oz3_1 false
def oz3_2_0:Oper:=⟨some 23,Op.move (Operand.tmp 7),23, "law.go:131",#[],none⟩
def oz3_2_1:Oper:=⟨some 24,Op.binOp Go.BinOp.eql 23 (Operand.tmp 23) (Operand.const (Value.pointer none)) 23,4, "law.go:131",#[ed_ 0],none⟩
def oz3_2_2:Oper:=⟨some 25,Op.move (Operand.tmp 24),4, "law.go:131",#[ed_ 1],none⟩
def oz3_2_3:Oper:=⟨some 26,Op.call { callee:=Callee.value (Operand.func 5),args:=#[],argTypes:=#[] },4, "law.go:131",#[ec_ 2,eg_ 2],some (2,false)⟩
def oz3_2_4:Oper:=⟨some 27,Op.unOp Go.UnOp.not 4 (Operand.tmp 26),4, "law.go:131",#[ed_ 3,eg_ 2],some (2,false)⟩
def oz3_2_5:Oper:=⟨some 28,Op.pick (Operand.tmp 25) (Operand.const (Value.bool true)) (Operand.tmp 27),4, "law.go:131",#[ed_ 2,ed_ 4],none⟩
def Oz3_2:Array Oper:=List.toArray (oz3_2_0::oz3_2_1::oz3_2_2::oz3_2_3::oz3_2_4::oz3_2_5::[])
theorem gz3_2_0:Oz3_2[0]? = some oz3_2_0:=rfl
theorem gz3_2_1:Oz3_2[1]? = some oz3_2_1:=rfl
theorem gz3_2_2:Oz3_2[2]? = some oz3_2_2:=rfl
theorem gz3_2_3:Oz3_2[3]? = some oz3_2_3:=rfl
theorem gz3_2_4:Oz3_2[4]? = some oz3_2_4:=rfl
theorem gz3_2_5:Oz3_2[5]? = some oz3_2_5:=rfl
def cz3_6:Code:=Code.region 2 Oz3_2 false
def oz3_3_0:Oper:=⟨some 6,Op.assign (Operand.const (Value.bool false)),4, "law.go:132",#[],none⟩
def Oz3_3:Array Oper:=List.toArray (oz3_3_0::[])
def cz3_9:Code:=Code.region 3 Oz3_3 false
def cz3_8:Code:=Code.seq cz3_9 Code.ret
def cz3_7:Code:=Code.cond (Operand.tmp 28) cz3_8 Code.skip
def cz3_5:Code:=Code.seq cz3_6 cz3_7
def oz3_4_0:Oper:=⟨some 29,Op.move (Operand.tmp 0),22, "law.go:134",#[],none⟩
def oz3_4_1:Oper:=⟨some 30,Op.call { callee:=Callee.builtin Go.Builtin.len,args:=#[Operand.tmp 29],argTypes:=#[22] },3, "law.go:134",#[ed_ 0],none⟩
def oz3_4_2:Oper:=⟨some 31,Op.move (Operand.const (Value.int IntKind.i64 0)),3, "law.go:134",#[],none⟩
def Oz3_4:Array Oper:=List.toArray (oz3_4_0::oz3_4_1::oz3_4_2::[])
theorem gz3_4_0:Oz3_4[0]? = some oz3_4_0:=rfl
theorem gz3_4_1:Oz3_4[1]? = some oz3_4_1:=rfl
theorem gz3_4_2:Oz3_4[2]? = some oz3_4_2:=rfl
def cz3_14:Code:=Code.region 4 Oz3_4 false
def oz3_5_0:Oper:=⟨some 32,Op.binOp Go.BinOp.lss 3 (Operand.tmp 31) (Operand.tmp 30) 3,0, "law.go:134",#[],none⟩
def Oz3_5:Array Oper:=List.toArray (oz3_5_0::[])
theorem gz3_5_0:Oz3_5[0]? = some oz3_5_0:=rfl
def cz3_18:Code:=Code.region 5 Oz3_5 false
def cz3_22:Code:=Code.exit 0
def cz3_20:Code:=Code.cond (Operand.tmp 32) Code.skip cz3_22
def oz3_6_0:Oper:=⟨some 33,Op.indexAddr 22 (Operand.tmp 29) (Operand.tmp 31),0, "law.go:134",#[],none⟩
def oz3_6_1:Oper:=⟨some 34,Op.load 30 (Operand.tmp 33),30, "law.go:134",#[ed_ 0],none⟩
def oz3_6_2:Oper:=⟨some 9,Op.alloc 30,0, "law.go:134",#[],none⟩
def oz3_6_3:Oper:=⟨none,Op.store 30 (Operand.tmp 9) (Operand.tmp 34),0, "law.go:134",#[ed_ 2,ed_ 1,ep_ 0,ep_ 1,ep_ 2],none⟩
def Oz3_6:Array Oper:=List.toArray (oz3_6_0::oz3_6_1::oz3_6_2::oz3_6_3::[])
theorem gz3_6_0:Oz3_6[0]? = some oz3_6_0:=rfl
theorem gz3_6_1:Oz3_6[1]? = some oz3_6_1:=rfl
theorem gz3_6_2:Oz3_6[2]? = some oz3_6_2:=rfl
theorem gz3_6_3:Oz3_6[3]? = some oz3_6_3:=rfl
def cz3_26:Code:=Code.region 6 Oz3_6 false
def oz3_7_0:Oper:=⟨some 35,Op.fieldAddr 30 (Operand.tmp 9) 3,0, "law.go:135",#[],none⟩
def oz3_7_1:Oper:=⟨some 36,Op.load 28 (Operand.tmp 35),28, "law.go:135",#[ed_ 0],none⟩
def oz3_7_2:Oper:=⟨some 37,Op.call { callee:=Callee.value (Operand.func 6),args:=#[Operand.tmp 36],argTypes:=#[28] },4, "law.go:135",#[ed_ 1],none⟩
def Oz3_7:Array Oper:=List.toArray (oz3_7_0::oz3_7_1::oz3_7_2::[])
theorem gz3_7_0:Oz3_7[0]? = some oz3_7_0:=rfl
theorem gz3_7_1:Oz3_7[1]? = some oz3_7_1:=rfl
theorem gz3_7_2:Oz3_7[2]? = some oz3_7_2:=rfl
def cz3_28:Code:=Code.region 7 Oz3_7 false
def oz3_8_0:Oper:=⟨some 38,Op.move (Operand.tmp 7),23, "law.go:136",#[],none⟩
def oz3_8_1:Oper:=⟨some 39,Op.buildSlice 33 0 #[],33, "law.go:136",#[],none⟩
def oz3_8_2:Oper:=⟨some 40,Op.load 30 (Operand.tmp 9),30, "law.go:136",#[],none⟩
def oz3_8_3:Oper:=⟨some 41,Op.call { callee:=Callee.value (Operand.func 7),args:=#[Operand.tmp 38,Operand.tmp 39,Operand.tmp 40],argTypes:=#[23,33,30] },34, "law.go:136",#[ed_ 0,ed_ 1,ed_ 2],none⟩
def Oz3_8:Array Oper:=List.toArray (oz3_8_0::oz3_8_1::oz3_8_2::oz3_8_3::[])
theorem gz3_8_0:Oz3_8[0]? = some oz3_8_0:=rfl
theorem gz3_8_1:Oz3_8[1]? = some oz3_8_1:=rfl
theorem gz3_8_2:Oz3_8[2]? = some oz3_8_2:=rfl
theorem gz3_8_3:Oz3_8[3]? = some oz3_8_3:=rfl
def cz3_30:Code:=Code.region 8 Oz3_8 false
def cz3_29:Code:=Code.cond (Operand.tmp 37) cz3_30 Code.skip
def cz3_27:Code:=Code.seq cz3_28 cz3_29
def cz3_25:Code:=Code.seq cz3_26 cz3_27
def cz3_24:Code:=Code.block 1 cz3_25
def oz3_9_0:Oper:=⟨some 42,Op.binOp Go.BinOp.add 3 (Operand.tmp 31) (Operand.const (Value.int IntKind.i64 1)) 3,3, "law.go:134",#[],none⟩
def oz3_9_1:Oper:=⟨some 31,Op.move (Operand.tmp 42),3, "law.go:134",#[ed_ 0],none⟩
def Oz3_9:Array Oper:=List.toArray (oz3_9_0::oz3_9_1::[])
theorem gz3_9_0:Oz3_9[0]? = some oz3_9_0:=rfl
theorem gz3_9_1:Oz3_9[1]? = some oz3_9_1:=rfl
def cz3_32:Code:=Code.region 9 Oz3_9 false
def cz3_23:Code:=Code.seq cz3_24 cz3_32
def cz3_19:Code:=Code.seq cz3_20 cz3_23
def cz3_17:Code:=Code.seq cz3_18 cz3_19
def cz3_16:Code:=Code.loop cz3_17
def cz3_15:Code:=Code.block 0 cz3_16
def cz3_13:Code:=Code.seq cz3_14 cz3_15
def oz3_10_0:Oper:=⟨some 43,Op.move (Operand.tmp 7),23, "law.go:139",#[],none⟩
def oz3_10_1:Oper:=⟨some 44,Op.call { callee:=Callee.value (Operand.func 9),args:=#[Operand.tmp 43],argTypes:=#[23] },37, "law.go:139",#[ed_ 0],none⟩
def oz3_10_2:Oper:=⟨some 45,Op.move (Operand.tmp 2),3, "law.go:139",#[],none⟩
def oz3_10_3:Oper:=⟨some 46,Op.call { callee:=Callee.value (Operand.func 8),args:=#[Operand.tmp 44,Operand.tmp 45],argTypes:=#[37,3] },4, "law.go:139",#[ed_ 1,ed_ 2,ec_ 1],none⟩
def oz3_10_4:Oper:=⟨some 47,Op.unOp Go.UnOp.not 4 (Operand.tmp 46),4, "law.go:139",#[ed_ 3],none⟩
def Oz3_10:Array Oper:=List.toArray (oz3_10_0::oz3_10_1::oz3_10_2::oz3_10_3::oz3_10_4::[])
theorem gz3_10_0:Oz3_10[0]? = some oz3_10_0:=rfl
theorem gz3_10_1:Oz3_10[1]? = some oz3_10_1:=rfl
theorem gz3_10_2:Oz3_10[2]? = some oz3_10_2:=rfl
theorem gz3_10_3:Oz3_10[3]? = some oz3_10_3:=rfl
theorem gz3_10_4:Oz3_10[4]? = some oz3_10_4:=rfl
def cz3_35:Code:=Code.region 10 Oz3_10 false
def oz3_11_0:Oper:=⟨some 49,Op.move (Operand.tmp 7),23, "law.go:140",#[],none⟩
def oz3_11_1:Oper:=⟨some 50,Op.move (Operand.tmp 2),3, "law.go:140",#[],none⟩
def oz3_11_2:Oper:=⟨some 51,Op.call { callee:=Callee.value (Operand.func 10),args:=#[Operand.tmp 49,Operand.tmp 50],argTypes:=#[23,3] },40, "law.go:140",#[ed_ 0,ed_ 1],none⟩
def oz3_11_3:Oper:=⟨some 48,Op.move (Operand.tmp 51),40, "law.go:140",#[ed_ 2],none⟩
def oz3_11_4:Oper:=⟨some 52,Op.extract (Operand.tmp 48) 0,3, "law.go:140",#[ed_ 3],none⟩
def oz3_11_5:Oper:=⟨some 53,Op.extract (Operand.tmp 48) 1,39, "law.go:140",#[ed_ 3,{ on:=6,ground:=Go.Ground.gcOnly Go.Departure.lateStores }],none⟩
def oz3_11_6:Oper:=⟨some 10,Op.assign (Operand.tmp 52),3, "law.go:140",#[ed_ 4,ec_ 2,ep_ 0,ep_ 1,ep_ 2,ep_ 3,ep_ 4,{ on:=5,ground:=Go.Ground.textOnly Go.Departure.lateStores }],none⟩
def oz3_11_7:Oper:=⟨some 11,Op.assign (Operand.tmp 53),39, "law.go:140",#[ed_ 5,ec_ 6,ep_ 0,ep_ 1,ep_ 2,ep_ 3,ep_ 4,ep_ 5,ep_ 6],none⟩
def Oz3_11:Array Oper:=List.toArray (oz3_11_0::oz3_11_1::oz3_11_2::oz3_11_3::oz3_11_4::oz3_11_5::oz3_11_6::oz3_11_7::[])
theorem gz3_11_0:Oz3_11[0]? = some oz3_11_0:=rfl
theorem gz3_11_1:Oz3_11[1]? = some oz3_11_1:=rfl
theorem gz3_11_2:Oz3_11[2]? = some oz3_11_2:=rfl
theorem gz3_11_3:Oz3_11[3]? = some oz3_11_3:=rfl
theorem gz3_11_4:Oz3_11[4]? = some oz3_11_4:=rfl
theorem gz3_11_5:Oz3_11[5]? = some oz3_11_5:=rfl
theorem gz3_11_6:Oz3_11[6]? = some oz3_11_6:=rfl
theorem gz3_11_7:Oz3_11[7]? = some oz3_11_7:=rfl
def cz3_38:Code:=Code.region 11 Oz3_11 false
def oz3_12_0:Oper:=⟨some 54,Op.move (Operand.tmp 11),39, "law.go:141",#[],none⟩
def oz3_12_1:Oper:=⟨some 55,Op.binOp Go.BinOp.eql 39 (Operand.tmp 54) (Operand.const (Value.int IntKind.i64 140)) 39,4, "law.go:141",#[ed_ 0],none⟩
def oz3_12_2:Oper:=⟨some 56,Op.move (Operand.tmp 55),4, "law.go:141",#[ed_ 1],none⟩
def oz3_12_3:Oper:=⟨some 57,Op.move (Operand.tmp 7),23, "law.go:141",#[eg_ 2],some (2,true)⟩
def oz3_12_4:Oper:=⟨some 58,Op.move (Operand.tmp 2),3, "law.go:141",#[eg_ 2],some (2,true)⟩
def oz3_12_5:Oper:=⟨some 59,Op.call { callee:=Callee.value (Operand.func 12),args:=#[Operand.const (Value.string { data:=#[97] })],argTypes:=#[9] },28, "law.go:141",#[ec_ 2,eg_ 2],some (2,true)⟩
def oz3_12_6:Oper:=⟨some 60,Op.call { callee:=Callee.value (Operand.func 11),args:=#[Operand.tmp 57,Operand.tmp 58,Operand.tmp 59],argTypes:=#[23,3,28] },39, "law.go:141",#[ed_ 3,ed_ 4,ed_ 5,ec_ 5,eg_ 2],some (2,true)⟩
def oz3_12_7:Oper:=⟨some 61,Op.binOp Go.BinOp.eql 39 (Operand.tmp 60) (Operand.const (Value.int IntKind.i64 140)) 39,4, "law.go:141",#[ed_ 6,eg_ 2],some (2,true)⟩
def oz3_12_8:Oper:=⟨some 62,Op.pick (Operand.tmp 56) (Operand.tmp 61) (Operand.const (Value.bool false)),4, "law.go:141",#[ed_ 2,ed_ 7],none⟩
def oz3_12_9:Oper:=⟨some 63,Op.move (Operand.tmp 62),4, "law.go:141",#[ed_ 8,ec_ 6],none⟩
def oz3_12_10:Oper:=⟨some 64,Op.move (Operand.tmp 7),23, "law.go:141",#[eg_ 9],some (9,true)⟩
def oz3_12_11:Oper:=⟨some 65,Op.move (Operand.tmp 2),3, "law.go:141",#[eg_ 9],some (9,true)⟩
def oz3_12_12:Oper:=⟨some 66,Op.call { callee:=Callee.value (Operand.func 13),args:=#[Operand.tmp 64,Operand.tmp 65],argTypes:=#[23,3] },39, "law.go:141",#[ed_ 10,ed_ 11,ec_ 9,eg_ 9],some (9,true)⟩
def oz3_12_13:Oper:=⟨some 67,Op.binOp Go.BinOp.eql 39 (Operand.tmp 66) (Operand.const (Value.int IntKind.i64 140)) 39,4, "law.go:141",#[ed_ 12,eg_ 9],some (9,true)⟩
def oz3_12_14:Oper:=⟨some 68,Op.pick (Operand.tmp 63) (Operand.tmp 67) (Operand.const (Value.bool false)),4, "law.go:141",#[ed_ 9,ed_ 13],none⟩
def oz3_12_15:Oper:=⟨some 6,Op.assign (Operand.tmp 68),4, "law.go:141",#[ed_ 14,ec_ 12,ep_ 0,ep_ 1,ep_ 2,ep_ 3,ep_ 4,ep_ 5,ep_ 6,ep_ 7,ep_ 8,ep_ 9,ep_ 10,ep_ 11,ep_ 12,ep_ 13,ep_ 14],none⟩
def Oz3_12:Array Oper:=List.toArray (oz3_12_0::oz3_12_1::oz3_12_2::oz3_12_3::oz3_12_4::oz3_12_5::oz3_12_6::oz3_12_7::oz3_12_8::oz3_12_9::oz3_12_10::oz3_12_11::oz3_12_12::oz3_12_13::oz3_12_14::oz3_12_15::[])
theorem gz3_12_0:Oz3_12[0]? = some oz3_12_0:=rfl
theorem gz3_12_1:Oz3_12[1]? = some oz3_12_1:=rfl
theorem gz3_12_2:Oz3_12[2]? = some oz3_12_2:=rfl
theorem gz3_12_3:Oz3_12[3]? = some oz3_12_3:=rfl
theorem gz3_12_4:Oz3_12[4]? = some oz3_12_4:=rfl
theorem gz3_12_5:Oz3_12[5]? = some oz3_12_5:=rfl
theorem gz3_12_6:Oz3_12[6]? = some oz3_12_6:=rfl
theorem gz3_12_7:Oz3_12[7]? = some oz3_12_7:=rfl
theorem gz3_12_8:Oz3_12[8]? = some oz3_12_8:=rfl
theorem gz3_12_9:Oz3_12[9]? = some oz3_12_9:=rfl
theorem gz3_12_10:Oz3_12[10]? = some oz3_12_10:=rfl
theorem gz3_12_11:Oz3_12[11]? = some oz3_12_11:=rfl
theorem gz3_12_12:Oz3_12[12]? = some oz3_12_12:=rfl
theorem gz3_12_13:Oz3_12[13]? = some oz3_12_13:=rfl
theorem gz3_12_14:Oz3_12[14]? = some oz3_12_14:=rfl
theorem gz3_12_15:Oz3_12[15]? = some oz3_12_15:=rfl
def cz3_40:Code:=Code.region 12 Oz3_12 false
def cz3_39:Code:=Code.seq cz3_40 Code.ret
def cz3_37:Code:=Code.seq cz3_38 cz3_39
def cz3_36:Code:=Code.cond (Operand.tmp 47) cz3_37 Code.skip
def cz3_34:Code:=Code.seq cz3_35 cz3_36
def oz3_13_0:Oper:=⟨some 70,Op.move (Operand.tmp 7),23, "law.go:143",#[],none⟩
def oz3_13_1:Oper:=⟨some 71,Op.move (Operand.tmp 2),3, "law.go:143",#[],none⟩
def oz3_13_2:Oper:=⟨some 72,Op.call { callee:=Callee.value (Operand.func 10),args:=#[Operand.tmp 70,Operand.tmp 71],argTypes:=#[23,3] },40, "law.go:143",#[ed_ 0,ed_ 1],none⟩
def oz3_13_3:Oper:=⟨some 69,Op.move (Operand.tmp 72),40, "law.go:143",#[ed_ 2],none⟩
def oz3_13_4:Oper:=⟨some 73,Op.extract (Operand.tmp 69) 0,3, "law.go:143",#[ed_ 3],none⟩
def oz3_13_5:Oper:=⟨some 74,Op.extract (Operand.tmp 69) 1,39, "law.go:143",#[ed_ 3,{ on:=6,ground:=Go.Ground.gcOnly Go.Departure.lateStores }],none⟩
def oz3_13_6:Oper:=⟨some 12,Op.assign (Operand.tmp 73),3, "law.go:143",#[ed_ 4,ec_ 2,ep_ 0,ep_ 1,ep_ 2,ep_ 3,ep_ 4,{ on:=5,ground:=Go.Ground.textOnly Go.Departure.lateStores }],none⟩
def oz3_13_7:Oper:=⟨some 13,Op.assign (Operand.tmp 74),39, "law.go:143",#[ed_ 5,ec_ 6,ep_ 0,ep_ 1,ep_ 2,ep_ 3,ep_ 4,ep_ 5,ep_ 6],none⟩
def Oz3_13:Array Oper:=List.toArray (oz3_13_0::oz3_13_1::oz3_13_2::oz3_13_3::oz3_13_4::oz3_13_5::oz3_13_6::oz3_13_7::[])
theorem gz3_13_0:Oz3_13[0]? = some oz3_13_0:=rfl
theorem gz3_13_1:Oz3_13[1]? = some oz3_13_1:=rfl
theorem gz3_13_2:Oz3_13[2]? = some oz3_13_2:=rfl
theorem gz3_13_3:Oz3_13[3]? = some oz3_13_3:=rfl
theorem gz3_13_4:Oz3_13[4]? = some oz3_13_4:=rfl
theorem gz3_13_5:Oz3_13[5]? = some oz3_13_5:=rfl
theorem gz3_13_6:Oz3_13[6]? = some oz3_13_6:=rfl
theorem gz3_13_7:Oz3_13[7]? = some oz3_13_7:=rfl
def cz3_44:Code:=Code.region 13 Oz3_13 false
def oz3_14_0:Oper:=⟨some 75,Op.move (Operand.tmp 1),22, "law.go:144",#[],none⟩
def oz3_14_1:Oper:=⟨some 76,Op.call { callee:=Callee.builtin Go.Builtin.len,args:=#[Operand.tmp 75],argTypes:=#[22] },3, "law.go:144",#[ed_ 0],none⟩
def oz3_14_2:Oper:=⟨some 77,Op.move (Operand.const (Value.int IntKind.i64 0)),3, "law.go:144",#[],none⟩
def Oz3_14:Array Oper:=List.toArray (oz3_14_0::oz3_14_1::oz3_14_2::[])
theorem gz3_14_0:Oz3_14[0]? = some oz3_14_0:=rfl
theorem gz3_14_1:Oz3_14[1]? = some oz3_14_1:=rfl
theorem gz3_14_2:Oz3_14[2]? = some oz3_14_2:=rfl
def cz3_47:Code:=Code.region 14 Oz3_14 false
def oz3_15_0:Oper:=⟨some 78,Op.binOp Go.BinOp.lss 3 (Operand.tmp 77) (Operand.tmp 76) 3,0, "law.go:144",#[],none⟩
def Oz3_15:Array Oper:=List.toArray (oz3_15_0::[])
theorem gz3_15_0:Oz3_15[0]? = some oz3_15_0:=rfl
def cz3_51:Code:=Code.region 15 Oz3_15 false
def cz3_55:Code:=Code.exit 2
def cz3_53:Code:=Code.cond (Operand.tmp 78) Code.skip cz3_55
def oz3_16_0:Oper:=⟨some 79,Op.indexAddr 22 (Operand.tmp 75) (Operand.tmp 77),0, "law.go:144",#[],none⟩
def oz3_16_1:Oper:=⟨some 80,Op.load 30 (Operand.tmp 79),30, "law.go:144",#[ed_ 0],none⟩
def oz3_16_2:Oper:=⟨some 15,Op.alloc 30,0, "law.go:144",#[],none⟩
def oz3_16_3:Oper:=⟨none,Op.store 30 (Operand.tmp 15) (Operand.tmp 80),0, "law.go:144",#[ed_ 2,ed_ 1,ep_ 0,ep_ 1,ep_ 2],none⟩
def Oz3_16:Array Oper:=List.toArray (oz3_16_0::oz3_16_1::oz3_16_2::oz3_16_3::[])
theorem gz3_16_0:Oz3_16[0]? = some oz3_16_0:=rfl
theorem gz3_16_1:Oz3_16[1]? = some oz3_16_1:=rfl
theorem gz3_16_2:Oz3_16[2]? = some oz3_16_2:=rfl
theorem gz3_16_3:Oz3_16[3]? = some oz3_16_3:=rfl
def cz3_59:Code:=Code.region 16 Oz3_16 false
def oz3_17_0:Oper:=⟨some 81,Op.fieldAddr 30 (Operand.tmp 15) 1,0, "law.go:145",#[],none⟩
def oz3_17_1:Oper:=⟨some 82,Op.load 3 (Operand.tmp 81),3, "law.go:145",#[ed_ 0],none⟩
def oz3_17_2:Oper:=⟨some 83,Op.move (Operand.tmp 2),3, "law.go:145",#[],none⟩
def oz3_17_3:Oper:=⟨some 84,Op.binOp Go.BinOp.neq 3 (Operand.tmp 82) (Operand.tmp 83) 3,4, "law.go:145",#[ed_ 1,ed_ 2],none⟩
def oz3_17_4:Oper:=⟨some 85,Op.move (Operand.tmp 84),4, "law.go:145",#[ed_ 3],none⟩
def oz3_17_5:Oper:=⟨some 86,Op.fieldAddr 30 (Operand.tmp 15) 3,0, "law.go:145",#[eg_ 4],some (4,true)⟩
def oz3_17_6:Oper:=⟨some 87,Op.load 28 (Operand.tmp 86),28, "law.go:145",#[ed_ 5,eg_ 4],some (4,true)⟩
def oz3_17_7:Oper:=⟨some 88,Op.call { callee:=Callee.value (Operand.func 6),args:=#[Operand.tmp 87],argTypes:=#[28] },4, "law.go:145",#[ed_ 6,ec_ 4,eg_ 4],some (4,true)⟩
def oz3_17_8:Oper:=⟨some 89,Op.pick (Operand.tmp 85) (Operand.tmp 88) (Operand.const (Value.bool false)),4, "law.go:145",#[ed_ 4,ed_ 7],none⟩
def Oz3_17:Array Oper:=List.toArray (oz3_17_0::oz3_17_1::oz3_17_2::oz3_17_3::oz3_17_4::oz3_17_5::oz3_17_6::oz3_17_7::oz3_17_8::[])
theorem gz3_17_0:Oz3_17[0]? = some oz3_17_0:=rfl
theorem gz3_17_1:Oz3_17[1]? = some oz3_17_1:=rfl
theorem gz3_17_2:Oz3_17[2]? = some oz3_17_2:=rfl
theorem gz3_17_3:Oz3_17[3]? = some oz3_17_3:=rfl
theorem gz3_17_4:Oz3_17[4]? = some oz3_17_4:=rfl
theorem gz3_17_5:Oz3_17[5]? = some oz3_17_5:=rfl
theorem gz3_17_6:Oz3_17[6]? = some oz3_17_6:=rfl
theorem gz3_17_7:Oz3_17[7]? = some oz3_17_7:=rfl
theorem gz3_17_8:Oz3_17[8]? = some oz3_17_8:=rfl
def cz3_61:Code:=Code.region 17 Oz3_17 false
def oz3_18_0:Oper:=⟨some 90,Op.move (Operand.tmp 7),23, "law.go:146",#[],none⟩
def oz3_18_1:Oper:=⟨some 91,Op.buildSlice 33 0 #[],33, "law.go:146",#[],none⟩
def oz3_18_2:Oper:=⟨some 92,Op.load 30 (Operand.tmp 15),30, "law.go:146",#[],none⟩
def oz3_18_3:Oper:=⟨some 93,Op.call { callee:=Callee.value (Operand.func 7),args:=#[Operand.tmp 90,Operand.tmp 91,Operand.tmp 92],argTypes:=#[23,33,30] },34, "law.go:146",#[ed_ 0,ed_ 1,ed_ 2],none⟩
def Oz3_18:Array Oper:=List.toArray (oz3_18_0::oz3_18_1::oz3_18_2::oz3_18_3::[])
theorem gz3_18_0:Oz3_18[0]? = some oz3_18_0:=rfl
theorem gz3_18_1:Oz3_18[1]? = some oz3_18_1:=rfl
theorem gz3_18_2:Oz3_18[2]? = some oz3_18_2:=rfl
theorem gz3_18_3:Oz3_18[3]? = some oz3_18_3:=rfl
def cz3_63:Code:=Code.region 18 Oz3_18 false
def cz3_62:Code:=Code.cond (Operand.tmp 89) cz3_63 Code.skip
def cz3_60:Code:=Code.seq cz3_61 cz3_62
def cz3_58:Code:=Code.seq cz3_59 cz3_60
def cz3_57:Code:=Code.block 3 cz3_58
def oz3_19_0:Oper:=⟨some 94,Op.binOp Go.BinOp.add 3 (Operand.tmp 77) (Operand.const (Value.int IntKind.i64 1)) 3,3, "law.go:144",#[],none⟩
def oz3_19_1:Oper:=⟨some 77,Op.move (Operand.tmp 94),3, "law.go:144",#[ed_ 0],none⟩
def Oz3_19:Array Oper:=List.toArray (oz3_19_0::oz3_19_1::[])
theorem gz3_19_0:Oz3_19[0]? = some oz3_19_0:=rfl
theorem gz3_19_1:Oz3_19[1]? = some oz3_19_1:=rfl
def cz3_65:Code:=Code.region 19 Oz3_19 false
def cz3_56:Code:=Code.seq cz3_57 cz3_65
def cz3_52:Code:=Code.seq cz3_53 cz3_56
def cz3_50:Code:=Code.seq cz3_51 cz3_52
def cz3_49:Code:=Code.loop cz3_50
def cz3_48:Code:=Code.block 2 cz3_49
def cz3_46:Code:=Code.seq cz3_47 cz3_48
def oz3_20_0:Oper:=⟨some 96,Op.move (Operand.tmp 7),23, "law.go:149",#[],none⟩
def oz3_20_1:Oper:=⟨some 97,Op.move (Operand.tmp 2),3, "law.go:149",#[],none⟩
def oz3_20_2:Oper:=⟨some 98,Op.call { callee:=Callee.value (Operand.func 10),args:=#[Operand.tmp 96,Operand.tmp 97],argTypes:=#[23,3] },40, "law.go:149",#[ed_ 0,ed_ 1],none⟩
def oz3_20_3:Oper:=⟨some 95,Op.move (Operand.tmp 98),40, "law.go:149",#[ed_ 2],none⟩
def oz3_20_4:Oper:=⟨some 99,Op.extract (Operand.tmp 95) 0,3, "law.go:149",#[ed_ 3],none⟩
def oz3_20_5:Oper:=⟨some 100,Op.extract (Operand.tmp 95) 1,39, "law.go:149",#[ed_ 3,{ on:=6,ground:=Go.Ground.gcOnly Go.Departure.lateStores }],none⟩
def oz3_20_6:Oper:=⟨some 16,Op.assign (Operand.tmp 99),3, "law.go:149",#[ed_ 4,ec_ 2,ep_ 0,ep_ 1,ep_ 2,ep_ 3,ep_ 4,{ on:=5,ground:=Go.Ground.textOnly Go.Departure.lateStores }],none⟩
def oz3_20_7:Oper:=⟨some 17,Op.assign (Operand.tmp 100),39, "law.go:149",#[ed_ 5,ec_ 6,ep_ 0,ep_ 1,ep_ 2,ep_ 3,ep_ 4,ep_ 5,ep_ 6],none⟩
def Oz3_20:Array Oper:=List.toArray (oz3_20_0::oz3_20_1::oz3_20_2::oz3_20_3::oz3_20_4::oz3_20_5::oz3_20_6::oz3_20_7::[])
theorem gz3_20_0:Oz3_20[0]? = some oz3_20_0:=rfl
theorem gz3_20_1:Oz3_20[1]? = some oz3_20_1:=rfl
theorem gz3_20_2:Oz3_20[2]? = some oz3_20_2:=rfl
theorem gz3_20_3:Oz3_20[3]? = some oz3_20_3:=rfl
theorem gz3_20_4:Oz3_20[4]? = some oz3_20_4:=rfl
theorem gz3_20_5:Oz3_20[5]? = some oz3_20_5:=rfl
theorem gz3_20_6:Oz3_20[6]? = some oz3_20_6:=rfl
theorem gz3_20_7:Oz3_20[7]? = some oz3_20_7:=rfl
def cz3_67:Code:=Code.region 20 Oz3_20 false
def oz3_21_0:Oper:=⟨some 101,Op.move (Operand.tmp 17),39, "law.go:150",#[],none⟩
def oz3_21_1:Oper:=⟨some 102,Op.binOp Go.BinOp.neq 39 (Operand.tmp 101) (Operand.const (Value.int IntKind.i64 0)) 39,4, "law.go:150",#[ed_ 0],none⟩
def oz3_21_2:Oper:=⟨some 103,Op.move (Operand.tmp 102),4, "law.go:150",#[ed_ 1],none⟩
def oz3_21_3:Oper:=⟨some 104,Op.move (Operand.tmp 16),3, "law.go:150",#[eg_ 2],some (2,false)⟩
def oz3_21_4:Oper:=⟨some 105,Op.move (Operand.tmp 12),3, "law.go:150",#[eg_ 2],some (2,false)⟩
def oz3_21_5:Oper:=⟨some 106,Op.binOp Go.BinOp.neq 3 (Operand.tmp 104) (Operand.tmp 105) 3,4, "law.go:150",#[ed_ 3,ed_ 4,eg_ 2],some (2,false)⟩
def oz3_21_6:Oper:=⟨some 107,Op.pick (Operand.tmp 103) (Operand.const (Value.bool true)) (Operand.tmp 106),4, "law.go:150",#[ed_ 2,ed_ 5],none⟩
def oz3_21_7:Oper:=⟨some 108,Op.move (Operand.tmp 107),4, "law.go:150",#[ed_ 6,ec_ 2],none⟩
def oz3_21_8:Oper:=⟨some 109,Op.move (Operand.tmp 7),23, "law.go:150",#[eg_ 7],some (7,false)⟩
def oz3_21_9:Oper:=⟨some 110,Op.move (Operand.tmp 2),3, "law.go:150",#[eg_ 7],some (7,false)⟩
def oz3_21_10:Oper:=⟨some 111,Op.call { callee:=Callee.value (Operand.func 13),args:=#[Operand.tmp 109,Operand.tmp 110],argTypes:=#[23,3] },39, "law.go:150",#[ed_ 8,ed_ 9,ec_ 7,eg_ 7],some (7,false)⟩
def oz3_21_11:Oper:=⟨some 112,Op.binOp Go.BinOp.neq 39 (Operand.tmp 111) (Operand.const (Value.int IntKind.i64 0)) 39,4, "law.go:150",#[ed_ 10,eg_ 7],some (7,false)⟩
def oz3_21_12:Oper:=⟨some 113,Op.pick (Operand.tmp 108) (Operand.const (Value.bool true)) (Operand.tmp 112),4, "law.go:150",#[ed_ 7,ed_ 11],none⟩
def Oz3_21:Array Oper:=List.toArray (oz3_21_0::oz3_21_1::oz3_21_2::oz3_21_3::oz3_21_4::oz3_21_5::oz3_21_6::oz3_21_7::oz3_21_8::oz3_21_9::oz3_21_10::oz3_21_11::oz3_21_12::[])
theorem gz3_21_0:Oz3_21[0]? = some oz3_21_0:=rfl
theorem gz3_21_1:Oz3_21[1]? = some oz3_21_1:=rfl
theorem gz3_21_2:Oz3_21[2]? = some oz3_21_2:=rfl
theorem gz3_21_3:Oz3_21[3]? = some oz3_21_3:=rfl
theorem gz3_21_4:Oz3_21[4]? = some oz3_21_4:=rfl
theorem gz3_21_5:Oz3_21[5]? = some oz3_21_5:=rfl
theorem gz3_21_6:Oz3_21[6]? = some oz3_21_6:=rfl
theorem gz3_21_7:Oz3_21[7]? = some oz3_21_7:=rfl
theorem gz3_21_8:Oz3_21[8]? = some oz3_21_8:=rfl
theorem gz3_21_9:Oz3_21[9]? = some oz3_21_9:=rfl
theorem gz3_21_10:Oz3_21[10]? = some oz3_21_10:=rfl
theorem gz3_21_11:Oz3_21[11]? = some oz3_21_11:=rfl
theorem gz3_21_12:Oz3_21[12]? = some oz3_21_12:=rfl
def cz3_70:Code:=Code.region 21 Oz3_21 false
def oz3_22_0:Oper:=⟨some 6,Op.assign (Operand.const (Value.bool false)),4, "law.go:151",#[],none⟩
def Oz3_22:Array Oper:=List.toArray (oz3_22_0::[])
def cz3_73:Code:=Code.region 22 Oz3_22 false
def cz3_72:Code:=Code.seq cz3_73 Code.ret
def cz3_71:Code:=Code.cond (Operand.tmp 113) cz3_72 Code.skip
def cz3_69:Code:=Code.seq cz3_70 cz3_71
def oz3_23_0:Oper:=⟨some 115,Op.move (Operand.tmp 7),23, "law.go:153",#[],none⟩
def oz3_23_1:Oper:=⟨some 116,Op.call { callee:=Callee.value (Operand.func 14),args:=#[Operand.tmp 115,Operand.const (Value.int IntKind.i64 3)],argTypes:=#[23,3] },40, "law.go:153",#[ed_ 0],none⟩
def oz3_23_2:Oper:=⟨some 114,Op.move (Operand.tmp 116),40, "law.go:153",#[ed_ 1],none⟩
def oz3_23_3:Oper:=⟨some 117,Op.extract (Operand.tmp 114) 0,3, "law.go:153",#[ed_ 2],none⟩
def oz3_23_4:Oper:=⟨some 118,Op.extract (Operand.tmp 114) 1,39, "law.go:153",#[ed_ 2,{ on:=5,ground:=Go.Ground.gcOnly Go.Departure.lateStores }],none⟩
def oz3_23_5:Oper:=⟨some 18,Op.assign (Operand.tmp 117),3, "law.go:153",#[ed_ 3,ec_ 1,ep_ 0,ep_ 1,ep_ 2,ep_ 3,{ on:=4,ground:=Go.Ground.textOnly Go.Departure.lateStores }],none⟩
def oz3_23_6:Oper:=⟨some 19,Op.assign (Operand.tmp 118),39, "law.go:153",#[ed_ 4,ec_ 5,ep_ 0,ep_ 1,ep_ 2,ep_ 3,ep_ 4,ep_ 5],none⟩
def Oz3_23:Array Oper:=List.toArray (oz3_23_0::oz3_23_1::oz3_23_2::oz3_23_3::oz3_23_4::oz3_23_5::oz3_23_6::[])
theorem gz3_23_0:Oz3_23[0]? = some oz3_23_0:=rfl
theorem gz3_23_1:Oz3_23[1]? = some oz3_23_1:=rfl
theorem gz3_23_2:Oz3_23[2]? = some oz3_23_2:=rfl
theorem gz3_23_3:Oz3_23[3]? = some oz3_23_3:=rfl
theorem gz3_23_4:Oz3_23[4]? = some oz3_23_4:=rfl
theorem gz3_23_5:Oz3_23[5]? = some oz3_23_5:=rfl
theorem gz3_23_6:Oz3_23[6]? = some oz3_23_6:=rfl
def cz3_77:Code:=Code.region 23 Oz3_23 false
def oz3_24_0:Oper:=⟨some 120,Op.move (Operand.tmp 7),23, "law.go:154",#[],none⟩
def oz3_24_1:Oper:=⟨some 121,Op.move (Operand.tmp 2),3, "law.go:154",#[],none⟩
def oz3_24_2:Oper:=⟨some 122,Op.call { callee:=Callee.value (Operand.func 10),args:=#[Operand.tmp 120,Operand.tmp 121],argTypes:=#[23,3] },40, "law.go:154",#[ed_ 0,ed_ 1],none⟩
def oz3_24_3:Oper:=⟨some 119,Op.move (Operand.tmp 122),40, "law.go:154",#[ed_ 2],none⟩
def oz3_24_4:Oper:=⟨some 123,Op.extract (Operand.tmp 119) 0,3, "law.go:154",#[ed_ 3],none⟩
def oz3_24_5:Oper:=⟨some 124,Op.extract (Operand.tmp 119) 1,39, "law.go:154",#[ed_ 3,{ on:=6,ground:=Go.Ground.gcOnly Go.Departure.lateStores }],none⟩
def oz3_24_6:Oper:=⟨some 20,Op.assign (Operand.tmp 123),3, "law.go:154",#[ed_ 4,ec_ 2,ep_ 0,ep_ 1,ep_ 2,ep_ 3,ep_ 4,{ on:=5,ground:=Go.Ground.textOnly Go.Departure.lateStores }],none⟩
def oz3_24_7:Oper:=⟨some 21,Op.assign (Operand.tmp 124),39, "law.go:154",#[ed_ 5,ec_ 6,ep_ 0,ep_ 1,ep_ 2,ep_ 3,ep_ 4,ep_ 5,ep_ 6],none⟩
def Oz3_24:Array Oper:=List.toArray (oz3_24_0::oz3_24_1::oz3_24_2::oz3_24_3::oz3_24_4::oz3_24_5::oz3_24_6::oz3_24_7::[])
theorem gz3_24_0:Oz3_24[0]? = some oz3_24_0:=rfl
theorem gz3_24_1:Oz3_24[1]? = some oz3_24_1:=rfl
theorem gz3_24_2:Oz3_24[2]? = some oz3_24_2:=rfl
theorem gz3_24_3:Oz3_24[3]? = some oz3_24_3:=rfl
theorem gz3_24_4:Oz3_24[4]? = some oz3_24_4:=rfl
theorem gz3_24_5:Oz3_24[5]? = some oz3_24_5:=rfl
theorem gz3_24_6:Oz3_24[6]? = some oz3_24_6:=rfl
theorem gz3_24_7:Oz3_24[7]? = some oz3_24_7:=rfl
def cz3_79:Code:=Code.region 24 Oz3_24 false
def oz3_25_0:Oper:=⟨some 125,Op.move (Operand.tmp 19),39, "law.go:155",#[],none⟩
def oz3_25_1:Oper:=⟨some 126,Op.binOp Go.BinOp.eql 39 (Operand.tmp 125) (Operand.const (Value.int IntKind.i64 0)) 39,4, "law.go:155",#[ed_ 0],none⟩
def oz3_25_2:Oper:=⟨some 127,Op.move (Operand.tmp 126),4, "law.go:155",#[ed_ 1],none⟩
def oz3_25_3:Oper:=⟨some 128,Op.move (Operand.tmp 18),3, "law.go:155",#[eg_ 2],some (2,true)⟩
def oz3_25_4:Oper:=⟨some 129,Op.move (Operand.tmp 2),3, "law.go:155",#[eg_ 2],some (2,true)⟩
def oz3_25_5:Oper:=⟨some 130,Op.binOp Go.BinOp.gtr 3 (Operand.tmp 128) (Operand.tmp 129) 3,4, "law.go:155",#[ed_ 3,ed_ 4,eg_ 2],some (2,true)⟩
def oz3_25_6:Oper:=⟨some 131,Op.pick (Operand.tmp 127) (Operand.tmp 130) (Operand.const (Value.bool false)),4, "law.go:155",#[ed_ 2,ed_ 5],none⟩
def oz3_25_7:Oper:=⟨some 132,Op.move (Operand.tmp 131),4, "law.go:155",#[ed_ 6,ec_ 2],none⟩
def oz3_25_8:Oper:=⟨some 133,Op.move (Operand.tmp 21),39, "law.go:155",#[eg_ 7],some (7,true)⟩
def oz3_25_9:Oper:=⟨some 134,Op.binOp Go.BinOp.eql 39 (Operand.tmp 133) (Operand.const (Value.int IntKind.i64 140)) 39,4, "law.go:155",#[ed_ 8,eg_ 7],some (7,true)⟩
def oz3_25_10:Oper:=⟨some 135,Op.pick (Operand.tmp 132) (Operand.tmp 134) (Operand.const (Value.bool false)),4, "law.go:155",#[ed_ 7,ed_ 9],none⟩
def oz3_25_11:Oper:=⟨some 6,Op.assign (Operand.tmp 135),4, "law.go:155",#[ed_ 10,ec_ 7,ep_ 0,ep_ 1,ep_ 2,ep_ 3,ep_ 4,ep_ 5,ep_ 6,ep_ 7,ep_ 8,ep_ 9,ep_ 10],none⟩
def Oz3_25:Array Oper:=List.toArray (oz3_25_0::oz3_25_1::oz3_25_2::oz3_25_3::oz3_25_4::oz3_25_5::oz3_25_6::oz3_25_7::oz3_25_8::oz3_25_9::oz3_25_10::oz3_25_11::[])
theorem gz3_25_0:Oz3_25[0]? = some oz3_25_0:=rfl
theorem gz3_25_1:Oz3_25[1]? = some oz3_25_1:=rfl
theorem gz3_25_2:Oz3_25[2]? = some oz3_25_2:=rfl
theorem gz3_25_3:Oz3_25[3]? = some oz3_25_3:=rfl
theorem gz3_25_4:Oz3_25[4]? = some oz3_25_4:=rfl
theorem gz3_25_5:Oz3_25[5]? = some oz3_25_5:=rfl
theorem gz3_25_6:Oz3_25[6]? = some oz3_25_6:=rfl
theorem gz3_25_7:Oz3_25[7]? = some oz3_25_7:=rfl
theorem gz3_25_8:Oz3_25[8]? = some oz3_25_8:=rfl
theorem gz3_25_9:Oz3_25[9]? = some oz3_25_9:=rfl
theorem gz3_25_10:Oz3_25[10]? = some oz3_25_10:=rfl
theorem gz3_25_11:Oz3_25[11]? = some oz3_25_11:=rfl
def cz3_81:Code:=Code.region 25 Oz3_25 false
def cz3_80:Code:=Code.seq cz3_81 Code.ret
def cz3_78:Code:=Code.seq cz3_79 cz3_80
def cz3_76:Code:=Code.seq cz3_77 cz3_78
def cz3_68:Code:=Code.seq cz3_69 cz3_76
def cz3_66:Code:=Code.seq cz3_67 cz3_68
def cz3_45:Code:=Code.seq cz3_46 cz3_66
def cz3_43:Code:=Code.seq cz3_44 cz3_45
def cz3_33:Code:=Code.seq cz3_34 cz3_43
def cz3_12:Code:=Code.seq cz3_13 cz3_33
def cz3_4:Code:=Code.seq cz3_5 cz3_12
def cz3_2:Code:=Code.seq cz3_3 cz3_4
def cz3_0:Code:=Code.seq cz3_1 cz3_2
theorem enz3_29:Enters Tryz.prog 10:=enters_of Tryz.func10 (by kernel_rfl) rfl
theorem enz3_58:Enters Tryz.prog 9:=enters_of Tryz.func9 (by kernel_rfl) rfl
theorem enz3_59:Enters Tryz.prog 13:=enters_of Tryz.func13 (by kernel_rfl) rfl
theorem enz3_1006:Enters Tryz.prog 6:=enters_of Tryz.func6 (by kernel_rfl) rfl
theorem enz3_1008:Enters Tryz.prog 8:=enters_of Tryz.func8 (by kernel_rfl) rfl
theorem bodyz3:Tryz.f3.body=some cz3_0:=by kernel_rfl
set_option maxRecDepth 100000 in
set_option maxHeartbeats 4000000 in
theorem apart_w {W:World} {sc mc:Nat} {sa ma:Option Addr} {us vs:List OP} {kq:Int} {f0:Act} {w0:World} (R:FrS 136 f0) (h0:f0.tmps[0]? = some (.slice sa us.length sc)) (h1:f0.tmps[1]? = some (.slice ma vs.length mc)) (h2:f0.tmps[2]? = some (.int .i64 kq)) (K1:Keep (fun g=>g < W.heap.size) W w0)  (HUS:Hid (OSl W.heap.size W sa us)) (HVS:Hid (OSl W.heap.size W ma vs)) (HLU:Hid (us.length ≤ 1152921504606846975)) (HLM:Hid (vs.length ≤ 1152921504606846975)) (HK:Hid ((ik kq).wf=true)):cz3_0.wp Tryz.prog (bodyPost Tryz.prog Tryz.f3 (fun e w'=>e=.returned (.bool true)∧Keep (fun g=>g < W.heap.size) W w')) f0 w0:=by
 refine wp_seq (x:=cz3_1) (y:=cz3_2) ?_
 change (Code.region 0 Oz3_0 false).wp _ _ _ _
 refine reg_in (l:=[0]) rfl ?_
 have F:FE_ _ [] f0 f0:=⟨R,Ag_.refl _⟩;clear R
 have Y:(execOp f0.eval oz3_0_0).run Tryz.prog w0=.ok (.value (.bool false)) w0:=by unfold oz3_0_0;go_simp
 refine sv_ gz3_0_0 Y fun a101 e=>?_;clear Y
 have h6:=pt_ F e;replace F:=pu_ F e;clear e
 refine st_end ?_
 replace h0:=F.of h0;replace h1:=F.of h1;replace h2:=F.of h2;have R:=F.r;clear F
 change (cz3_2).wp _ _ _ _
 refine wp_seq (x:=cz3_3) (y:=cz3_4) ?_
 change (Code.region 1 Oz3_1 false).wp _ _ _ _
 refine reg_in (l:=[0,1]) rfl ?_
 have F:FE_ _ [] a101 a101:=⟨R,Ag_.refl _⟩;clear R
 have Y:(execOp a101.eval oz3_1_0).run Tryz.prog w0=.ok (.enter 4 #[]) w0:=by unfold oz3_1_0;go_simp
 obtain ⟨BB,hBB⟩:∃ q,q=w0.heap.size:=⟨_,rfl⟩;have HWB:W.heap.size ≤ BB:=by rw [hBB];exact K1.size
 have hcall:=new_any w0
 refine st_call gz3_1_0 rfl (wanted_free rfl) Y ((hcall).mono ?_);clear Y
 rintro e9 w102 ⟨pa,mb,rfl,hpo,kk⟩
 replace K1:=keep_onto K1 kk
 clear kk
 clear hcall;rw [← hBB] at hpo;clear hBB;have HPO:=Lib.hid hpo;clear hpo
 have KP:=Keep.refl (fun g=>g < w102.heap.size) w102
 refine ⟨_,rfl,fun a103 e=>?_⟩
 have h22:=pt_ F e;replace F:=pu_ F e;clear e
 refine sv_ gz3_1_1 (ya_ rfl h22) fun a104 e=>?_
 clear h22;have h7:=pt_ F e;replace F:=pu_ F e;clear e
 refine st_end ?_
 replace h0:=F.of h0;replace h1:=F.of h1;replace h2:=F.of h2;replace h6:=F.of h6;have R:=F.r;clear F
 change (cz3_4).wp _ _ _ _
 refine wp_seq (x:=cz3_5) (y:=cz3_12) ?_
 refine wp_seq (x:=cz3_6) (y:=cz3_7) ?_
 change (Code.region 2 Oz3_2 false).wp _ _ _ _
 refine reg_in (l:=[0,1,2,3,4,5]) rfl ?_
 have F:FE_ _ [] a104 a104:=⟨R,Ag_.refl _⟩;clear R
 refine sv_ gz3_2_0 (ym_ rfl (F.of h7)) fun a105 e=>?_
 have h23:=pt_ F e;replace F:=pu_ F e;clear e
 have Y:(execOp a105.eval oz3_2_1).run Tryz.prog w102=.ok (.value (.bool false)) w102:=by unfold oz3_2_1;go_simp
 refine sv_ gz3_2_1 Y fun a106 e=>?_;clear Y
 clear h23;have h24:=pt_ F e;replace F:=pu_ F e;clear e
 refine sv_ gz3_2_2 (ym_ rfl h24) fun a107 e=>?_
 clear h24;have h25:=pt_ F e;replace F:=pu_ F e;clear e
 have Y:(execOp a107.eval oz3_2_3).run Tryz.prog w102=.ok (.enter 5 #[]) w102:=by unfold oz3_2_3;go_simp
 refine st_call gz3_2_3 rfl (wanted_is (j:=2) (d:=25) rfl rfl h25 rfl) Y ((palive_any w102).mono ?_);clear Y
 rintro e9 w108 ⟨rfl,kk⟩
 replace K1:=keep_onto K1 kk
 replace KP:=keep_onto KP kk
 clear kk
 refine ⟨_,rfl,fun a109 e=>?_⟩
 have h26:=pt_ F e;replace F:=pu_ F e;replace h25:=so_ e h25;clear e
 have Y:(execOp a109.eval oz3_2_4).run Tryz.prog w108=.ok (.value (.bool false)) w108:=by unfold oz3_2_4;go_simp
 refine st_val gz3_2_4 rfl (wanted_is (j:=2) (d:=25) rfl rfl h25 rfl) Y fun a110 e=>?_;clear Y
 clear h26;have h27:=pt_ F e;replace F:=pu_ F e;replace h25:=so_ e h25;clear e
 have Y:(execOp a110.eval oz3_2_5).run Tryz.prog w108=.ok (.value (.bool false)) w108:=by unfold oz3_2_5;go_simp
 refine sv_ gz3_2_5 Y fun a111 e=>?_;clear Y
 clear h25 h27;have h28:=pt_ F e;replace F:=pu_ F e;clear e
 refine st_end ?_
 replace h0:=F.of h0;replace h1:=F.of h1;replace h2:=F.of h2;replace h6:=F.of h6;replace h7:=F.of h7;have R:=F.r;clear F
 change (cz3_7).wp _ _ _ _
 refine wp_cond_false (x:=cz3_8) (y:=Code.skip) (eval_slot h28) ?_
 refine wp_skip ?_
 change (cz3_12).wp _ _ _ _
 refine wp_seq (x:=cz3_13) (y:=cz3_33) ?_
 refine wp_seq (x:=cz3_14) (y:=cz3_15) ?_
 change (Code.region 4 Oz3_4 false).wp _ _ _ _
 refine reg_in (l:=[0,1,2]) rfl ?_
 have F:FE_ _ [] a111 a111:=⟨R,Ag_.refl _⟩;clear R
 refine sv_ gz3_4_0 (ym_ rfl (F.of h0)) fun a112 e=>?_
 have h29:=pt_ F e;replace F:=pu_ F e;clear e
 have Y:(execOp a112.eval oz3_4_1).run Tryz.prog w108=.ok (.value (.int .i64 us.length)) w108:=by unfold oz3_4_1;go_simp
 refine sv_ gz3_4_1 Y fun a113 e=>?_;clear Y
 have h30:=pt_ F e;replace F:=pu_ F e;replace h29:=so_ e h29;clear e
 have Y:(execOp a113.eval oz3_4_2).run Tryz.prog w108=.ok (.value (.int .i64 0)) w108:=by unfold oz3_4_2;go_simp
 refine sv_ gz3_4_2 Y fun a114 e=>?_;clear Y
 have h31:=pt_ F e;replace F:=pu_ F e;replace h29:=so_ e h29;replace h30:=so_ e h30;clear e
 refine st_end ?_
 clear h0;replace h1:=F.of h1;replace h2:=F.of h2;replace h6:=F.of h6;replace h7:=F.of h7;clear h28;have R:=F.r;clear F
 change (cz3_15).wp _ _ _ _
 refine wp_block (id:=0) (c:=cz3_16) ?_
 have HPR:=Lib.hid (HPO.out.on KP);clear HPO KP;have HPO:=HPR;clear HPR
 refine wp_loop_ghost (c:=cz3_17) (fun n fX wX=>∃ j:Nat,∃ RR:Nat→Prop,∃ md:Int,∃ ff:Int→Option Qu,∃ nq:Nat,n=us.length - j∧FrS 136 fX∧fX.tmps[1]? = some (.slice ma vs.length mc)∧fX.tmps[2]? = some (.int .i64 kq)∧fX.tmps[6]? = some (.bool false)∧fX.tmps[7]? = some (.pointer (some ⟨pa,0,none⟩))∧fX.tmps[29]? = some (.slice sa us.length sc)∧fX.tmps[30]? = some (.int .i64 us.length)∧fX.tmps[31]? = some (.int .i64 (j:Int))∧Keep (fun g=>g < W.heap.size) W wX∧j ≤ us.length∧Hid (PoAt BB RR wX pa mb md ff nq)∧Hid (md ≤ (j:Int))) (us.length - 0) ⟨0,_,_,_,_,rfl,R,h1,h2,h6,h7,h29,h30,h31,K1,Nat.zero_le _,HPO,(Lib.hid (by decide))⟩ ?_
 clear R h1 h2 h6 h7 h29 h30 h31 K1
 rintro n117 a115 w116 ⟨j,RR,md,ff,nq,rfl,R,h1,h2,h6,h7,h29,h30,h31,K1,hj,HPO,HMD⟩
 have KP:=Keep.refl (fun g=>g < w116.heap.size) w116
 refine wp_seq (x:=cz3_18) (y:=cz3_19) ?_
 change (Code.region 5 Oz3_5 false).wp _ _ _ _
 refine reg_in (l:=[0]) rfl ?_
 have F:FE_ _ [] a115 a115:=⟨R,Ag_.refl _⟩;clear R
 obtain ⟨b118,hb118⟩:∃ x,(decide ((j:Int) < (us.length:Int)))=x:=⟨_,rfl⟩
 have Y:(execOp a115.eval oz3_5_0).run Tryz.prog w116=.ok (.value (.bool b118)) w116:=by have r30:=F.of h30;have r31:=F.of h31;rw [← hb118];unfold oz3_5_0;go_simp
 refine sv_ gz3_5_0 Y fun a119 e=>?_;clear Y
 have h32:=pt_ F e;replace F:=pu_ F e;clear e
 refine st_end ?_
 replace h1:=F.of h1;replace h2:=F.of h2;replace h6:=F.of h6;replace h7:=F.of h7;replace h29:=F.of h29;replace h30:=F.of h30;replace h31:=F.of h31;have R:=F.r;clear F
 change (cz3_19).wp _ _ _ _
 refine wp_seq (x:=cz3_20) (y:=cz3_23) ?_
 cases b118 with
 | false =>
  have fb118:=hb118;clear hb118
  simp only [decide_eq_true_eq,decide_eq_false_iff_not,bne_iff_ne,bne_eq_false_iff_eq,beq_iff_eq,beq_eq_false_iff_ne,ne_eq,Bool.not_eq_true',Bool.not_eq_false',Bool.not_eq_eq_eq_not,Bool.not_true,Bool.not_false] at fb118
  refine wp_cond_false (x:=Code.skip) (y:=cz3_22) (eval_slot h32) ?_
  refine wp_exit ?_
  change (cz3_33).wp _ _ _ _
  refine wp_seq (x:=cz3_34) (y:=cz3_43) ?_
  refine wp_seq (x:=cz3_35) (y:=cz3_36) ?_
  change (Code.region 10 Oz3_10 false).wp _ _ _ _
  refine reg_in (l:=[0,1,2,3,4]) rfl ?_
  have F:FE_ _ [] a119 a119:=⟨R,Ag_.refl _⟩;clear R
  refine sv_ gz3_10_0 (ym_ rfl (F.of h7)) fun a120 e=>?_
  have h43:=pt_ F e;replace F:=pu_ F e;clear e
  have hcall:=queues_in (HPO.out.on KP)
  refine st_call gz3_10_1 rfl (wanted_free rfl) (yc1_ enz3_58 rfl h43) ((hcall).mono ?_)
  rintro e9 w121 ⟨qa,qc,ks,rfl,hks,hkl,hkm,kk⟩
  replace K1:=keep_onto K1 kk
  replace KP:=keep_onto KP kk
  clear hcall;have HKS:=Lib.hid hks;have HKM:=Lib.hid hkm;have HKL:=Lib.hid hkl;clear hks hkm hkl
  clear kk
  refine ⟨_,rfl,fun a122 e=>?_⟩
  clear h43;have h44:=pt_ F e;replace F:=pu_ F e;clear e
  refine sv_ gz3_10_2 (ym_ rfl (F.of h2)) fun a123 e=>?_
  have h45:=pt_ F e;replace F:=pu_ F e;replace h44:=so_ e h44;clear e
  obtain ⟨hb9,hhb⟩:∃ q,amongZ ks kq=q:=⟨_,rfl⟩;have hcall:=has_k (c:=qc) HKS.out HKL.out kq;rw [hhb] at hcall
  refine st_call gz3_10_3 rfl (wanted_free rfl) (yc2_ enz3_1008 rfl h44 h45) ((hcall).mono ?_)
  rintro e9 w124 ⟨rfl,kk⟩
  replace K1:=keep_onto K1 kk
  replace KP:=keep_onto KP kk
  clear hcall
  clear kk
  refine ⟨_,rfl,fun a125 e=>?_⟩
  clear h44 h45;have h46:=pt_ F e;replace F:=pu_ F e;clear e
  cases hb9 with
  | false =>
   have Y:(execOp a125.eval oz3_10_4).run Tryz.prog w124=.ok (.value (.bool true)) w124:=by unfold oz3_10_4;go_simp
   refine sv_ gz3_10_4 Y fun a126 e=>?_;clear Y
   clear h46;have h47:=pt_ F e;replace F:=pu_ F e;clear e
   refine st_end ?_
   replace h1:=F.of h1;replace h2:=F.of h2;replace h6:=F.of h6;replace h7:=F.of h7;replace h29:=F.of h29;replace h30:=F.of h30;replace h31:=F.of h31;replace h32:=F.of h32;have R:=F.r;clear F
   change (cz3_36).wp _ _ _ _
   refine wp_cond_true (x:=cz3_37) (y:=Code.skip) (eval_slot h47) ?_
   refine wp_seq (x:=cz3_38) (y:=cz3_39) ?_
   change (Code.region 11 Oz3_11 false).wp _ _ _ _
   refine reg_in (l:=[0,1,2,3,4,5,6,7]) rfl ?_
   have F:FE_ _ [] a126 a126:=⟨R,Ag_.refl _⟩;clear R
   refine sv_ gz3_11_0 (ym_ rfl (F.of h7)) fun a127 e=>?_
   have h49:=pt_ F e;replace F:=pu_ F e;clear e
   refine sv_ gz3_11_1 (ym_ rfl (F.of h2)) fun a128 e=>?_
   have h50:=pt_ F e;replace F:=pu_ F e;replace h49:=so_ e h49;clear e
   have hcall:=len_no (HPO.out.on KP) HK.out (not_in HKM.out hhb)
   refine st_call gz3_11_2 rfl (wanted_free rfl) (yc2_ enz3_29 rfl h49 h50) ((hcall).mono ?_)
   rintro e9 w129 ⟨rfl,kk⟩
   replace K1:=keep_onto K1 kk
   replace KP:=keep_onto KP kk
   clear hcall
   clear kk
   refine ⟨_,rfl,fun a130 e=>?_⟩
   clear h49 h50;have h51:=pt_ F e;replace F:=pu_ F e;clear e
   refine sv_ gz3_11_3 (ym_ rfl h51) fun a131 e=>?_
   clear h51;have h48:=pt_ F e;replace F:=pu_ F e;clear e
   refine sv_ gz3_11_4 (ye20_ rfl h48) fun a132 e=>?_
   have h52:=pt_ F e;replace F:=pu_ F e;replace h48:=so_ e h48;clear e
   refine sv_ gz3_11_5 (ye21_ rfl h48) fun a133 e=>?_
   clear h48;have h53:=pt_ F e;replace F:=pu_ F e;replace h52:=so_ e h52;clear e
   refine sv_ gz3_11_6 (ya_ rfl h52) fun a134 e=>?_
   clear h52;replace F:=pu_ F e;replace h53:=so_ e h53;clear e
   refine sv_ gz3_11_7 (ya_ rfl h53) fun a135 e=>?_
   clear h53;have h11:=pt_ F e;replace F:=pu_ F e;clear e
   refine st_end ?_
   replace h1:=F.of h1;replace h2:=F.of h2;replace h6:=F.of h6;replace h7:=F.of h7;replace h29:=F.of h29;replace h30:=F.of h30;replace h31:=F.of h31;replace h32:=F.of h32;clear h47;have R:=F.r;clear F
   change (cz3_39).wp _ _ _ _
   refine wp_seq (x:=cz3_40) (y:=Code.ret) ?_
   change (Code.region 12 Oz3_12 false).wp _ _ _ _
   refine reg_in (l:=[0,1,2,3,4,5,6,7,8,9,10,11,12,13,14,15]) rfl ?_
   have F:FE_ _ [] a135 a135:=⟨R,Ag_.refl _⟩;clear R
   refine sv_ gz3_12_0 (ym_ rfl (F.of h11)) fun a136 e=>?_
   have h54:=pt_ F e;replace F:=pu_ F e;clear e
   have Y:(execOp a136.eval oz3_12_1).run Tryz.prog w129=.ok (.value (.bool true)) w129:=by unfold oz3_12_1;go_simp
   refine sv_ gz3_12_1 Y fun a137 e=>?_;clear Y
   clear h54;have h55:=pt_ F e;replace F:=pu_ F e;clear e
   refine sv_ gz3_12_2 (ym_ rfl h55) fun a138 e=>?_
   clear h55;have h56:=pt_ F e;replace F:=pu_ F e;clear e
   refine st_val gz3_12_3 rfl (wanted_is (j:=2) (d:=56) rfl rfl h56 rfl) (ym_ rfl (F.of h7)) fun a139 e=>?_
   have h57:=pt_ F e;replace F:=pu_ F e;replace h56:=so_ e h56;clear e
   refine st_val gz3_12_4 rfl (wanted_is (j:=2) (d:=56) rfl rfl h56 rfl) (ym_ rfl (F.of h2)) fun a140 e=>?_
   have h58:=pt_ F e;replace F:=pu_ F e;replace h56:=so_ e h56;replace h57:=so_ e h57;clear e
   have Y:(execOp a140.eval oz3_12_5).run Tryz.prog w129=.ok (.enter 12 #[.string (⟨#[97]⟩)]) w129:=by unfold oz3_12_5;go_simp
   have hc9:Calls Tryz.prog 12 #[.string (⟨#[97]⟩)] w129 (fun e w'=>e=.returned (.agg #[.int .i64 3,.string (⟨#[97]⟩),.int .i64 0,.slice none 0 0])∧Keep (fun g=>g < w129.heap.size) w129 w'):=refA_any w129 [97]
   refine st_call gz3_12_5 rfl (wanted_is (j:=2) (d:=56) rfl rfl h56 rfl) Y ((hc9).mono ?_);clear Y
   rintro e9 w141 ⟨rfl,kk⟩
   replace K1:=keep_onto K1 kk
   replace KP:=keep_onto KP kk
   clear hc9
   clear kk
   refine ⟨_,rfl,fun a142 e=>?_⟩
   have h59:=pt_ F e;replace F:=pu_ F e;replace h56:=so_ e h56;replace h57:=so_ e h57;replace h58:=so_ e h58;clear e
   have Y:(execOp a142.eval oz3_12_6).run Tryz.prog w141=.ok (.enter 11 #[.pointer (some ⟨pa,0,none⟩),.int .i64 kq,.agg #[.int .i64 3,.string (⟨#[97]⟩),.int .i64 0,.slice none 0 0]]) w141:=by unfold oz3_12_6;go_simp
   have hcall:=send_no (t:=.node 3 [97] 0 []) (er:=140) (HPO.out.on KP) HK.out (tm_A (by decide)) (.inl ⟨not_in HKM.out hhb,rfl⟩)
   refine st_call gz3_12_6 rfl (wanted_is (j:=2) (d:=56) rfl rfl h56 rfl) Y ((hcall).mono ?_);clear Y
   rintro e9 w143 ⟨rfl,kk⟩
   replace K1:=keep_onto K1 kk
   replace KP:=keep_onto KP kk
   clear hcall
   clear kk
   refine ⟨_,rfl,fun a144 e=>?_⟩
   clear h57 h58 h59;have h60:=pt_ F e;replace F:=pu_ F e;replace h56:=so_ e h56;clear e
   have Y:(execOp a144.eval oz3_12_7).run Tryz.prog w143=.ok (.value (.bool true)) w143:=by unfold oz3_12_7;go_simp
   refine st_val gz3_12_7 rfl (wanted_is (j:=2) (d:=56) rfl rfl h56 rfl) Y fun a145 e=>?_;clear Y
   clear h60;have h61:=pt_ F e;replace F:=pu_ F e;replace h56:=so_ e h56;clear e
   have Y:(execOp a145.eval oz3_12_8).run Tryz.prog w143=.ok (.value (.bool true)) w143:=by unfold oz3_12_8;go_simp
   refine sv_ gz3_12_8 Y fun a146 e=>?_;clear Y
   clear h56 h61;have h62:=pt_ F e;replace F:=pu_ F e;clear e
   refine sv_ gz3_12_9 (ym_ rfl h62) fun a147 e=>?_
   clear h62;have h63:=pt_ F e;replace F:=pu_ F e;clear e
   refine st_val gz3_12_10 rfl (wanted_is (j:=9) (d:=63) rfl rfl h63 rfl) (ym_ rfl (F.of h7)) fun a148 e=>?_
   have h64:=pt_ F e;replace F:=pu_ F e;replace h63:=so_ e h63;clear e
   refine st_val gz3_12_11 rfl (wanted_is (j:=9) (d:=63) rfl rfl h63 rfl) (ym_ rfl (F.of h2)) fun a149 e=>?_
   have h65:=pt_ F e;replace F:=pu_ F e;replace h63:=so_ e h63;replace h64:=so_ e h64;clear e
   have hcall:=drop_no (HPO.out.on KP) HK.out (not_in HKM.out hhb)
   refine st_call gz3_12_12 rfl (wanted_is (j:=9) (d:=63) rfl rfl h63 rfl) (yc2_ enz3_59 rfl h64 h65) ((hcall).mono ?_)
   rintro e9 w150 ⟨rfl,kk⟩
   replace K1:=keep_onto K1 kk
   replace KP:=keep_onto KP kk
   clear hcall
   clear kk
   refine ⟨_,rfl,fun a151 e=>?_⟩
   clear h64 h65;have h66:=pt_ F e;replace F:=pu_ F e;replace h63:=so_ e h63;clear e
   have Y:(execOp a151.eval oz3_12_13).run Tryz.prog w150=.ok (.value (.bool true)) w150:=by unfold oz3_12_13;go_simp
   refine st_val gz3_12_13 rfl (wanted_is (j:=9) (d:=63) rfl rfl h63 rfl) Y fun a152 e=>?_;clear Y
   clear h66;have h67:=pt_ F e;replace F:=pu_ F e;replace h63:=so_ e h63;clear e
   have Y:(execOp a152.eval oz3_12_14).run Tryz.prog w150=.ok (.value (.bool true)) w150:=by unfold oz3_12_14;go_simp
   refine sv_ gz3_12_14 Y fun a153 e=>?_;clear Y
   clear h63 h67;have h68:=pt_ F e;replace F:=pu_ F e;clear e
   refine sv_ gz3_12_15 (ya_ rfl h68) fun a154 e=>?_
   clear h68 h6;have h6:=pt_ F e;replace F:=pu_ F e;clear e
   refine st_end ?_
   replace h1:=F.of h1;replace h2:=F.of h2;replace h7:=F.of h7;clear h11;replace h29:=F.of h29;replace h30:=F.of h30;replace h31:=F.of h31;replace h32:=F.of h32;have R:=F.r;clear F
   change (Code.ret).wp _ _ _ _
   refine wp_ret ?_
   change bodyPost Tryz.prog Tryz.f3 (fun e w'=>e=.returned (.bool true)∧Keep (fun g=>g < W.heap.size) W w') .ret a154 w150
   refine ret_one rfl R h6 ?_
   exact ⟨rfl,K1⟩
  | true =>
   have Y:(execOp a125.eval oz3_10_4).run Tryz.prog w124=.ok (.value (.bool false)) w124:=by unfold oz3_10_4;go_simp
   refine sv_ gz3_10_4 Y fun a155 e=>?_;clear Y
   clear h46;have h47:=pt_ F e;replace F:=pu_ F e;clear e
   refine st_end ?_
   replace h1:=F.of h1;replace h2:=F.of h2;replace h6:=F.of h6;replace h7:=F.of h7;replace h29:=F.of h29;replace h30:=F.of h30;replace h31:=F.of h31;replace h32:=F.of h32;have R:=F.r;clear F
   change (cz3_36).wp _ _ _ _
   refine wp_cond_false (x:=cz3_37) (y:=Code.skip) (eval_slot h47) ?_
   refine wp_skip ?_
   change (cz3_43).wp _ _ _ _
   refine wp_seq (x:=cz3_44) (y:=cz3_45) ?_
   change (Code.region 13 Oz3_13 false).wp _ _ _ _
   refine reg_in (l:=[0,1,2,3,4,5,6,7]) rfl ?_
   have F:FE_ _ [] a155 a155:=⟨R,Ag_.refl _⟩;clear R
   refine sv_ gz3_13_0 (ym_ rfl (F.of h7)) fun a156 e=>?_
   have h70:=pt_ F e;replace F:=pu_ F e;clear e
   refine sv_ gz3_13_1 (ym_ rfl (F.of h2)) fun a157 e=>?_
   have h71:=pt_ F e;replace F:=pu_ F e;replace h70:=so_ e h70;clear e
   obtain ⟨q9,hq9⟩:=is_in HKM.out hhb;obtain ⟨L0,hL0⟩:∃ z:Nat,q9.ps.length=z:=⟨_,rfl⟩;have HQ:Hid ((ff kq).map (fun q=>q.ps.length)=some L0):=Lib.hid (by rw [hq9,← hL0];rfl);have hcall:=len_yes (HPO.out.on KP) HK.out hq9;rw [hL0] at hcall
   refine st_call gz3_13_2 rfl (wanted_free rfl) (yc2_ enz3_29 rfl h70 h71) ((hcall).mono ?_)
   rintro e9 w158 ⟨rfl,kk⟩
   replace K1:=keep_onto K1 kk
   replace KP:=keep_onto KP kk
   clear hcall hq9 hL0 q9 hhb HKM HKS HKL
   clear kk
   refine ⟨_,rfl,fun a159 e=>?_⟩
   clear h70 h71;have h72:=pt_ F e;replace F:=pu_ F e;clear e
   refine sv_ gz3_13_3 (ym_ rfl h72) fun a160 e=>?_
   clear h72;have h69:=pt_ F e;replace F:=pu_ F e;clear e
   refine sv_ gz3_13_4 (ye20_ rfl h69) fun a161 e=>?_
   have h73:=pt_ F e;replace F:=pu_ F e;replace h69:=so_ e h69;clear e
   refine sv_ gz3_13_5 (ye21_ rfl h69) fun a162 e=>?_
   clear h69;have h74:=pt_ F e;replace F:=pu_ F e;replace h73:=so_ e h73;clear e
   refine sv_ gz3_13_6 (ya_ rfl h73) fun a163 e=>?_
   clear h73;have h12:=pt_ F e;replace F:=pu_ F e;replace h74:=so_ e h74;clear e
   refine sv_ gz3_13_7 (ya_ rfl h74) fun a164 e=>?_
   clear h74;replace F:=pu_ F e;replace h12:=so_ e h12;clear e
   refine st_end ?_
   replace h1:=F.of h1;replace h2:=F.of h2;replace h6:=F.of h6;replace h7:=F.of h7;replace h29:=F.of h29;replace h30:=F.of h30;replace h31:=F.of h31;replace h32:=F.of h32;clear h47;have R:=F.r;clear F
   change (cz3_45).wp _ _ _ _
   refine wp_seq (x:=cz3_46) (y:=cz3_66) ?_
   refine wp_seq (x:=cz3_47) (y:=cz3_48) ?_
   change (Code.region 14 Oz3_14 false).wp _ _ _ _
   refine reg_in (l:=[0,1,2]) rfl ?_
   have F:FE_ _ [] a164 a164:=⟨R,Ag_.refl _⟩;clear R
   refine sv_ gz3_14_0 (ym_ rfl (F.of h1)) fun a165 e=>?_
   have h75:=pt_ F e;replace F:=pu_ F e;clear e
   have Y:(execOp a165.eval oz3_14_1).run Tryz.prog w158=.ok (.value (.int .i64 vs.length)) w158:=by unfold oz3_14_1;go_simp
   refine sv_ gz3_14_1 Y fun a166 e=>?_;clear Y
   have h76:=pt_ F e;replace F:=pu_ F e;replace h75:=so_ e h75;clear e
   have Y:(execOp a166.eval oz3_14_2).run Tryz.prog w158=.ok (.value (.int .i64 0)) w158:=by unfold oz3_14_2;go_simp
   refine sv_ gz3_14_2 Y fun a167 e=>?_;clear Y
   have h77:=pt_ F e;replace F:=pu_ F e;replace h75:=so_ e h75;replace h76:=so_ e h76;clear e
   refine st_end ?_
   clear h1;replace h2:=F.of h2;replace h6:=F.of h6;replace h7:=F.of h7;replace h12:=F.of h12;replace h29:=F.of h29;replace h30:=F.of h30;replace h31:=F.of h31;replace h32:=F.of h32;have R:=F.r;clear F
   change (cz3_48).wp _ _ _ _
   refine wp_block (id:=2) (c:=cz3_49) ?_
   have HPR:=Lib.hid (HPO.out.on KP);clear HPO KP;have HPO:=HPR;clear HPR
   refine wp_loop_ghost (c:=cz3_50) (fun n fX wX=>∃ i:Nat,∃ RS:Nat→Prop,∃ me:Int,∃ fg:Int→Option Qu,∃ nr:Nat,n=vs.length - i∧FrS 136 fX∧fX.tmps[2]? = some (.int .i64 kq)∧fX.tmps[6]? = some (.bool false)∧fX.tmps[7]? = some (.pointer (some ⟨pa,0,none⟩))∧fX.tmps[12]? = some (.int .i64 (L0:Int))∧fX.tmps[29]? = some (.slice sa us.length sc)∧fX.tmps[30]? = some (.int .i64 us.length)∧fX.tmps[31]? = some (.int .i64 (j:Int))∧fX.tmps[32]? = some (.bool false)∧fX.tmps[75]? = some (.slice ma vs.length mc)∧fX.tmps[76]? = some (.int .i64 vs.length)∧fX.tmps[77]? = some (.int .i64 (i:Int))∧Keep (fun g=>g < W.heap.size) W wX∧i ≤ vs.length∧Hid (PoAt BB RS wX pa mb me fg nr)∧Hid (me ≤ (us.length:Int) + (i:Int))∧Hid ((fg kq).map (fun q=>q.ps.length)=some L0)) (vs.length - 0) ⟨0,_,_,_,_,rfl,R,h2,h6,h7,h12,h29,h30,h31,h32,h75,h76,h77,K1,Nat.zero_le _,HPO,(Lib.hid (by have:=HMD.out;omega)),HQ⟩ ?_
   clear R h2 h6 h7 h12 h29 h30 h31 h32 h75 h76 h77 K1
   rintro n170 a168 w169 ⟨i,RS,me,fg,nr,rfl,R,h2,h6,h7,h12,h29,h30,h31,h32,h75,h76,h77,K1,hi,HPO,HME,HQ⟩
   have KP:=Keep.refl (fun g=>g < w169.heap.size) w169
   refine wp_seq (x:=cz3_51) (y:=cz3_52) ?_
   change (Code.region 15 Oz3_15 false).wp _ _ _ _
   refine reg_in (l:=[0]) rfl ?_
   have F:FE_ _ [] a168 a168:=⟨R,Ag_.refl _⟩;clear R
   obtain ⟨b171,hb171⟩:∃ x,(decide ((i:Int) < (vs.length:Int)))=x:=⟨_,rfl⟩
   have Y:(execOp a168.eval oz3_15_0).run Tryz.prog w169=.ok (.value (.bool b171)) w169:=by have r76:=F.of h76;have r77:=F.of h77;rw [← hb171];unfold oz3_15_0;go_simp
   refine sv_ gz3_15_0 Y fun a172 e=>?_;clear Y
   have h78:=pt_ F e;replace F:=pu_ F e;clear e
   refine st_end ?_
   replace h2:=F.of h2;replace h6:=F.of h6;replace h7:=F.of h7;replace h12:=F.of h12;replace h29:=F.of h29;replace h30:=F.of h30;replace h31:=F.of h31;replace h32:=F.of h32;replace h75:=F.of h75;replace h76:=F.of h76;replace h77:=F.of h77;have R:=F.r;clear F
   change (cz3_52).wp _ _ _ _
   refine wp_seq (x:=cz3_53) (y:=cz3_56) ?_
   cases b171 with
   | false =>
    have fb171:=hb171;clear hb171
    simp only [decide_eq_true_eq,decide_eq_false_iff_not,bne_iff_ne,bne_eq_false_iff_eq,beq_iff_eq,beq_eq_false_iff_ne,ne_eq,Bool.not_eq_true',Bool.not_eq_false',Bool.not_eq_eq_eq_not,Bool.not_true,Bool.not_false] at fb171
    refine wp_cond_false (x:=Code.skip) (y:=cz3_55) (eval_slot h78) ?_
    refine wp_exit ?_
    change (cz3_66).wp _ _ _ _
    refine wp_seq (x:=cz3_67) (y:=cz3_68) ?_
    change (Code.region 20 Oz3_20 false).wp _ _ _ _
    refine reg_in (l:=[0,1,2,3,4,5,6,7]) rfl ?_
    have F:FE_ _ [] a172 a172:=⟨R,Ag_.refl _⟩;clear R
    refine sv_ gz3_20_0 (ym_ rfl (F.of h7)) fun a173 e=>?_
    have h96:=pt_ F e;replace F:=pu_ F e;clear e
    refine sv_ gz3_20_1 (ym_ rfl (F.of h2)) fun a174 e=>?_
    have h97:=pt_ F e;replace F:=pu_ F e;replace h96:=so_ e h96;clear e
    obtain ⟨q9,hq9,hl9⟩:=Option.map_eq_some_iff.1 HQ.out;have hcall:=len_yes (HPO.out.on KP) HK.out hq9;rw [show q9.ps.length=L0 from hl9] at hcall
    refine st_call gz3_20_2 rfl (wanted_free rfl) (yc2_ enz3_29 rfl h96 h97) ((hcall).mono ?_)
    rintro e9 w175 ⟨rfl,kk⟩
    replace K1:=keep_onto K1 kk
    replace KP:=keep_onto KP kk
    clear hcall hq9 hl9 q9
    clear kk
    refine ⟨_,rfl,fun a176 e=>?_⟩
    clear h96 h97;have h98:=pt_ F e;replace F:=pu_ F e;clear e
    refine sv_ gz3_20_3 (ym_ rfl h98) fun a177 e=>?_
    clear h98;have h95:=pt_ F e;replace F:=pu_ F e;clear e
    refine sv_ gz3_20_4 (ye20_ rfl h95) fun a178 e=>?_
    have h99:=pt_ F e;replace F:=pu_ F e;replace h95:=so_ e h95;clear e
    refine sv_ gz3_20_5 (ye21_ rfl h95) fun a179 e=>?_
    clear h95;have h100:=pt_ F e;replace F:=pu_ F e;replace h99:=so_ e h99;clear e
    refine sv_ gz3_20_6 (ya_ rfl h99) fun a180 e=>?_
    clear h99;have h16:=pt_ F e;replace F:=pu_ F e;replace h100:=so_ e h100;clear e
    refine sv_ gz3_20_7 (ya_ rfl h100) fun a181 e=>?_
    clear h100;have h17:=pt_ F e;replace F:=pu_ F e;replace h16:=so_ e h16;clear e
    refine st_end ?_
    replace h2:=F.of h2;replace h6:=F.of h6;replace h7:=F.of h7;replace h12:=F.of h12;replace h29:=F.of h29;replace h30:=F.of h30;replace h31:=F.of h31;replace h32:=F.of h32;replace h75:=F.of h75;replace h76:=F.of h76;replace h77:=F.of h77;replace h78:=F.of h78;have R:=F.r;clear F
    change (cz3_68).wp _ _ _ _
    refine wp_seq (x:=cz3_69) (y:=cz3_76) ?_
    refine wp_seq (x:=cz3_70) (y:=cz3_71) ?_
    change (Code.region 21 Oz3_21 false).wp _ _ _ _
    refine reg_in (l:=[0,1,2,3,4,5,6,7,8,9,10,11,12]) rfl ?_
    have F:FE_ _ [] a181 a181:=⟨R,Ag_.refl _⟩;clear R
    refine sv_ gz3_21_0 (ym_ rfl (F.of h17)) fun a182 e=>?_
    have h101:=pt_ F e;replace F:=pu_ F e;clear e
    have Y:(execOp a182.eval oz3_21_1).run Tryz.prog w175=.ok (.value (.bool false)) w175:=by unfold oz3_21_1;go_simp
    refine sv_ gz3_21_1 Y fun a183 e=>?_;clear Y
    clear h101;have h102:=pt_ F e;replace F:=pu_ F e;clear e
    refine sv_ gz3_21_2 (ym_ rfl h102) fun a184 e=>?_
    clear h102;have h103:=pt_ F e;replace F:=pu_ F e;clear e
    refine st_val gz3_21_3 rfl (wanted_is (j:=2) (d:=103) rfl rfl h103 rfl) (ym_ rfl (F.of h16)) fun a185 e=>?_
    have h104:=pt_ F e;replace F:=pu_ F e;replace h103:=so_ e h103;clear e
    refine st_val gz3_21_4 rfl (wanted_is (j:=2) (d:=103) rfl rfl h103 rfl) (ym_ rfl (F.of h12)) fun a186 e=>?_
    have h105:=pt_ F e;replace F:=pu_ F e;replace h103:=so_ e h103;replace h104:=so_ e h104;clear e
    have Y:(execOp a186.eval oz3_21_5).run Tryz.prog w175=.ok (.value (.bool false)) w175:=by unfold oz3_21_5;go_simp
    refine st_val gz3_21_5 rfl (wanted_is (j:=2) (d:=103) rfl rfl h103 rfl) Y fun a187 e=>?_;clear Y
    clear h104 h105;have h106:=pt_ F e;replace F:=pu_ F e;replace h103:=so_ e h103;clear e
    have Y:(execOp a187.eval oz3_21_6).run Tryz.prog w175=.ok (.value (.bool false)) w175:=by unfold oz3_21_6;go_simp
    refine sv_ gz3_21_6 Y fun a188 e=>?_;clear Y
    clear h103 h106;have h107:=pt_ F e;replace F:=pu_ F e;clear e
    refine sv_ gz3_21_7 (ym_ rfl h107) fun a189 e=>?_
    clear h107;have h108:=pt_ F e;replace F:=pu_ F e;clear e
    refine st_val gz3_21_8 rfl (wanted_is (j:=7) (d:=108) rfl rfl h108 rfl) (ym_ rfl (F.of h7)) fun a190 e=>?_
    have h109:=pt_ F e;replace F:=pu_ F e;replace h108:=so_ e h108;clear e
    refine st_val gz3_21_9 rfl (wanted_is (j:=7) (d:=108) rfl rfl h108 rfl) (ym_ rfl (F.of h2)) fun a191 e=>?_
    have h110:=pt_ F e;replace F:=pu_ F e;replace h108:=so_ e h108;replace h109:=so_ e h109;clear e
    obtain ⟨q9,hq9,-⟩:=Option.map_eq_some_iff.1 HQ.out;have hkm9:=(HPO.out.num.2 kq q9 hq9).2;have hcall:=drop_any (HPO.out.on KP) HK.out hq9
    refine st_call gz3_21_10 rfl (wanted_is (j:=7) (d:=108) rfl rfl h108 rfl) (yc2_ enz3_59 rfl h109 h110) ((hcall).mono ?_)
    rintro e9 w192 ⟨rfl,hpo,kf⟩
    replace K1:=K1.trans (kf.less fun g hg=>⟨Nat.lt_of_lt_of_le hg K1.size,fun h=>absurd (HPO.out.rb g h).1 (Nat.not_le.2 (Nat.lt_of_lt_of_le hg HWB))⟩);clear KP
    have kk:=trivial
    have HNR:Hid (nr - 1 < 8):=Lib.hid (by have:=HPO.out.few;omega);have HKQ9:=Lib.hid hkm9
    clear hcall HPO kf hq9 hkm9;have HPO:=Lib.hid hpo;clear hpo
    clear kk
    have KP:=Keep.refl (fun g=>g < w192.heap.size) w192
    refine ⟨_,rfl,fun a193 e=>?_⟩
    clear h109 h110;have h111:=pt_ F e;replace F:=pu_ F e;replace h108:=so_ e h108;clear e
    have Y:(execOp a193.eval oz3_21_11).run Tryz.prog w192=.ok (.value (.bool false)) w192:=by unfold oz3_21_11;go_simp
    refine st_val gz3_21_11 rfl (wanted_is (j:=7) (d:=108) rfl rfl h108 rfl) Y fun a194 e=>?_;clear Y
    clear h111;have h112:=pt_ F e;replace F:=pu_ F e;replace h108:=so_ e h108;clear e
    have Y:(execOp a194.eval oz3_21_12).run Tryz.prog w192=.ok (.value (.bool false)) w192:=by unfold oz3_21_12;go_simp
    refine sv_ gz3_21_12 Y fun a195 e=>?_;clear Y
    clear h108 h112;have h113:=pt_ F e;replace F:=pu_ F e;clear e
    refine st_end ?_
    replace h2:=F.of h2;replace h6:=F.of h6;replace h7:=F.of h7;clear h12;clear h16;clear h17;replace h29:=F.of h29;replace h30:=F.of h30;replace h31:=F.of h31;replace h32:=F.of h32;replace h75:=F.of h75;replace h76:=F.of h76;replace h77:=F.of h77;replace h78:=F.of h78;have R:=F.r;clear F
    change (cz3_71).wp _ _ _ _
    refine wp_cond_false (x:=cz3_72) (y:=Code.skip) (eval_slot h113) ?_
    refine wp_skip ?_
    change (cz3_76).wp _ _ _ _
    refine wp_seq (x:=cz3_77) (y:=cz3_78) ?_
    change (Code.region 23 Oz3_23 false).wp _ _ _ _
    refine reg_in (l:=[0,1,2,3,4,5,6]) rfl ?_
    have F:FE_ _ [] a195 a195:=⟨R,Ag_.refl _⟩;clear R
    refine sv_ gz3_23_0 (ym_ rfl (F.of h7)) fun a196 e=>?_
    have h115:=pt_ F e;replace F:=pu_ F e;clear e
    have Y:(execOp a196.eval oz3_23_1).run Tryz.prog w192=.ok (.enter 14 #[.pointer (some ⟨pa,0,none⟩),.int .i64 3]) w192:=by unfold oz3_23_1;go_simp
    have hcall:=make_any (most:=3) (HPO.out.on KP) HNR.out (by have h1:=HME.out;have h2:=HLU.out;have h3:=HLM.out;omega)
    refine st_call gz3_23_1 rfl (wanted_free rfl) Y ((hcall).mono ?_);clear Y
    rintro e9 w197 ⟨R3,gq,rfl,hpo,hRR,hgq,kf⟩
    replace K1:=K1.trans (kf.less fun g hg=>⟨Nat.lt_of_lt_of_le hg K1.size,fun h=>absurd (HPO.out.rb g h).1 (Nat.not_le.2 (Nat.lt_of_lt_of_le hg HWB))⟩);clear KP
    have kk:=trivial
    clear hcall HPO kf hRR hgq;have HPO:=Lib.hid hpo;clear hpo
    clear kk
    have KP:=Keep.refl (fun g=>g < w197.heap.size) w197
    refine ⟨_,rfl,fun a198 e=>?_⟩
    clear h115;have h116:=pt_ F e;replace F:=pu_ F e;clear e
    refine sv_ gz3_23_2 (ym_ rfl h116) fun a199 e=>?_
    clear h116;have h114:=pt_ F e;replace F:=pu_ F e;clear e
    refine sv_ gz3_23_3 (ye20_ rfl h114) fun a200 e=>?_
    have h117:=pt_ F e;replace F:=pu_ F e;replace h114:=so_ e h114;clear e
    refine sv_ gz3_23_4 (ye21_ rfl h114) fun a201 e=>?_
    clear h114;have h118:=pt_ F e;replace F:=pu_ F e;replace h117:=so_ e h117;clear e
    refine sv_ gz3_23_5 (ya_ rfl h117) fun a202 e=>?_
    clear h117;have h18:=pt_ F e;replace F:=pu_ F e;replace h118:=so_ e h118;clear e
    refine sv_ gz3_23_6 (ya_ rfl h118) fun a203 e=>?_
    clear h118;have h19:=pt_ F e;replace F:=pu_ F e;replace h18:=so_ e h18;clear e
    refine st_end ?_
    replace h2:=F.of h2;replace h6:=F.of h6;replace h7:=F.of h7;replace h29:=F.of h29;replace h30:=F.of h30;replace h31:=F.of h31;replace h32:=F.of h32;replace h75:=F.of h75;replace h76:=F.of h76;replace h77:=F.of h77;replace h78:=F.of h78;clear h113;have R:=F.r;clear F
    change (cz3_78).wp _ _ _ _
    refine wp_seq (x:=cz3_79) (y:=cz3_80) ?_
    change (Code.region 24 Oz3_24 false).wp _ _ _ _
    refine reg_in (l:=[0,1,2,3,4,5,6,7]) rfl ?_
    have F:FE_ _ [] a203 a203:=⟨R,Ag_.refl _⟩;clear R
    refine sv_ gz3_24_0 (ym_ rfl (F.of h7)) fun a204 e=>?_
    have h120:=pt_ F e;replace F:=pu_ F e;clear e
    refine sv_ gz3_24_1 (ym_ rfl (F.of h2)) fun a205 e=>?_
    have h121:=pt_ F e;replace F:=pu_ F e;replace h120:=so_ e h120;clear e
    have hcall:=len_no (k:=kq) (HPO.out.on KP) HK.out (by show (if kq=me + 1 then _ else if kq=kq then none else fg kq)=none;rw [if_neg (by have:=HKQ9.out;omega),if_pos rfl])
    refine st_call gz3_24_2 rfl (wanted_free rfl) (yc2_ enz3_29 rfl h120 h121) ((hcall).mono ?_)
    rintro e9 w206 ⟨rfl,kk⟩
    replace K1:=keep_onto K1 kk
    replace KP:=keep_onto KP kk
    clear hcall
    clear kk
    refine ⟨_,rfl,fun a207 e=>?_⟩
    clear h120 h121;have h122:=pt_ F e;replace F:=pu_ F e;clear e
    refine sv_ gz3_24_3 (ym_ rfl h122) fun a208 e=>?_
    clear h122;have h119:=pt_ F e;replace F:=pu_ F e;clear e
    refine sv_ gz3_24_4 (ye20_ rfl h119) fun a209 e=>?_
    have h123:=pt_ F e;replace F:=pu_ F e;replace h119:=so_ e h119;clear e
    refine sv_ gz3_24_5 (ye21_ rfl h119) fun a210 e=>?_
    clear h119;have h124:=pt_ F e;replace F:=pu_ F e;replace h123:=so_ e h123;clear e
    refine sv_ gz3_24_6 (ya_ rfl h123) fun a211 e=>?_
    clear h123;replace F:=pu_ F e;replace h124:=so_ e h124;clear e
    refine sv_ gz3_24_7 (ya_ rfl h124) fun a212 e=>?_
    clear h124;have h21:=pt_ F e;replace F:=pu_ F e;clear e
    refine st_end ?_
    replace h2:=F.of h2;replace h6:=F.of h6;replace h7:=F.of h7;replace h18:=F.of h18;replace h19:=F.of h19;replace h29:=F.of h29;replace h30:=F.of h30;replace h31:=F.of h31;replace h32:=F.of h32;replace h75:=F.of h75;replace h76:=F.of h76;replace h77:=F.of h77;replace h78:=F.of h78;have R:=F.r;clear F
    change (cz3_80).wp _ _ _ _
    refine wp_seq (x:=cz3_81) (y:=Code.ret) ?_
    change (Code.region 25 Oz3_25 false).wp _ _ _ _
    refine reg_in (l:=[0,1,2,3,4,5,6,7,8,9,10,11]) rfl ?_
    have F:FE_ _ [] a212 a212:=⟨R,Ag_.refl _⟩;clear R
    refine sv_ gz3_25_0 (ym_ rfl (F.of h19)) fun a213 e=>?_
    have h125:=pt_ F e;replace F:=pu_ F e;clear e
    have Y:(execOp a213.eval oz3_25_1).run Tryz.prog w206=.ok (.value (.bool true)) w206:=by unfold oz3_25_1;go_simp
    refine sv_ gz3_25_1 Y fun a214 e=>?_;clear Y
    clear h125;have h126:=pt_ F e;replace F:=pu_ F e;clear e
    refine sv_ gz3_25_2 (ym_ rfl h126) fun a215 e=>?_
    clear h126;have h127:=pt_ F e;replace F:=pu_ F e;clear e
    refine st_val gz3_25_3 rfl (wanted_is (j:=2) (d:=127) rfl rfl h127 rfl) (ym_ rfl (F.of h18)) fun a216 e=>?_
    have h128:=pt_ F e;replace F:=pu_ F e;replace h127:=so_ e h127;clear e
    refine st_val gz3_25_4 rfl (wanted_is (j:=2) (d:=127) rfl rfl h127 rfl) (ym_ rfl (F.of h2)) fun a217 e=>?_
    have h129:=pt_ F e;replace F:=pu_ F e;replace h127:=so_ e h127;replace h128:=so_ e h128;clear e
    have Y:(execOp a217.eval oz3_25_5).run Tryz.prog w206=.ok (.value (.bool true)) w206:=by have hgt:decide (kq < me + 1)=true:=(decide_eq_true (by have:=HKQ9.out;omega));unfold oz3_25_5;go_simp
    refine st_val gz3_25_5 rfl (wanted_is (j:=2) (d:=127) rfl rfl h127 rfl) Y fun a218 e=>?_;clear Y
    clear h128 h129;have h130:=pt_ F e;replace F:=pu_ F e;replace h127:=so_ e h127;clear e
    have Y:(execOp a218.eval oz3_25_6).run Tryz.prog w206=.ok (.value (.bool true)) w206:=by unfold oz3_25_6;go_simp
    refine sv_ gz3_25_6 Y fun a219 e=>?_;clear Y
    clear h127 h130;have h131:=pt_ F e;replace F:=pu_ F e;clear e
    refine sv_ gz3_25_7 (ym_ rfl h131) fun a220 e=>?_
    clear h131;have h132:=pt_ F e;replace F:=pu_ F e;clear e
    refine st_val gz3_25_8 rfl (wanted_is (j:=7) (d:=132) rfl rfl h132 rfl) (ym_ rfl (F.of h21)) fun a221 e=>?_
    have h133:=pt_ F e;replace F:=pu_ F e;replace h132:=so_ e h132;clear e
    have Y:(execOp a221.eval oz3_25_9).run Tryz.prog w206=.ok (.value (.bool true)) w206:=by unfold oz3_25_9;go_simp
    refine st_val gz3_25_9 rfl (wanted_is (j:=7) (d:=132) rfl rfl h132 rfl) Y fun a222 e=>?_;clear Y
    clear h133;have h134:=pt_ F e;replace F:=pu_ F e;replace h132:=so_ e h132;clear e
    have Y:(execOp a222.eval oz3_25_10).run Tryz.prog w206=.ok (.value (.bool true)) w206:=by unfold oz3_25_10;go_simp
    refine sv_ gz3_25_10 Y fun a223 e=>?_;clear Y
    clear h132 h134;have h135:=pt_ F e;replace F:=pu_ F e;clear e
    refine sv_ gz3_25_11 (ya_ rfl h135) fun a224 e=>?_
    clear h135 h6;have h6:=pt_ F e;replace F:=pu_ F e;clear e
    refine st_end ?_
    replace h2:=F.of h2;replace h7:=F.of h7;clear h18;clear h19;clear h21;replace h29:=F.of h29;replace h30:=F.of h30;replace h31:=F.of h31;replace h32:=F.of h32;replace h75:=F.of h75;replace h76:=F.of h76;replace h77:=F.of h77;replace h78:=F.of h78;have R:=F.r;clear F
    change (Code.ret).wp _ _ _ _
    refine wp_ret ?_
    change bodyPost Tryz.prog Tryz.f3 (fun e w'=>e=.returned (.bool true)∧Keep (fun g=>g < W.heap.size) W w') .ret a224 w206
    refine ret_one rfl R h6 ?_
    exact ⟨rfl,K1⟩
   | true =>
    have fb171:=hb171;clear hb171
    simp only [decide_eq_true_eq,decide_eq_false_iff_not,bne_iff_ne,bne_eq_false_iff_eq,beq_iff_eq,beq_eq_false_iff_ne,ne_eq,Bool.not_eq_true',Bool.not_eq_false',Bool.not_eq_eq_eq_not,Bool.not_true,Bool.not_false] at fb171
    refine wp_cond_true (x:=Code.skip) (y:=cz3_55) (eval_slot h78) ?_
    refine wp_skip ?_
    change (cz3_56).wp _ _ _ _
    refine wp_seq (x:=cz3_57) (y:=cz3_65) ?_
    refine wp_block (id:=3) (c:=cz3_58) ?_
    refine wp_seq (x:=cz3_59) (y:=cz3_60) ?_
    change (Code.region 16 Oz3_16 false).wp _ _ _ _
    refine reg_in (l:=[0,1,2,3]) rfl ?_
    have F:FE_ _ [] a172 a172:=⟨R,Ag_.refl _⟩;clear R
    obtain ⟨p,hp⟩:∃ p,vs[i]? = some p:=⟨_,List.getElem?_eq_getElem (by omega)⟩
    obtain ⟨bA,oA,hsA,-⟩:=osl_addr HVS.out (show i < vs.length by omega)
    have hltA:(i:Int) < (vs.length:Int):=by omega
    have HTP:=Lib.hid (osl_at HVS.out hsA hp).2.2;have HKQ:=Lib.hid (osl_at HVS.out hsA hp).2.1;have HP:=Lib.hid hp;clear hp;have HSA:=Lib.hid hsA;clear hsA
    have Y:(execOp a172.eval oz3_16_0).run Tryz.prog w169=.ok (.value (.pointer (some ⟨bA,oA + i * 7,none⟩))) w169:=by have r75:=F.of h75;have r77:=F.of h77;have hA:=HSA.out;unfold oz3_16_0;go_simp
    refine sv_ gz3_16_0 Y fun a225 e=>?_;clear Y
    have h79:=pt_ F e;replace F:=pu_ F e;clear e
    have Y:(execOp a225.eval oz3_16_1).run Tryz.prog w169=.ok (.value (.agg #[.int .i64 p.1,.int .i64 p.2.1,.int .i64 p.2.2.1,.int .i64 p.2.2.2.1.k,.string (str p.2.2.2.1.nm),.int .i64 p.2.2.2.1.i,.slice p.2.2.2.2.1 p.2.2.2.1.args.length p.2.2.2.2.2])) w169:=by obtain ⟨⟨c0,c1,c2,c3,c4,c5,c6⟩,-⟩:=osl_at (osl_on HVS.out K1) HSA.out HP.out;unfold oz3_16_1;go_simp
    refine sv_ gz3_16_1 Y fun a226 e=>?_;clear Y
    have h80:=pt_ F e;replace F:=pu_ F e;replace h79:=so_ e h79;clear e
    have Y:(execOp a226.eval oz3_16_2).run Tryz.prog w169=.ok (.value (.pointer (some ⟨w169.heap.size,0,none⟩))) (w169.alloc (.cells #[.int .i64 0,.int .i64 0,.int .i64 0,.int .i64 0,.string (⟨#[]⟩),.int .i64 0,.slice none 0 0] 30)):=by unfold oz3_16_2;go_simp
    have B227:=Blk.new w169 30 #[.int .i64 0,.int .i64 0,.int .i64 0,.int .i64 0,.string (⟨#[]⟩),.int .i64 0,.slice none 0 0]
    obtain ⟨w228,hw⟩:∃ x,x=w169.alloc (.cells #[.int .i64 0,.int .i64 0,.int .i64 0,.int .i64 0,.string (⟨#[]⟩),.int .i64 0,.slice none 0 0] 30):=⟨_,rfl⟩;rw [← hw] at Y B227
    obtain ⟨b227,hb⟩:∃ x,x=w169.heap.size:=⟨_,rfl⟩;rw [← hb] at Y B227
    have LK1_b227:=lk_ hb K1;replace K1:=ka_ hw K1;have LKP_b227:=lk_ hb KP;replace KP:=ka_ hw KP;clear hw hb
    refine sv_ gz3_16_2 Y fun a229 e=>?_;clear Y
    have h15:=pt_ F e;replace F:=pu_ F e;replace h79:=so_ e h79;replace h80:=so_ e h80;clear e
    have Y:(execOp a229.eval oz3_16_3).run Tryz.prog w228=.ok .skip (((((((w228.setCell ⟨b227,0,none⟩ (.int .i64 p.1)).setCell ⟨b227,1,none⟩ (.int .i64 p.2.1)).setCell ⟨b227,2,none⟩ (.int .i64 p.2.2.1)).setCell ⟨b227,3,none⟩ (.int .i64 p.2.2.2.1.k)).setCell ⟨b227,4,none⟩ (.string (str p.2.2.2.1.nm))).setCell ⟨b227,5,none⟩ (.int .i64 p.2.2.2.1.i)).setCell ⟨b227,6,none⟩ (.slice p.2.2.2.2.1 p.2.2.2.1.args.length p.2.2.2.2.2)):=by have qq0:w228.cell? ⟨b227,0,none⟩=some (.int .i64 0):=B227.cell 0;have qq1:w228.cell? ⟨b227,1,none⟩=some (.int .i64 0):=B227.cell 1;have qq2:w228.cell? ⟨b227,2,none⟩=some (.int .i64 0):=B227.cell 2;have qq3:w228.cell? ⟨b227,3,none⟩=some (.int .i64 0):=B227.cell 3;have qq4:w228.cell? ⟨b227,4,none⟩=some (.string (⟨#[]⟩)):=B227.cell 4;have qq5:w228.cell? ⟨b227,5,none⟩=some (.int .i64 0):=B227.cell 5;have qq6:w228.cell? ⟨b227,6,none⟩=some (.slice none 0 0):=B227.cell 6;have z0:=B227.frozen 0;have z1:=B227.frozen 1;have z2:=B227.frozen 2;have z3:=B227.frozen 3;have z4:=B227.frozen 4;have z5:=B227.frozen 5;have z6:=B227.frozen 6;unfold oz3_16_3;go_simp
    obtain ⟨w230,hw⟩:∃ x,x=(((((((w228.setCell ⟨b227,0,none⟩ (.int .i64 p.1)).setCell ⟨b227,1,none⟩ (.int .i64 p.2.1)).setCell ⟨b227,2,none⟩ (.int .i64 p.2.2.1)).setCell ⟨b227,3,none⟩ (.int .i64 p.2.2.2.1.k)).setCell ⟨b227,4,none⟩ (.string (str p.2.2.2.1.nm))).setCell ⟨b227,5,none⟩ (.int .i64 p.2.2.2.1.i)).setCell ⟨b227,6,none⟩ (.slice p.2.2.2.2.1 p.2.2.2.1.args.length p.2.2.2.2.2)):=⟨_,rfl⟩;rw [← hw] at Y
    have hk:Keep (fun g=>g ≠ b227) w228 w230:=by rw [hw];exact (((((((Keep.refl _ _).setCell (fun h=>h rfl) _).setCell (fun h=>h rfl) _).setCell (fun h=>h rfl) _).setCell (fun h=>h rfl) _).setCell (fun h=>h rfl) _).setCell (fun h=>h rfl) _).setCell (fun h=>h rfl) _
    replace K1:=kx_ hk K1 (Nat.not_lt.2 LK1_b227);replace KP:=kx_ hk KP (Nat.not_lt.2 LKP_b227);replace B227:Blk w230 b227 30 #[.int .i64 p.1,.int .i64 p.2.1,.int .i64 p.2.2.1,.int .i64 p.2.2.2.1.k,.string (str p.2.2.2.1.nm),.int .i64 p.2.2.2.1.i,.slice p.2.2.2.2.1 p.2.2.2.1.args.length p.2.2.2.2.2]:=(by rw [hw];exact (((((((B227.set_ 0 _).set_ 1 _).set_ 2 _).set_ 3 _).set_ 4 _).set_ 5 _).set_ 6 _));clear hw hk
    refine st_skip gz3_16_3 rfl (wanted_free rfl) Y ?_;clear Y
    refine st_end ?_
    replace h2:=F.of h2;replace h6:=F.of h6;replace h7:=F.of h7;replace h12:=F.of h12;replace h29:=F.of h29;replace h30:=F.of h30;replace h31:=F.of h31;replace h32:=F.of h32;replace h75:=F.of h75;replace h76:=F.of h76;replace h77:=F.of h77;replace h78:=F.of h78;have R:=F.r;clear F
    change (cz3_60).wp _ _ _ _
    refine wp_seq (x:=cz3_61) (y:=cz3_62) ?_
    change (Code.region 17 Oz3_17 false).wp _ _ _ _
    refine reg_in (l:=[0,1,2,3,4,5,6,7,8]) rfl ?_
    have F:FE_ _ [] a229 a229:=⟨R,Ag_.refl _⟩;clear R
    have Y:(execOp a229.eval oz3_17_0).run Tryz.prog w230=.ok (.value (.pointer (some ⟨b227,1,none⟩))) w230:=by have r15:=F.of h15;unfold oz3_17_0;go_simp
    refine sv_ gz3_17_0 Y fun a231 e=>?_;clear Y
    have h81:=pt_ F e;replace F:=pu_ F e;clear e
    have Y:(execOp a231.eval oz3_17_1).run Tryz.prog w230=.ok (.value (.int .i64 p.2.1)) w230:=by have qq0:w230.cell? ⟨b227,0,none⟩=some (.int .i64 p.1):=B227.cell 0;have qq1:w230.cell? ⟨b227,1,none⟩=some (.int .i64 p.2.1):=B227.cell 1;have qq2:w230.cell? ⟨b227,2,none⟩=some (.int .i64 p.2.2.1):=B227.cell 2;have qq3:w230.cell? ⟨b227,3,none⟩=some (.int .i64 p.2.2.2.1.k):=B227.cell 3;have qq4:w230.cell? ⟨b227,4,none⟩=some (.string (str p.2.2.2.1.nm)):=B227.cell 4;have qq5:w230.cell? ⟨b227,5,none⟩=some (.int .i64 p.2.2.2.1.i):=B227.cell 5;have qq6:w230.cell? ⟨b227,6,none⟩=some (.slice p.2.2.2.2.1 p.2.2.2.1.args.length p.2.2.2.2.2):=B227.cell 6;unfold oz3_17_1;go_simp
    refine sv_ gz3_17_1 Y fun a232 e=>?_;clear Y
    have h82:=pt_ F e;replace F:=pu_ F e;replace h81:=so_ e h81;clear e
    refine sv_ gz3_17_2 (ym_ rfl (F.of h2)) fun a233 e=>?_
    have h83:=pt_ F e;replace F:=pu_ F e;replace h81:=so_ e h81;replace h82:=so_ e h82;clear e
    obtain ⟨b234,hb234⟩:∃ x,(((p.2.1:Int) != (kq:Int)))=x:=⟨_,rfl⟩
    have Y:(execOp a233.eval oz3_17_3).run Tryz.prog w230=.ok (.value (.bool b234)) w230:=by rw [← hb234];unfold oz3_17_3;go_simp
    refine sv_ gz3_17_3 Y fun a235 e=>?_;clear Y
    have h84:=pt_ F e;replace F:=pu_ F e;replace h81:=so_ e h81;replace h82:=so_ e h82;replace h83:=so_ e h83;clear e
    refine sv_ gz3_17_4 (ym_ rfl h84) fun a236 e=>?_
    have h85:=pt_ F e;replace F:=pu_ F e;replace h81:=so_ e h81;replace h82:=so_ e h82;replace h83:=so_ e h83;replace h84:=so_ e h84;clear e
    cases b234 with
    | false =>
     have fb234:=hb234;clear hb234
     simp only [decide_eq_true_eq,decide_eq_false_iff_not,bne_iff_ne,bne_eq_false_iff_eq,beq_iff_eq,beq_eq_false_iff_ne,ne_eq,Bool.not_eq_true',Bool.not_eq_false',Bool.not_eq_eq_eq_not,Bool.not_true,Bool.not_false] at fb234
     refine st_not gz3_17_5 rfl (wanted_is (j:=4) (d:=85) rfl rfl h85 rfl) fun a237 e=>?_
     have h86:=pt_ F e;replace F:=pu_ F e;replace h81:=so_ e h81;replace h82:=so_ e h82;replace h83:=so_ e h83;replace h84:=so_ e h84;replace h85:=so_ e h85;clear e
     refine st_not gz3_17_6 rfl (wanted_is (j:=4) (d:=85) rfl rfl h85 rfl) fun a238 e=>?_
     have h87:=pt_ F e;replace F:=pu_ F e;replace h81:=so_ e h81;replace h82:=so_ e h82;replace h83:=so_ e h83;replace h84:=so_ e h84;replace h85:=so_ e h85;replace h86:=so_ e h86;clear e
     refine st_not gz3_17_7 rfl (wanted_is (j:=4) (d:=85) rfl rfl h85 rfl) fun a239 e=>?_
     have h88:=pt_ F e;replace F:=pu_ F e;replace h81:=so_ e h81;replace h82:=so_ e h82;replace h83:=so_ e h83;replace h84:=so_ e h84;replace h85:=so_ e h85;replace h86:=so_ e h86;replace h87:=so_ e h87;clear e
     have Y:(execOp a239.eval oz3_17_8).run Tryz.prog w230=.ok (.value (.bool false)) w230:=by unfold oz3_17_8;go_simp
     refine sv_ gz3_17_8 Y fun a240 e=>?_;clear Y
     have h89:=pt_ F e;replace F:=pu_ F e;replace h81:=so_ e h81;replace h82:=so_ e h82;replace h83:=so_ e h83;replace h84:=so_ e h84;replace h85:=so_ e h85;replace h86:=so_ e h86;replace h87:=so_ e h87;replace h88:=so_ e h88;clear e
     refine st_end ?_
     replace h2:=F.of h2;replace h6:=F.of h6;replace h7:=F.of h7;replace h12:=F.of h12;replace h15:=F.of h15;replace h29:=F.of h29;replace h30:=F.of h30;replace h31:=F.of h31;replace h32:=F.of h32;replace h75:=F.of h75;replace h76:=F.of h76;replace h77:=F.of h77;replace h78:=F.of h78;replace h79:=F.of h79;replace h80:=F.of h80;have R:=F.r;clear F
     change (cz3_62).wp _ _ _ _
     refine wp_cond_false (x:=cz3_63) (y:=Code.skip) (eval_slot h89) ?_
     refine wp_skip ?_
     change (cz3_65).wp _ _ _ _
     change (Code.region 19 Oz3_19 false).wp _ _ _ _
     refine reg_in (l:=[0,1]) rfl ?_
     have F:FE_ _ [] a240 a240:=⟨R,Ag_.refl _⟩;clear R
     have Y:(execOp a240.eval oz3_19_0).run Tryz.prog w230=.ok (.value (.int .i64 ((i:Int) + 1))) w230:=by have r77:=F.of h77;have hwj:IntKind.i64.wrap ((i:Int) + 1)=(i:Int) + 1:=(by rw [IntKind.wrap_i64];have:=HLM.out;omega);unfold oz3_19_0;go_simp
     refine sv_ gz3_19_0 Y fun a241 e=>?_;clear Y
     have h94:=pt_ F e;replace F:=pu_ F e;clear e
     refine sv_ gz3_19_1 (ym_ rfl h94) fun a242 e=>?_
     clear h77;have h77:=pt_ F e;replace F:=pu_ F e;replace h94:=so_ e h94;clear e
     refine st_end ?_
     replace h2:=F.of h2;replace h6:=F.of h6;replace h7:=F.of h7;replace h12:=F.of h12;replace h15:=F.of h15;replace h29:=F.of h29;replace h30:=F.of h30;replace h31:=F.of h31;replace h32:=F.of h32;replace h75:=F.of h75;replace h76:=F.of h76;replace h78:=F.of h78;replace h79:=F.of h79;replace h80:=F.of h80;replace h81:=F.of h81;replace h82:=F.of h82;replace h83:=F.of h83;replace h84:=F.of h84;replace h85:=F.of h85;replace h86:=F.of h86;replace h87:=F.of h87;replace h88:=F.of h88;replace h89:=F.of h89;have R:=F.r;clear F
     have HPR:=Lib.hid (HPO.out.on KP);clear HPO KP;have HPO:=HPR;clear HPR
     clear B227
     exact ⟨_,by omega,i + 1,_,_,_,_,rfl,R,h2,h6,h7,h12,h29,h30,h31,h32,h75,h76,h77,K1,(by omega),HPO,(Lib.hid (by have:=HME.out;omega)),HQ⟩
    | true =>
     have fb234:=hb234;clear hb234
     simp only [decide_eq_true_eq,decide_eq_false_iff_not,bne_iff_ne,bne_eq_false_iff_eq,beq_iff_eq,beq_eq_false_iff_ne,ne_eq,Bool.not_eq_true',Bool.not_eq_false',Bool.not_eq_eq_eq_not,Bool.not_true,Bool.not_false] at fb234
     have Y:(execOp a236.eval oz3_17_5).run Tryz.prog w230=.ok (.value (.pointer (some ⟨b227,3,none⟩))) w230:=by have r15:=F.of h15;unfold oz3_17_5;go_simp
     refine st_val gz3_17_5 rfl (wanted_is (j:=4) (d:=85) rfl rfl h85 rfl) Y fun a243 e=>?_;clear Y
     have h86:=pt_ F e;replace F:=pu_ F e;replace h81:=so_ e h81;replace h82:=so_ e h82;replace h83:=so_ e h83;replace h84:=so_ e h84;replace h85:=so_ e h85;clear e
     have Y:(execOp a243.eval oz3_17_6).run Tryz.prog w230=.ok (.value (.agg #[.int .i64 p.2.2.2.1.k,.string (str p.2.2.2.1.nm),.int .i64 p.2.2.2.1.i,.slice p.2.2.2.2.1 p.2.2.2.1.args.length p.2.2.2.2.2])) w230:=by have qq0:w230.cell? ⟨b227,0,none⟩=some (.int .i64 p.1):=B227.cell 0;have qq1:w230.cell? ⟨b227,1,none⟩=some (.int .i64 p.2.1):=B227.cell 1;have qq2:w230.cell? ⟨b227,2,none⟩=some (.int .i64 p.2.2.1):=B227.cell 2;have qq3:w230.cell? ⟨b227,3,none⟩=some (.int .i64 p.2.2.2.1.k):=B227.cell 3;have qq4:w230.cell? ⟨b227,4,none⟩=some (.string (str p.2.2.2.1.nm)):=B227.cell 4;have qq5:w230.cell? ⟨b227,5,none⟩=some (.int .i64 p.2.2.2.1.i):=B227.cell 5;have qq6:w230.cell? ⟨b227,6,none⟩=some (.slice p.2.2.2.2.1 p.2.2.2.1.args.length p.2.2.2.2.2):=B227.cell 6;unfold oz3_17_6;go_simp
     refine st_val gz3_17_6 rfl (wanted_is (j:=4) (d:=85) rfl rfl h85 rfl) Y fun a244 e=>?_;clear Y
     have h87:=pt_ F e;replace F:=pu_ F e;replace h81:=so_ e h81;replace h82:=so_ e h82;replace h83:=so_ e h83;replace h84:=so_ e h84;replace h85:=so_ e h85;replace h86:=so_ e h86;clear e
     refine st_call gz3_17_7 rfl (wanted_is (j:=4) (d:=85) rfl rfl h85 rfl) (yc1_ enz3_1006 rfl h87) ((small_any (HTP.out.on K1)).mono ?_)
     rintro e9 w245 ⟨⟨rb,rfl⟩,kk⟩
     replace K1:=keep_onto K1 kk
     replace KP:=keep_onto KP kk
     replace B227:=blk_on B227 kk
     clear kk
     refine ⟨_,rfl,fun a246 e=>?_⟩
     have h88:=pt_ F e;replace F:=pu_ F e;replace h81:=so_ e h81;replace h82:=so_ e h82;replace h83:=so_ e h83;replace h84:=so_ e h84;replace h85:=so_ e h85;replace h86:=so_ e h86;replace h87:=so_ e h87;clear e
     have Y:(execOp a246.eval oz3_17_8).run Tryz.prog w245=.ok (.value (.bool rb)) w245:=by unfold oz3_17_8;go_simp
     refine sv_ gz3_17_8 Y fun a247 e=>?_;clear Y
     have h89:=pt_ F e;replace F:=pu_ F e;replace h81:=so_ e h81;replace h82:=so_ e h82;replace h83:=so_ e h83;replace h84:=so_ e h84;replace h85:=so_ e h85;replace h86:=so_ e h86;replace h87:=so_ e h87;replace h88:=so_ e h88;clear e
     refine st_end ?_
     replace h2:=F.of h2;replace h6:=F.of h6;replace h7:=F.of h7;replace h12:=F.of h12;replace h15:=F.of h15;replace h29:=F.of h29;replace h30:=F.of h30;replace h31:=F.of h31;replace h32:=F.of h32;replace h75:=F.of h75;replace h76:=F.of h76;replace h77:=F.of h77;replace h78:=F.of h78;replace h79:=F.of h79;replace h80:=F.of h80;have R:=F.r;clear F
     change (cz3_62).wp _ _ _ _
     cases rb with
     | false =>
      refine wp_cond_false (x:=cz3_63) (y:=Code.skip) (eval_slot h89) ?_
      refine wp_skip ?_
      change (cz3_65).wp _ _ _ _
      change (Code.region 19 Oz3_19 false).wp _ _ _ _
      refine reg_in (l:=[0,1]) rfl ?_
      have F:FE_ _ [] a247 a247:=⟨R,Ag_.refl _⟩;clear R
      have Y:(execOp a247.eval oz3_19_0).run Tryz.prog w245=.ok (.value (.int .i64 ((i:Int) + 1))) w245:=by have r77:=F.of h77;have hwj:IntKind.i64.wrap ((i:Int) + 1)=(i:Int) + 1:=(by rw [IntKind.wrap_i64];have:=HLM.out;omega);unfold oz3_19_0;go_simp
      refine sv_ gz3_19_0 Y fun a248 e=>?_;clear Y
      have h94:=pt_ F e;replace F:=pu_ F e;clear e
      refine sv_ gz3_19_1 (ym_ rfl h94) fun a249 e=>?_
      clear h77;have h77:=pt_ F e;replace F:=pu_ F e;replace h94:=so_ e h94;clear e
      refine st_end ?_
      replace h2:=F.of h2;replace h6:=F.of h6;replace h7:=F.of h7;replace h12:=F.of h12;replace h15:=F.of h15;replace h29:=F.of h29;replace h30:=F.of h30;replace h31:=F.of h31;replace h32:=F.of h32;replace h75:=F.of h75;replace h76:=F.of h76;replace h78:=F.of h78;replace h79:=F.of h79;replace h80:=F.of h80;replace h81:=F.of h81;replace h82:=F.of h82;replace h83:=F.of h83;replace h84:=F.of h84;replace h85:=F.of h85;replace h86:=F.of h86;replace h87:=F.of h87;replace h88:=F.of h88;replace h89:=F.of h89;have R:=F.r;clear F
      have HPR:=Lib.hid (HPO.out.on KP);clear HPO KP;have HPO:=HPR;clear HPR
      clear B227
      exact ⟨_,by omega,i + 1,_,_,_,_,rfl,R,h2,h6,h7,h12,h29,h30,h31,h32,h75,h76,h77,K1,(by omega),HPO,(Lib.hid (by have:=HME.out;omega)),HQ⟩
     | true =>
      refine wp_cond_true (x:=cz3_63) (y:=Code.skip) (eval_slot h89) ?_
      change (Code.region 18 Oz3_18 false).wp _ _ _ _
      refine reg_in (l:=[0,1,2,3]) rfl ?_
      have F:FE_ _ [] a247 a247:=⟨R,Ag_.refl _⟩;clear R
      refine sv_ gz3_18_0 (ym_ rfl (F.of h7)) fun a250 e=>?_
      have h90:=pt_ F e;replace F:=pu_ F e;clear e
      have Y:(execOp a250.eval oz3_18_1).run Tryz.prog w245=.ok (.value (.slice (some ⟨w245.heap.size,0,none⟩) 0 0)) (w245.alloc (.cells #[] 64)):=by unfold oz3_18_1;go_simp
      have B251:=Blk.new w245 64 #[]
      obtain ⟨w252,hw⟩:∃ x,x=w245.alloc (.cells #[] 64):=⟨_,rfl⟩;rw [← hw] at Y B251
      obtain ⟨b251,hb⟩:∃ x,x=w245.heap.size:=⟨_,rfl⟩;rw [← hb] at Y B251
      have Nb227_b251:=nb_ hb B227;replace B227:=ba_ hw B227;have LK1_b251:=lk_ hb K1;replace K1:=ka_ hw K1;have LKP_b251:=lk_ hb KP;replace KP:=ka_ hw KP;clear hw hb
      refine sv_ gz3_18_1 Y fun a253 e=>?_;clear Y
      have h91:=pt_ F e;replace F:=pu_ F e;replace h90:=so_ e h90;clear e
      have Y:(execOp a253.eval oz3_18_2).run Tryz.prog w252=.ok (.value (.agg #[.int .i64 p.1,.int .i64 p.2.1,.int .i64 p.2.2.1,.int .i64 p.2.2.2.1.k,.string (str p.2.2.2.1.nm),.int .i64 p.2.2.2.1.i,.slice p.2.2.2.2.1 p.2.2.2.1.args.length p.2.2.2.2.2])) w252:=by have r15:=F.of h15;have qq0:w252.cell? ⟨b227,0,none⟩=some (.int .i64 p.1):=B227.cell 0;have qq1:w252.cell? ⟨b227,1,none⟩=some (.int .i64 p.2.1):=B227.cell 1;have qq2:w252.cell? ⟨b227,2,none⟩=some (.int .i64 p.2.2.1):=B227.cell 2;have qq3:w252.cell? ⟨b227,3,none⟩=some (.int .i64 p.2.2.2.1.k):=B227.cell 3;have qq4:w252.cell? ⟨b227,4,none⟩=some (.string (str p.2.2.2.1.nm)):=B227.cell 4;have qq5:w252.cell? ⟨b227,5,none⟩=some (.int .i64 p.2.2.2.1.i):=B227.cell 5;have qq6:w252.cell? ⟨b227,6,none⟩=some (.slice p.2.2.2.2.1 p.2.2.2.1.args.length p.2.2.2.2.2):=B227.cell 6;unfold oz3_18_2;go_simp
      refine sv_ gz3_18_2 Y fun a254 e=>?_;clear Y
      have h92:=pt_ F e;replace F:=pu_ F e;replace h90:=so_ e h90;replace h91:=so_ e h91;clear e
      have Y:(execOp a254.eval oz3_18_3).run Tryz.prog w252=.ok (.enter 7 #[.pointer (some ⟨pa,0,none⟩),.slice (some ⟨b251,0,none⟩) 0 0,.agg #[.int .i64 p.1,.int .i64 p.2.1,.int .i64 p.2.2.1,.int .i64 p.2.2.2.1.k,.string (str p.2.2.2.1.nm),.int .i64 p.2.2.2.1.i,.slice p.2.2.2.2.1 p.2.2.2.1.args.length p.2.2.2.2.2]]) w252:=by unfold oz3_18_3;go_simp
      have HNE:Hid (p.2.1 ≠ kq):=Lib.hid (by assumption)
      have hcall:=does_any (va:=some ⟨b251,0,none⟩) (vc:=0) (kd:=p.1) (nn:=p.2.2.1) (HPO.out.on KP) (by have h1:=HME.out;have h2:=HLU.out;have h3:=HLM.out;omega) HKQ.out (HTP.out.on K1)
      refine st_call gz3_18_3 rfl (wanted_free rfl) Y ((hcall).mono ?_);clear Y
      rintro e9 w255 ⟨⟨rv,rw9,rfl⟩,hc⟩
      clear B227
      clear B251
      replace K1:=K1.trans (hc.2.less fun g hg=>⟨Nat.lt_of_lt_of_le hg K1.size,fun h=>absurd (HPO.out.rb g h).1 (Nat.not_le.2 (Nat.lt_of_lt_of_le hg HWB))⟩);clear KP
      have kk:=trivial
      clear hcall
      obtain ⟨⟨R2,md2,f2,n2,hpo,hm1,hm2,hsm⟩,-⟩:=hc
      have HM2:Hid (md2 ≤ (us.length:Int) + ((i + 1:Nat):Int)):=Lib.hid (by have:=HME.out;omega)
      have HQ2:Hid ((f2 kq).map (fun q=>q.ps.length)=some L0):=Lib.hid (by rw [hsm kq (fun e=>HNE.out e.symm) (by obtain ⟨q9,h9,-⟩:=Option.map_eq_some_iff.1 HQ.out;exact (HPO.out.num.2 kq q9 h9).2)];exact HQ.out)
      clear HPO hsm hm1 hm2 HME HQ;have HPO:=Lib.hid hpo;clear hpo
      clear kk
      have KP:=Keep.refl (fun g=>g < w255.heap.size) w255
      refine ⟨_,rfl,fun a256 e=>?_⟩
      replace F:=pu_ F e;replace h90:=so_ e h90;replace h91:=so_ e h91;replace h92:=so_ e h92;clear e
      refine st_end ?_
      replace h2:=F.of h2;replace h6:=F.of h6;replace h7:=F.of h7;replace h12:=F.of h12;replace h15:=F.of h15;replace h29:=F.of h29;replace h30:=F.of h30;replace h31:=F.of h31;replace h32:=F.of h32;replace h75:=F.of h75;replace h76:=F.of h76;replace h77:=F.of h77;replace h78:=F.of h78;replace h79:=F.of h79;replace h80:=F.of h80;replace h81:=F.of h81;replace h82:=F.of h82;replace h83:=F.of h83;replace h84:=F.of h84;replace h85:=F.of h85;replace h86:=F.of h86;replace h87:=F.of h87;replace h88:=F.of h88;replace h89:=F.of h89;have R:=F.r;clear F
      change (cz3_65).wp _ _ _ _
      change (Code.region 19 Oz3_19 false).wp _ _ _ _
      refine reg_in (l:=[0,1]) rfl ?_
      have F:FE_ _ [] a256 a256:=⟨R,Ag_.refl _⟩;clear R
      have Y:(execOp a256.eval oz3_19_0).run Tryz.prog w255=.ok (.value (.int .i64 ((i:Int) + 1))) w255:=by have r77:=F.of h77;have hwj:IntKind.i64.wrap ((i:Int) + 1)=(i:Int) + 1:=(by rw [IntKind.wrap_i64];have:=HLM.out;omega);unfold oz3_19_0;go_simp
      refine sv_ gz3_19_0 Y fun a257 e=>?_;clear Y
      have h94:=pt_ F e;replace F:=pu_ F e;clear e
      refine sv_ gz3_19_1 (ym_ rfl h94) fun a258 e=>?_
      clear h77;have h77:=pt_ F e;replace F:=pu_ F e;replace h94:=so_ e h94;clear e
      refine st_end ?_
      replace h2:=F.of h2;replace h6:=F.of h6;replace h7:=F.of h7;replace h12:=F.of h12;replace h15:=F.of h15;replace h29:=F.of h29;replace h30:=F.of h30;replace h31:=F.of h31;replace h32:=F.of h32;replace h75:=F.of h75;replace h76:=F.of h76;replace h78:=F.of h78;replace h79:=F.of h79;replace h80:=F.of h80;replace h81:=F.of h81;replace h82:=F.of h82;replace h83:=F.of h83;replace h84:=F.of h84;replace h85:=F.of h85;replace h86:=F.of h86;replace h87:=F.of h87;replace h88:=F.of h88;replace h89:=F.of h89;replace h90:=F.of h90;replace h91:=F.of h91;replace h92:=F.of h92;have R:=F.r;clear F
      have HPR:=Lib.hid (HPO.out.on KP);clear HPO KP;have HPO:=HPR;clear HPR
      exact ⟨_,by omega,i + 1,_,_,_,_,rfl,R,h2,h6,h7,h12,h29,h30,h31,h32,h75,h76,h77,K1,(by omega),HPO,HM2,HQ2⟩
 | true =>
  have fb118:=hb118;clear hb118
  simp only [decide_eq_true_eq,decide_eq_false_iff_not,bne_iff_ne,bne_eq_false_iff_eq,beq_iff_eq,beq_eq_false_iff_ne,ne_eq,Bool.not_eq_true',Bool.not_eq_false',Bool.not_eq_eq_eq_not,Bool.not_true,Bool.not_false] at fb118
  refine wp_cond_true (x:=Code.skip) (y:=cz3_22) (eval_slot h32) ?_
  refine wp_skip ?_
  change (cz3_23).wp _ _ _ _
  refine wp_seq (x:=cz3_24) (y:=cz3_32) ?_
  refine wp_block (id:=1) (c:=cz3_25) ?_
  refine wp_seq (x:=cz3_26) (y:=cz3_27) ?_
  change (Code.region 6 Oz3_6 false).wp _ _ _ _
  refine reg_in (l:=[0,1,2,3]) rfl ?_
  have F:FE_ _ [] a119 a119:=⟨R,Ag_.refl _⟩;clear R
  obtain ⟨p,hp⟩:∃ p,us[j]? = some p:=⟨_,List.getElem?_eq_getElem (by omega)⟩
  obtain ⟨bA,oA,hsA,-⟩:=osl_addr HUS.out (show j < us.length by omega)
  have hltA:(j:Int) < (us.length:Int):=by omega
  have HTP:=Lib.hid (osl_at HUS.out hsA hp).2.2;have HKQ:=Lib.hid (osl_at HUS.out hsA hp).2.1;have HP:=Lib.hid hp;clear hp;have HSA:=Lib.hid hsA;clear hsA
  have Y:(execOp a119.eval oz3_6_0).run Tryz.prog w116=.ok (.value (.pointer (some ⟨bA,oA + j * 7,none⟩))) w116:=by have r29:=F.of h29;have r31:=F.of h31;have hA:=HSA.out;unfold oz3_6_0;go_simp
  refine sv_ gz3_6_0 Y fun a259 e=>?_;clear Y
  have h33:=pt_ F e;replace F:=pu_ F e;clear e
  have Y:(execOp a259.eval oz3_6_1).run Tryz.prog w116=.ok (.value (.agg #[.int .i64 p.1,.int .i64 p.2.1,.int .i64 p.2.2.1,.int .i64 p.2.2.2.1.k,.string (str p.2.2.2.1.nm),.int .i64 p.2.2.2.1.i,.slice p.2.2.2.2.1 p.2.2.2.1.args.length p.2.2.2.2.2])) w116:=by obtain ⟨⟨c0,c1,c2,c3,c4,c5,c6⟩,-⟩:=osl_at (osl_on HUS.out K1) HSA.out HP.out;unfold oz3_6_1;go_simp
  refine sv_ gz3_6_1 Y fun a260 e=>?_;clear Y
  have h34:=pt_ F e;replace F:=pu_ F e;replace h33:=so_ e h33;clear e
  have Y:(execOp a260.eval oz3_6_2).run Tryz.prog w116=.ok (.value (.pointer (some ⟨w116.heap.size,0,none⟩))) (w116.alloc (.cells #[.int .i64 0,.int .i64 0,.int .i64 0,.int .i64 0,.string (⟨#[]⟩),.int .i64 0,.slice none 0 0] 30)):=by unfold oz3_6_2;go_simp
  have B261:=Blk.new w116 30 #[.int .i64 0,.int .i64 0,.int .i64 0,.int .i64 0,.string (⟨#[]⟩),.int .i64 0,.slice none 0 0]
  obtain ⟨w262,hw⟩:∃ x,x=w116.alloc (.cells #[.int .i64 0,.int .i64 0,.int .i64 0,.int .i64 0,.string (⟨#[]⟩),.int .i64 0,.slice none 0 0] 30):=⟨_,rfl⟩;rw [← hw] at Y B261
  obtain ⟨b261,hb⟩:∃ x,x=w116.heap.size:=⟨_,rfl⟩;rw [← hb] at Y B261
  have LK1_b261:=lk_ hb K1;replace K1:=ka_ hw K1;have LKP_b261:=lk_ hb KP;replace KP:=ka_ hw KP;clear hw hb
  refine sv_ gz3_6_2 Y fun a263 e=>?_;clear Y
  have h9:=pt_ F e;replace F:=pu_ F e;replace h33:=so_ e h33;replace h34:=so_ e h34;clear e
  have Y:(execOp a263.eval oz3_6_3).run Tryz.prog w262=.ok .skip (((((((w262.setCell ⟨b261,0,none⟩ (.int .i64 p.1)).setCell ⟨b261,1,none⟩ (.int .i64 p.2.1)).setCell ⟨b261,2,none⟩ (.int .i64 p.2.2.1)).setCell ⟨b261,3,none⟩ (.int .i64 p.2.2.2.1.k)).setCell ⟨b261,4,none⟩ (.string (str p.2.2.2.1.nm))).setCell ⟨b261,5,none⟩ (.int .i64 p.2.2.2.1.i)).setCell ⟨b261,6,none⟩ (.slice p.2.2.2.2.1 p.2.2.2.1.args.length p.2.2.2.2.2)):=by have qq0:w262.cell? ⟨b261,0,none⟩=some (.int .i64 0):=B261.cell 0;have qq1:w262.cell? ⟨b261,1,none⟩=some (.int .i64 0):=B261.cell 1;have qq2:w262.cell? ⟨b261,2,none⟩=some (.int .i64 0):=B261.cell 2;have qq3:w262.cell? ⟨b261,3,none⟩=some (.int .i64 0):=B261.cell 3;have qq4:w262.cell? ⟨b261,4,none⟩=some (.string (⟨#[]⟩)):=B261.cell 4;have qq5:w262.cell? ⟨b261,5,none⟩=some (.int .i64 0):=B261.cell 5;have qq6:w262.cell? ⟨b261,6,none⟩=some (.slice none 0 0):=B261.cell 6;have z0:=B261.frozen 0;have z1:=B261.frozen 1;have z2:=B261.frozen 2;have z3:=B261.frozen 3;have z4:=B261.frozen 4;have z5:=B261.frozen 5;have z6:=B261.frozen 6;unfold oz3_6_3;go_simp
  obtain ⟨w264,hw⟩:∃ x,x=(((((((w262.setCell ⟨b261,0,none⟩ (.int .i64 p.1)).setCell ⟨b261,1,none⟩ (.int .i64 p.2.1)).setCell ⟨b261,2,none⟩ (.int .i64 p.2.2.1)).setCell ⟨b261,3,none⟩ (.int .i64 p.2.2.2.1.k)).setCell ⟨b261,4,none⟩ (.string (str p.2.2.2.1.nm))).setCell ⟨b261,5,none⟩ (.int .i64 p.2.2.2.1.i)).setCell ⟨b261,6,none⟩ (.slice p.2.2.2.2.1 p.2.2.2.1.args.length p.2.2.2.2.2)):=⟨_,rfl⟩;rw [← hw] at Y
  have hk:Keep (fun g=>g ≠ b261) w262 w264:=by rw [hw];exact (((((((Keep.refl _ _).setCell (fun h=>h rfl) _).setCell (fun h=>h rfl) _).setCell (fun h=>h rfl) _).setCell (fun h=>h rfl) _).setCell (fun h=>h rfl) _).setCell (fun h=>h rfl) _).setCell (fun h=>h rfl) _
  replace K1:=kx_ hk K1 (Nat.not_lt.2 LK1_b261);replace KP:=kx_ hk KP (Nat.not_lt.2 LKP_b261);replace B261:Blk w264 b261 30 #[.int .i64 p.1,.int .i64 p.2.1,.int .i64 p.2.2.1,.int .i64 p.2.2.2.1.k,.string (str p.2.2.2.1.nm),.int .i64 p.2.2.2.1.i,.slice p.2.2.2.2.1 p.2.2.2.1.args.length p.2.2.2.2.2]:=(by rw [hw];exact (((((((B261.set_ 0 _).set_ 1 _).set_ 2 _).set_ 3 _).set_ 4 _).set_ 5 _).set_ 6 _));clear hw hk
  refine st_skip gz3_6_3 rfl (wanted_free rfl) Y ?_;clear Y
  refine st_end ?_
  replace h1:=F.of h1;replace h2:=F.of h2;replace h6:=F.of h6;replace h7:=F.of h7;replace h29:=F.of h29;replace h30:=F.of h30;replace h31:=F.of h31;replace h32:=F.of h32;have R:=F.r;clear F
  change (cz3_27).wp _ _ _ _
  refine wp_seq (x:=cz3_28) (y:=cz3_29) ?_
  change (Code.region 7 Oz3_7 false).wp _ _ _ _
  refine reg_in (l:=[0,1,2]) rfl ?_
  have F:FE_ _ [] a263 a263:=⟨R,Ag_.refl _⟩;clear R
  have Y:(execOp a263.eval oz3_7_0).run Tryz.prog w264=.ok (.value (.pointer (some ⟨b261,3,none⟩))) w264:=by have r9:=F.of h9;unfold oz3_7_0;go_simp
  refine sv_ gz3_7_0 Y fun a265 e=>?_;clear Y
  have h35:=pt_ F e;replace F:=pu_ F e;clear e
  have Y:(execOp a265.eval oz3_7_1).run Tryz.prog w264=.ok (.value (.agg #[.int .i64 p.2.2.2.1.k,.string (str p.2.2.2.1.nm),.int .i64 p.2.2.2.1.i,.slice p.2.2.2.2.1 p.2.2.2.1.args.length p.2.2.2.2.2])) w264:=by have qq0:w264.cell? ⟨b261,0,none⟩=some (.int .i64 p.1):=B261.cell 0;have qq1:w264.cell? ⟨b261,1,none⟩=some (.int .i64 p.2.1):=B261.cell 1;have qq2:w264.cell? ⟨b261,2,none⟩=some (.int .i64 p.2.2.1):=B261.cell 2;have qq3:w264.cell? ⟨b261,3,none⟩=some (.int .i64 p.2.2.2.1.k):=B261.cell 3;have qq4:w264.cell? ⟨b261,4,none⟩=some (.string (str p.2.2.2.1.nm)):=B261.cell 4;have qq5:w264.cell? ⟨b261,5,none⟩=some (.int .i64 p.2.2.2.1.i):=B261.cell 5;have qq6:w264.cell? ⟨b261,6,none⟩=some (.slice p.2.2.2.2.1 p.2.2.2.1.args.length p.2.2.2.2.2):=B261.cell 6;unfold oz3_7_1;go_simp
  refine sv_ gz3_7_1 Y fun a266 e=>?_;clear Y
  have h36:=pt_ F e;replace F:=pu_ F e;replace h35:=so_ e h35;clear e
  refine st_call gz3_7_2 rfl (wanted_free rfl) (yc1_ enz3_1006 rfl h36) ((small_any (HTP.out.on K1)).mono ?_)
  rintro e9 w267 ⟨⟨rb,rfl⟩,kk⟩
  replace K1:=keep_onto K1 kk
  replace KP:=keep_onto KP kk
  replace B261:=blk_on B261 kk
  clear kk
  refine ⟨_,rfl,fun a268 e=>?_⟩
  have h37:=pt_ F e;replace F:=pu_ F e;replace h35:=so_ e h35;replace h36:=so_ e h36;clear e
  refine st_end ?_
  replace h1:=F.of h1;replace h2:=F.of h2;replace h6:=F.of h6;replace h7:=F.of h7;replace h9:=F.of h9;replace h29:=F.of h29;replace h30:=F.of h30;replace h31:=F.of h31;replace h32:=F.of h32;replace h33:=F.of h33;replace h34:=F.of h34;have R:=F.r;clear F
  change (cz3_29).wp _ _ _ _
  cases rb with
  | false =>
   refine wp_cond_false (x:=cz3_30) (y:=Code.skip) (eval_slot h37) ?_
   refine wp_skip ?_
   change (cz3_32).wp _ _ _ _
   change (Code.region 9 Oz3_9 false).wp _ _ _ _
   refine reg_in (l:=[0,1]) rfl ?_
   have F:FE_ _ [] a268 a268:=⟨R,Ag_.refl _⟩;clear R
   have Y:(execOp a268.eval oz3_9_0).run Tryz.prog w267=.ok (.value (.int .i64 ((j:Int) + 1))) w267:=by have r31:=F.of h31;have hwj:IntKind.i64.wrap ((j:Int) + 1)=(j:Int) + 1:=(by rw [IntKind.wrap_i64];have:=HLU.out;omega);unfold oz3_9_0;go_simp
   refine sv_ gz3_9_0 Y fun a269 e=>?_;clear Y
   have h42:=pt_ F e;replace F:=pu_ F e;clear e
   refine sv_ gz3_9_1 (ym_ rfl h42) fun a270 e=>?_
   clear h31;have h31:=pt_ F e;replace F:=pu_ F e;replace h42:=so_ e h42;clear e
   refine st_end ?_
   replace h1:=F.of h1;replace h2:=F.of h2;replace h6:=F.of h6;replace h7:=F.of h7;replace h9:=F.of h9;replace h29:=F.of h29;replace h30:=F.of h30;replace h32:=F.of h32;replace h33:=F.of h33;replace h34:=F.of h34;replace h35:=F.of h35;replace h36:=F.of h36;replace h37:=F.of h37;have R:=F.r;clear F
   have HPR:=Lib.hid (HPO.out.on KP);clear HPO KP;have HPO:=HPR;clear HPR
   clear B261
   exact ⟨_,by omega,j + 1,_,_,_,_,rfl,R,h1,h2,h6,h7,h29,h30,h31,K1,(by omega),HPO,(Lib.hid (by have:=HMD.out;omega))⟩
  | true =>
   refine wp_cond_true (x:=cz3_30) (y:=Code.skip) (eval_slot h37) ?_
   change (Code.region 8 Oz3_8 false).wp _ _ _ _
   refine reg_in (l:=[0,1,2,3]) rfl ?_
   have F:FE_ _ [] a268 a268:=⟨R,Ag_.refl _⟩;clear R
   refine sv_ gz3_8_0 (ym_ rfl (F.of h7)) fun a271 e=>?_
   have h38:=pt_ F e;replace F:=pu_ F e;clear e
   have Y:(execOp a271.eval oz3_8_1).run Tryz.prog w267=.ok (.value (.slice (some ⟨w267.heap.size,0,none⟩) 0 0)) (w267.alloc (.cells #[] 64)):=by unfold oz3_8_1;go_simp
   have B272:=Blk.new w267 64 #[]
   obtain ⟨w273,hw⟩:∃ x,x=w267.alloc (.cells #[] 64):=⟨_,rfl⟩;rw [← hw] at Y B272
   obtain ⟨b272,hb⟩:∃ x,x=w267.heap.size:=⟨_,rfl⟩;rw [← hb] at Y B272
   have Nb261_b272:=nb_ hb B261;replace B261:=ba_ hw B261;have LK1_b272:=lk_ hb K1;replace K1:=ka_ hw K1;have LKP_b272:=lk_ hb KP;replace KP:=ka_ hw KP;clear hw hb
   refine sv_ gz3_8_1 Y fun a274 e=>?_;clear Y
   have h39:=pt_ F e;replace F:=pu_ F e;replace h38:=so_ e h38;clear e
   have Y:(execOp a274.eval oz3_8_2).run Tryz.prog w273=.ok (.value (.agg #[.int .i64 p.1,.int .i64 p.2.1,.int .i64 p.2.2.1,.int .i64 p.2.2.2.1.k,.string (str p.2.2.2.1.nm),.int .i64 p.2.2.2.1.i,.slice p.2.2.2.2.1 p.2.2.2.1.args.length p.2.2.2.2.2])) w273:=by have r9:=F.of h9;have qq0:w273.cell? ⟨b261,0,none⟩=some (.int .i64 p.1):=B261.cell 0;have qq1:w273.cell? ⟨b261,1,none⟩=some (.int .i64 p.2.1):=B261.cell 1;have qq2:w273.cell? ⟨b261,2,none⟩=some (.int .i64 p.2.2.1):=B261.cell 2;have qq3:w273.cell? ⟨b261,3,none⟩=some (.int .i64 p.2.2.2.1.k):=B261.cell 3;have qq4:w273.cell? ⟨b261,4,none⟩=some (.string (str p.2.2.2.1.nm)):=B261.cell 4;have qq5:w273.cell? ⟨b261,5,none⟩=some (.int .i64 p.2.2.2.1.i):=B261.cell 5;have qq6:w273.cell? ⟨b261,6,none⟩=some (.slice p.2.2.2.2.1 p.2.2.2.1.args.length p.2.2.2.2.2):=B261.cell 6;unfold oz3_8_2;go_simp
   refine sv_ gz3_8_2 Y fun a275 e=>?_;clear Y
   have h40:=pt_ F e;replace F:=pu_ F e;replace h38:=so_ e h38;replace h39:=so_ e h39;clear e
   have Y:(execOp a275.eval oz3_8_3).run Tryz.prog w273=.ok (.enter 7 #[.pointer (some ⟨pa,0,none⟩),.slice (some ⟨b272,0,none⟩) 0 0,.agg #[.int .i64 p.1,.int .i64 p.2.1,.int .i64 p.2.2.1,.int .i64 p.2.2.2.1.k,.string (str p.2.2.2.1.nm),.int .i64 p.2.2.2.1.i,.slice p.2.2.2.2.1 p.2.2.2.1.args.length p.2.2.2.2.2]]) w273:=by unfold oz3_8_3;go_simp
   have hcall:=does_any (va:=some ⟨b272,0,none⟩) (vc:=0) (kd:=p.1) (nn:=p.2.2.1) (HPO.out.on KP) (by have h1:=HMD.out;have h2:=HLU.out;have h3:=HLM.out;omega) HKQ.out (HTP.out.on K1)
   refine st_call gz3_8_3 rfl (wanted_free rfl) Y ((hcall).mono ?_);clear Y
   rintro e9 w276 ⟨⟨rv,rw9,rfl⟩,hc⟩
   clear B261
   clear B272
   replace K1:=K1.trans (hc.2.less fun g hg=>⟨Nat.lt_of_lt_of_le hg K1.size,fun h=>absurd (HPO.out.rb g h).1 (Nat.not_le.2 (Nat.lt_of_lt_of_le hg HWB))⟩);clear KP
   have kk:=trivial
   clear hcall
   obtain ⟨⟨R2,md2,f2,n2,hpo,hm1,hm2,hsm⟩,-⟩:=hc
   have HM2:Hid (md2 ≤ ((j + 1:Nat):Int)):=Lib.hid (by have:=HMD.out;omega);clear HPO hsm hm1 hm2 HMD;have HPO:=Lib.hid hpo;clear hpo
   clear kk
   have KP:=Keep.refl (fun g=>g < w276.heap.size) w276
   refine ⟨_,rfl,fun a277 e=>?_⟩
   replace F:=pu_ F e;replace h38:=so_ e h38;replace h39:=so_ e h39;replace h40:=so_ e h40;clear e
   refine st_end ?_
   replace h1:=F.of h1;replace h2:=F.of h2;replace h6:=F.of h6;replace h7:=F.of h7;replace h9:=F.of h9;replace h29:=F.of h29;replace h30:=F.of h30;replace h31:=F.of h31;replace h32:=F.of h32;replace h33:=F.of h33;replace h34:=F.of h34;replace h35:=F.of h35;replace h36:=F.of h36;replace h37:=F.of h37;have R:=F.r;clear F
   change (cz3_32).wp _ _ _ _
   change (Code.region 9 Oz3_9 false).wp _ _ _ _
   refine reg_in (l:=[0,1]) rfl ?_
   have F:FE_ _ [] a277 a277:=⟨R,Ag_.refl _⟩;clear R
   have Y:(execOp a277.eval oz3_9_0).run Tryz.prog w276=.ok (.value (.int .i64 ((j:Int) + 1))) w276:=by have r31:=F.of h31;have hwj:IntKind.i64.wrap ((j:Int) + 1)=(j:Int) + 1:=(by rw [IntKind.wrap_i64];have:=HLU.out;omega);unfold oz3_9_0;go_simp
   refine sv_ gz3_9_0 Y fun a278 e=>?_;clear Y
   have h42:=pt_ F e;replace F:=pu_ F e;clear e
   refine sv_ gz3_9_1 (ym_ rfl h42) fun a279 e=>?_
   clear h31;have h31:=pt_ F e;replace F:=pu_ F e;replace h42:=so_ e h42;clear e
   refine st_end ?_
   replace h1:=F.of h1;replace h2:=F.of h2;replace h6:=F.of h6;replace h7:=F.of h7;replace h9:=F.of h9;replace h29:=F.of h29;replace h30:=F.of h30;replace h32:=F.of h32;replace h33:=F.of h33;replace h34:=F.of h34;replace h35:=F.of h35;replace h36:=F.of h36;replace h37:=F.of h37;replace h38:=F.of h38;replace h39:=F.of h39;replace h40:=F.of h40;have R:=F.r;clear F
   have HPR:=Lib.hid (HPO.out.on KP);clear HPO KP;have HPO:=HPR;clear HPR
   exact ⟨_,by omega,j + 1,_,_,_,_,rfl,R,h1,h2,h6,h7,h29,h30,h31,K1,(by omega),HPO,HM2⟩
theorem apart_walk {W:World} {sc mc:Nat} {sa ma:Option Addr} {us vs:List OP} {kq:Int} (hU:OSl W.heap.size W sa us) (hV:OSl W.heap.size W ma vs) (hu:us.length ≤ 1152921504606846975) (hv:vs.length ≤ 1152921504606846975) (hk:(ik kq).wf=true):Calls Tryz.prog 3 #[.slice sa us.length sc,.slice ma vs.length mc,.int .i64 kq] W fun e w'=>e=.returned (.bool true)∧Keep (fun g=>g < W.heap.size) W w':=by
  refine enter_sx Tryz.func3 bodyz3 rfl (by show (3:Nat) ≤ 136;decide) fun f0 R0 hs=>?_
  exact apart_w R0 (hs 0 _ rfl) (hs 1 _ rfl) (hs 2 _ rfl) (Keep.refl _ W) (Lib.hid hU) (Lib.hid hV) (Lib.hid hu) (Lib.hid hv) (Lib.hid hk)
end Go.Proofs.YtnfcbalppecnfaaGreat
