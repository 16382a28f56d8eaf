/-
  The law ArithNumbers, walked. No condition but where its term lies.
-/
import Derived.Test.YtmgephleogiaoaaNAr26
namespace Go.Proofs.Ytmgephleogiaoaa
open Go.RowKit Go.Maps
set_option linter.unusedVariables false
set_option linter.unusedSimpArgs false
theorem two_cells {w:World} {b:Nat} {t u:Tm} {p q:Option Addr} {c d:Nat} (hb:Blk w b 24 #[.int .i64 t.k,.string (str t.nm),.int .i64 t.i,.slice p t.args.length c,.int .i64 u.k,.string (str u.nm),.int .i64 u.i,.slice q u.args.length d]) (hT:TmAt w.heap.size w t p c) (hU:TmAt w.heap.size w u q d) {j:Nat} (hj:j < 2) :
    ∃ T A C,TmAt w.heap.size w T A C∧w.cell? ⟨b,j * 4,none⟩=some (.int .i64 T.k)∧w.cell? ⟨b,j * 4 + 1,none⟩=some (.string (str T.nm))∧w.cell? ⟨b,j * 4 + 2,none⟩=some (.int .i64 T.i)∧w.cell? ⟨b,j * 4 + 3,none⟩=some (.slice A T.args.length C):=by
  match j,hj with
  | 0,_=>exact ⟨t,p,c,hT,hb.cell 0,hb.cell 1,hb.cell 2,hb.cell 3⟩
  | 1,_=>exact ⟨u,q,d,hU,hb.cell 4,hb.cell 5,hb.cell 6,hb.cell 7⟩
def oA4_0_0:Oper:=⟨some 6,Op.assign (Operand.const (Value.bool false)),4, "law.go:42",#[],none⟩
def OA4_0:Array Oper:=List.toArray (oA4_0_0::[])
theorem gA4_0_0:OA4_0[0]? = some oA4_0_0:=rfl
def cA4_1:Code:=Code.region 0 OA4_0 false
def oA4_1_0:Oper:=⟨some 17,Op.call { callee:=Callee.value (Operand.func 9),args:=#[],argTypes:=#[] },4, "law.go:43",#[],none⟩
def oA4_1_1:Oper:=⟨some 18,Op.unOp Go.UnOp.not 4 (Operand.tmp 17),4, "law.go:43",#[ed_ 0],none⟩
def OA4_1:Array Oper:=List.toArray (oA4_1_0::oA4_1_1::[])
theorem gA4_1_0:OA4_1[0]? = some oA4_1_0:=rfl
theorem gA4_1_1:OA4_1[1]? = some oA4_1_1:=rfl
def cA4_4:Code:=Code.region 1 OA4_1 false
def oA4_2_0:Oper:=⟨some 6,Op.assign (Operand.const (Value.bool false)),4, "law.go:44",#[],none⟩
def OA4_2:Array Oper:=List.toArray (oA4_2_0::[])
def cA4_7:Code:=Code.region 2 OA4_2 false
def cA4_6:Code:=Code.seq cA4_7 Code.ret
def cA4_5:Code:=Code.cond (Operand.tmp 18) cA4_6 Code.skip
def cA4_3:Code:=Code.seq cA4_4 cA4_5
def oA4_3_0:Oper:=⟨some 19,Op.move (Operand.tmp 0),9, "law.go:46",#[],none⟩
def oA4_3_1:Oper:=⟨some 20,Op.move (Operand.tmp 1),2, "law.go:46",#[],none⟩
def oA4_3_2:Oper:=⟨some 21,Op.move (Operand.tmp 2),2, "law.go:46",#[],none⟩
def oA4_3_3:Oper:=⟨some 22,Op.call { callee:=Callee.value (Operand.func 14),args:=#[Operand.tmp 19,Operand.tmp 20,Operand.tmp 21],argTypes:=#[9,2,2] },24, "law.go:46",#[ed_ 0,ed_ 1,ed_ 2],none⟩
def oA4_3_4:Oper:=⟨some 23,Op.move (Operand.tmp 0),9, "law.go:46",#[],none⟩
def oA4_3_5:Oper:=⟨some 24,Op.move (Operand.tmp 1),2, "law.go:46",#[],none⟩
def oA4_3_6:Oper:=⟨some 25,Op.call { callee:=Callee.value (Operand.func 16),args:=#[Operand.tmp 24],argTypes:=#[2] },24, "law.go:46",#[ed_ 5,ec_ 3],none⟩
def oA4_3_7:Oper:=⟨some 26,Op.buildSlice 22 1 #[(0,Operand.tmp 25)],22, "law.go:46",#[ed_ 6],none⟩
def oA4_3_8:Oper:=⟨some 27,Op.call { callee:=Callee.value (Operand.func 15),args:=#[Operand.tmp 23,Operand.tmp 26],argTypes:=#[9,22] },24, "law.go:46",#[ed_ 4,ed_ 7,ec_ 6],none⟩
def oA4_3_9:Oper:=⟨some 28,Op.buildSlice 22 2 #[(0,Operand.tmp 22),(1,Operand.tmp 27)],22, "law.go:46",#[ed_ 3,ed_ 8],none⟩
def oA4_3_10:Oper:=⟨some 29,Op.call { callee:=Callee.builtin Go.Builtin.len,args:=#[Operand.tmp 28],argTypes:=#[22] },3, "law.go:46",#[ed_ 9],none⟩
def oA4_3_11:Oper:=⟨some 30,Op.move (Operand.const (Value.int IntKind.i64 0)),3, "law.go:46",#[],none⟩
def OA4_3:Array Oper:=List.toArray (oA4_3_0::oA4_3_1::oA4_3_2::oA4_3_3::oA4_3_4::oA4_3_5::oA4_3_6::oA4_3_7::oA4_3_8::oA4_3_9::oA4_3_10::oA4_3_11::[])
theorem gA4_3_0:OA4_3[0]? = some oA4_3_0:=rfl
theorem gA4_3_1:OA4_3[1]? = some oA4_3_1:=rfl
theorem gA4_3_2:OA4_3[2]? = some oA4_3_2:=rfl
theorem gA4_3_3:OA4_3[3]? = some oA4_3_3:=rfl
theorem gA4_3_4:OA4_3[4]? = some oA4_3_4:=rfl
theorem gA4_3_5:OA4_3[5]? = some oA4_3_5:=rfl
theorem gA4_3_6:OA4_3[6]? = some oA4_3_6:=rfl
theorem gA4_3_7:OA4_3[7]? = some oA4_3_7:=rfl
theorem gA4_3_8:OA4_3[8]? = some oA4_3_8:=rfl
theorem gA4_3_9:OA4_3[9]? = some oA4_3_9:=rfl
theorem gA4_3_10:OA4_3[10]? = some oA4_3_10:=rfl
theorem gA4_3_11:OA4_3[11]? = some oA4_3_11:=rfl
def cA4_12:Code:=Code.region 3 OA4_3 false
def oA4_4_0:Oper:=⟨some 31,Op.binOp Go.BinOp.lss 3 (Operand.tmp 30) (Operand.tmp 29) 3,0, "law.go:46",#[],none⟩
def OA4_4:Array Oper:=List.toArray (oA4_4_0::[])
theorem gA4_4_0:OA4_4[0]? = some oA4_4_0:=rfl
def cA4_16:Code:=Code.region 4 OA4_4 false
def cA4_20:Code:=Code.exit 0
def cA4_18:Code:=Code.cond (Operand.tmp 31) Code.skip cA4_20
def oA4_5_0:Oper:=⟨some 32,Op.indexAddr 22 (Operand.tmp 28) (Operand.tmp 30),0, "law.go:46",#[],none⟩
def oA4_5_1:Oper:=⟨some 33,Op.load 24 (Operand.tmp 32),24, "law.go:46",#[ed_ 0],none⟩
def oA4_5_2:Oper:=⟨some 8,Op.alloc 24,0, "law.go:46",#[],none⟩
def oA4_5_3:Oper:=⟨none,Op.store 24 (Operand.tmp 8) (Operand.tmp 33),0, "law.go:46",#[ed_ 2,ed_ 1,ep_ 0,ep_ 1,ep_ 2],none⟩
def OA4_5:Array Oper:=List.toArray (oA4_5_0::oA4_5_1::oA4_5_2::oA4_5_3::[])
theorem gA4_5_0:OA4_5[0]? = some oA4_5_0:=rfl
theorem gA4_5_1:OA4_5[1]? = some oA4_5_1:=rfl
theorem gA4_5_2:OA4_5[2]? = some oA4_5_2:=rfl
theorem gA4_5_3:OA4_5[3]? = some oA4_5_3:=rfl
def cA4_24:Code:=Code.region 5 OA4_5 false
def oA4_6_0:Oper:=⟨some 35,Op.load 24 (Operand.tmp 8),24, "law.go:47",#[],none⟩
def oA4_6_1:Oper:=⟨some 36,Op.call { callee:=Callee.value (Operand.func 10),args:=#[Operand.tmp 35],argTypes:=#[24] },26, "law.go:47",#[ed_ 0],none⟩
def oA4_6_2:Oper:=⟨some 34,Op.move (Operand.tmp 36),26, "law.go:47",#[ed_ 1],none⟩
def oA4_6_3:Oper:=⟨some 37,Op.extract (Operand.tmp 34) 0,2, "law.go:47",#[ed_ 2],none⟩
def oA4_6_4:Oper:=⟨some 38,Op.extract (Operand.tmp 34) 1,24, "law.go:47",#[ed_ 2,{ on:=7,ground:=Go.Ground.gcOnly Go.Departure.lateStores }],none⟩
def oA4_6_5:Oper:=⟨some 39,Op.extract (Operand.tmp 34) 2,4, "law.go:47",#[ed_ 2,{ on:=8,ground:=Go.Ground.gcOnly Go.Departure.lateStores }],none⟩
def oA4_6_6:Oper:=⟨some 10,Op.alloc 24,0, "law.go:47",#[],none⟩
def oA4_6_7:Oper:=⟨some 9,Op.assign (Operand.tmp 37),2, "law.go:47",#[ed_ 3,ec_ 1,ep_ 0,ep_ 1,ep_ 2,ep_ 3,{ on:=4,ground:=Go.Ground.textOnly Go.Departure.lateStores },{ on:=5,ground:=Go.Ground.textOnly Go.Departure.lateStores },ep_ 6],none⟩
def oA4_6_8:Oper:=⟨none,Op.store 24 (Operand.tmp 10) (Operand.tmp 38),0, "law.go:47",#[ed_ 6,ed_ 4,ec_ 7,ep_ 0,ep_ 1,ep_ 2,ep_ 3,ep_ 4,{ on:=5,ground:=Go.Ground.textOnly Go.Departure.lateStores },ep_ 6,ep_ 7],none⟩
def oA4_6_9:Oper:=⟨some 11,Op.assign (Operand.tmp 39),4, "law.go:47",#[ed_ 5,ec_ 8,ep_ 0,ep_ 1,ep_ 2,ep_ 3,ep_ 4,ep_ 5,ep_ 6,ep_ 7,ep_ 8],none⟩
def OA4_6:Array Oper:=List.toArray (oA4_6_0::oA4_6_1::oA4_6_2::oA4_6_3::oA4_6_4::oA4_6_5::oA4_6_6::oA4_6_7::oA4_6_8::oA4_6_9::[])
theorem gA4_6_0:OA4_6[0]? = some oA4_6_0:=rfl
theorem gA4_6_1:OA4_6[1]? = some oA4_6_1:=rfl
theorem gA4_6_2:OA4_6[2]? = some oA4_6_2:=rfl
theorem gA4_6_3:OA4_6[3]? = some oA4_6_3:=rfl
theorem gA4_6_4:OA4_6[4]? = some oA4_6_4:=rfl
theorem gA4_6_5:OA4_6[5]? = some oA4_6_5:=rfl
theorem gA4_6_6:OA4_6[6]? = some oA4_6_6:=rfl
theorem gA4_6_7:OA4_6[7]? = some oA4_6_7:=rfl
theorem gA4_6_8:OA4_6[8]? = some oA4_6_8:=rfl
theorem gA4_6_9:OA4_6[9]? = some oA4_6_9:=rfl
def cA4_26:Code:=Code.region 6 OA4_6 false
def oA4_7_0:Oper:=⟨some 40,Op.load 24 (Operand.tmp 8),24, "law.go:48",#[],none⟩
def oA4_7_1:Oper:=⟨some 41,Op.call { callee:=Callee.value (Operand.func 11),args:=#[Operand.tmp 40],argTypes:=#[24] },4, "law.go:48",#[ed_ 0],none⟩
def oA4_7_2:Oper:=⟨some 42,Op.unOp Go.UnOp.not 4 (Operand.tmp 41),4, "law.go:48",#[ed_ 1],none⟩
def OA4_7:Array Oper:=List.toArray (oA4_7_0::oA4_7_1::oA4_7_2::[])
theorem gA4_7_0:OA4_7[0]? = some oA4_7_0:=rfl
theorem gA4_7_1:OA4_7[1]? = some oA4_7_1:=rfl
theorem gA4_7_2:OA4_7[2]? = some oA4_7_2:=rfl
def cA4_29:Code:=Code.region 7 OA4_7 false
def oA4_8_0:Oper:=⟨some 43,Op.move (Operand.tmp 9),2, "law.go:49",#[],none⟩
def oA4_8_1:Oper:=⟨some 44,Op.binOp Go.BinOp.neq 2 (Operand.tmp 43) (Operand.const (Value.int IntKind.i64 0)) 2,4, "law.go:49",#[ed_ 0],none⟩
def oA4_8_2:Oper:=⟨some 45,Op.move (Operand.tmp 44),4, "law.go:49",#[ed_ 1],none⟩
def oA4_8_3:Oper:=⟨some 46,Op.fieldAddr 24 (Operand.tmp 10) 0,0, "law.go:49",#[eg_ 2],some (2,false)⟩
def oA4_8_4:Oper:=⟨some 47,Op.load 3 (Operand.tmp 46),3, "law.go:49",#[ed_ 3,eg_ 2],some (2,false)⟩
def oA4_8_5:Oper:=⟨some 48,Op.binOp Go.BinOp.neq 3 (Operand.tmp 47) (Operand.const (Value.int IntKind.i64 0)) 3,4, "law.go:49",#[ed_ 4,eg_ 2],some (2,false)⟩
def oA4_8_6:Oper:=⟨some 49,Op.pick (Operand.tmp 45) (Operand.const (Value.bool true)) (Operand.tmp 48),4, "law.go:49",#[ed_ 2,ed_ 5],none⟩
def oA4_8_7:Oper:=⟨some 50,Op.move (Operand.tmp 49),4, "law.go:49",#[ed_ 6,ec_ 2],none⟩
def oA4_8_8:Oper:=⟨some 51,Op.move (Operand.tmp 11),4, "law.go:49",#[eg_ 7],some (7,false)⟩
def oA4_8_9:Oper:=⟨some 52,Op.pick (Operand.tmp 50) (Operand.const (Value.bool true)) (Operand.tmp 51),4, "law.go:49",#[ed_ 7,ed_ 8],none⟩
def OA4_8:Array Oper:=List.toArray (oA4_8_0::oA4_8_1::oA4_8_2::oA4_8_3::oA4_8_4::oA4_8_5::oA4_8_6::oA4_8_7::oA4_8_8::oA4_8_9::[])
theorem gA4_8_0:OA4_8[0]? = some oA4_8_0:=rfl
theorem gA4_8_1:OA4_8[1]? = some oA4_8_1:=rfl
theorem gA4_8_2:OA4_8[2]? = some oA4_8_2:=rfl
theorem gA4_8_3:OA4_8[3]? = some oA4_8_3:=rfl
theorem gA4_8_4:OA4_8[4]? = some oA4_8_4:=rfl
theorem gA4_8_5:OA4_8[5]? = some oA4_8_5:=rfl
theorem gA4_8_6:OA4_8[6]? = some oA4_8_6:=rfl
theorem gA4_8_7:OA4_8[7]? = some oA4_8_7:=rfl
theorem gA4_8_8:OA4_8[8]? = some oA4_8_8:=rfl
theorem gA4_8_9:OA4_8[9]? = some oA4_8_9:=rfl
def cA4_33:Code:=Code.region 8 OA4_8 false
def oA4_9_0:Oper:=⟨some 6,Op.assign (Operand.const (Value.bool false)),4, "law.go:50",#[],none⟩
def OA4_9:Array Oper:=List.toArray (oA4_9_0::[])
theorem gA4_9_0:OA4_9[0]? = some oA4_9_0:=rfl
def cA4_36:Code:=Code.region 9 OA4_9 false
def cA4_35:Code:=Code.seq cA4_36 Code.ret
def cA4_34:Code:=Code.cond (Operand.tmp 52) cA4_35 Code.skip
def cA4_32:Code:=Code.seq cA4_33 cA4_34
def cA4_39:Code:=Code.exit 1
def cA4_31:Code:=Code.seq cA4_32 cA4_39
def cA4_30:Code:=Code.cond (Operand.tmp 42) cA4_31 Code.skip
def cA4_28:Code:=Code.seq cA4_29 cA4_30
def oA4_10_0:Oper:=⟨some 53,Op.load 24 (Operand.tmp 8),24, "law.go:54",#[],none⟩
def oA4_10_1:Oper:=⟨some 54,Op.call { callee:=Callee.value (Operand.func 12),args:=#[Operand.tmp 53],argTypes:=#[24] },30, "law.go:54",#[ed_ 0],none⟩
def oA4_10_2:Oper:=⟨some 12,Op.alloc 30,0, "law.go:54",#[],none⟩
def oA4_10_3:Oper:=⟨none,Op.store 30 (Operand.tmp 12) (Operand.tmp 54),0, "law.go:54",#[ed_ 2,ed_ 1,ec_ 1,ep_ 0,ep_ 1,ep_ 2],none⟩
def OA4_10:Array Oper:=List.toArray (oA4_10_0::oA4_10_1::oA4_10_2::oA4_10_3::[])
theorem gA4_10_0:OA4_10[0]? = some oA4_10_0:=rfl
theorem gA4_10_1:OA4_10[1]? = some oA4_10_1:=rfl
theorem gA4_10_2:OA4_10[2]? = some oA4_10_2:=rfl
theorem gA4_10_3:OA4_10[3]? = some oA4_10_3:=rfl
def cA4_42:Code:=Code.region 10 OA4_10 false
def oA4_11_0:Oper:=⟨some 55,Op.move (Operand.tmp 9),2, "law.go:55",#[],none⟩
def oA4_11_1:Oper:=⟨some 56,Op.fieldAddr 30 (Operand.tmp 12) 0,0, "law.go:55",#[],none⟩
def oA4_11_2:Oper:=⟨some 57,Op.load 2 (Operand.tmp 56),2, "law.go:55",#[ed_ 1],none⟩
def oA4_11_3:Oper:=⟨some 58,Op.binOp Go.BinOp.neq 2 (Operand.tmp 55) (Operand.tmp 57) 2,4, "law.go:55",#[ed_ 0,ed_ 2],none⟩
def oA4_11_4:Oper:=⟨some 59,Op.move (Operand.tmp 58),4, "law.go:55",#[ed_ 3],none⟩
def oA4_11_5:Oper:=⟨some 60,Op.move (Operand.tmp 11),4, "law.go:55",#[eg_ 4],some (4,false)⟩
def oA4_11_6:Oper:=⟨some 61,Op.fieldAddr 30 (Operand.tmp 12) 2,0, "law.go:55",#[eg_ 4],some (4,false)⟩
def oA4_11_7:Oper:=⟨some 62,Op.load 4 (Operand.tmp 61),4, "law.go:55",#[ed_ 6,eg_ 4],some (4,false)⟩
def oA4_11_8:Oper:=⟨some 63,Op.binOp Go.BinOp.neq 4 (Operand.tmp 60) (Operand.tmp 62) 4,4, "law.go:55",#[ed_ 5,ed_ 7,eg_ 4],some (4,false)⟩
def oA4_11_9:Oper:=⟨some 64,Op.pick (Operand.tmp 59) (Operand.const (Value.bool true)) (Operand.tmp 63),4, "law.go:55",#[ed_ 4,ed_ 8],none⟩
def oA4_11_10:Oper:=⟨some 65,Op.move (Operand.tmp 64),4, "law.go:55",#[ed_ 9,ec_ 4],none⟩
def oA4_11_11:Oper:=⟨some 66,Op.load 24 (Operand.tmp 10),24, "law.go:55",#[eg_ 10],some (10,false)⟩
def oA4_11_12:Oper:=⟨some 67,Op.fieldAddr 30 (Operand.tmp 12) 1,0, "law.go:55",#[eg_ 10],some (10,false)⟩
def oA4_11_13:Oper:=⟨some 68,Op.load 24 (Operand.tmp 67),24, "law.go:55",#[ed_ 12,eg_ 10],some (10,false)⟩
def oA4_11_14:Oper:=⟨some 69,Op.call { callee:=Callee.value (Operand.func 13),args:=#[Operand.tmp 66,Operand.tmp 68],argTypes:=#[24,24] },4, "law.go:55",#[ed_ 11,ed_ 13,ec_ 10,eg_ 10],some (10,false)⟩
def oA4_11_15:Oper:=⟨some 70,Op.unOp Go.UnOp.not 4 (Operand.tmp 69),4, "law.go:55",#[ed_ 14,eg_ 10],some (10,false)⟩
def oA4_11_16:Oper:=⟨some 71,Op.pick (Operand.tmp 65) (Operand.const (Value.bool true)) (Operand.tmp 70),4, "law.go:55",#[ed_ 10,ed_ 15],none⟩
def OA4_11:Array Oper:=List.toArray (oA4_11_0::oA4_11_1::oA4_11_2::oA4_11_3::oA4_11_4::oA4_11_5::oA4_11_6::oA4_11_7::oA4_11_8::oA4_11_9::oA4_11_10::oA4_11_11::oA4_11_12::oA4_11_13::oA4_11_14::oA4_11_15::oA4_11_16::[])
theorem gA4_11_0:OA4_11[0]? = some oA4_11_0:=rfl
theorem gA4_11_1:OA4_11[1]? = some oA4_11_1:=rfl
theorem gA4_11_2:OA4_11[2]? = some oA4_11_2:=rfl
theorem gA4_11_3:OA4_11[3]? = some oA4_11_3:=rfl
theorem gA4_11_4:OA4_11[4]? = some oA4_11_4:=rfl
theorem gA4_11_5:OA4_11[5]? = some oA4_11_5:=rfl
theorem gA4_11_6:OA4_11[6]? = some oA4_11_6:=rfl
theorem gA4_11_7:OA4_11[7]? = some oA4_11_7:=rfl
theorem gA4_11_8:OA4_11[8]? = some oA4_11_8:=rfl
theorem gA4_11_9:OA4_11[9]? = some oA4_11_9:=rfl
theorem gA4_11_10:OA4_11[10]? = some oA4_11_10:=rfl
theorem gA4_11_11:OA4_11[11]? = some oA4_11_11:=rfl
theorem gA4_11_12:OA4_11[12]? = some oA4_11_12:=rfl
theorem gA4_11_13:OA4_11[13]? = some oA4_11_13:=rfl
theorem gA4_11_14:OA4_11[14]? = some oA4_11_14:=rfl
theorem gA4_11_15:OA4_11[15]? = some oA4_11_15:=rfl
theorem gA4_11_16:OA4_11[16]? = some oA4_11_16:=rfl
def cA4_44:Code:=Code.region 11 OA4_11 false
def oA4_12_0:Oper:=⟨some 6,Op.assign (Operand.const (Value.bool false)),4, "law.go:56",#[],none⟩
def OA4_12:Array Oper:=List.toArray (oA4_12_0::[])
def cA4_47:Code:=Code.region 12 OA4_12 false
def cA4_46:Code:=Code.seq cA4_47 Code.ret
def cA4_45:Code:=Code.cond (Operand.tmp 71) cA4_46 Code.skip
def cA4_43:Code:=Code.seq cA4_44 cA4_45
def cA4_41:Code:=Code.seq cA4_42 cA4_43
def cA4_27:Code:=Code.seq cA4_28 cA4_41
def cA4_25:Code:=Code.seq cA4_26 cA4_27
def cA4_23:Code:=Code.seq cA4_24 cA4_25
def cA4_22:Code:=Code.block 1 cA4_23
def oA4_13_0:Oper:=⟨some 72,Op.binOp Go.BinOp.add 3 (Operand.tmp 30) (Operand.const (Value.int IntKind.i64 1)) 3,3, "law.go:46",#[],none⟩
def oA4_13_1:Oper:=⟨some 30,Op.move (Operand.tmp 72),3, "law.go:46",#[ed_ 0],none⟩
def OA4_13:Array Oper:=List.toArray (oA4_13_0::oA4_13_1::[])
theorem gA4_13_0:OA4_13[0]? = some oA4_13_0:=rfl
theorem gA4_13_1:OA4_13[1]? = some oA4_13_1:=rfl
def cA4_50:Code:=Code.region 13 OA4_13 false
def cA4_21:Code:=Code.seq cA4_22 cA4_50
def cA4_17:Code:=Code.seq cA4_18 cA4_21
def cA4_15:Code:=Code.seq cA4_16 cA4_17
def cA4_14:Code:=Code.loop cA4_15
def cA4_13:Code:=Code.block 0 cA4_14
def cA4_11:Code:=Code.seq cA4_12 cA4_13
def oA4_14_0:Oper:=⟨some 74,Op.move (Operand.tmp 0),9, "law.go:59",#[],none⟩
def oA4_14_1:Oper:=⟨some 75,Op.move (Operand.tmp 1),2, "law.go:59",#[],none⟩
def oA4_14_2:Oper:=⟨some 76,Op.move (Operand.tmp 2),2, "law.go:59",#[],none⟩
def oA4_14_3:Oper:=⟨some 77,Op.call { callee:=Callee.value (Operand.func 17),args:=#[Operand.tmp 74,Operand.tmp 75,Operand.tmp 76],argTypes:=#[9,2,2] },36, "law.go:59",#[ed_ 0,ed_ 1,ed_ 2],none⟩
def oA4_14_4:Oper:=⟨some 73,Op.move (Operand.tmp 77),36, "law.go:59",#[ed_ 3],none⟩
def oA4_14_5:Oper:=⟨some 78,Op.extract (Operand.tmp 73) 0,4, "law.go:59",#[ed_ 4],none⟩
def oA4_14_6:Oper:=⟨some 79,Op.extract (Operand.tmp 73) 1,4, "law.go:59",#[ed_ 4,{ on:=7,ground:=Go.Ground.gcOnly Go.Departure.lateStores }],none⟩
def oA4_14_7:Oper:=⟨some 13,Op.assign (Operand.tmp 78),4, "law.go:59",#[ed_ 5,ec_ 3,ep_ 0,ep_ 1,ep_ 2,ep_ 3,ep_ 4,ep_ 5,{ on:=6,ground:=Go.Ground.textOnly Go.Departure.lateStores }],none⟩
def oA4_14_8:Oper:=⟨some 14,Op.assign (Operand.tmp 79),4, "law.go:59",#[ed_ 6,ec_ 7,ep_ 0,ep_ 1,ep_ 2,ep_ 3,ep_ 4,ep_ 5,ep_ 6,ep_ 7],none⟩
def OA4_14:Array Oper:=List.toArray (oA4_14_0::oA4_14_1::oA4_14_2::oA4_14_3::oA4_14_4::oA4_14_5::oA4_14_6::oA4_14_7::oA4_14_8::[])
theorem gA4_14_0:OA4_14[0]? = some oA4_14_0:=rfl
theorem gA4_14_1:OA4_14[1]? = some oA4_14_1:=rfl
theorem gA4_14_2:OA4_14[2]? = some oA4_14_2:=rfl
theorem gA4_14_3:OA4_14[3]? = some oA4_14_3:=rfl
theorem gA4_14_4:OA4_14[4]? = some oA4_14_4:=rfl
theorem gA4_14_5:OA4_14[5]? = some oA4_14_5:=rfl
theorem gA4_14_6:OA4_14[6]? = some oA4_14_6:=rfl
theorem gA4_14_7:OA4_14[7]? = some oA4_14_7:=rfl
theorem gA4_14_8:OA4_14[8]? = some oA4_14_8:=rfl
def cA4_52:Code:=Code.region 14 OA4_14 false
def oA4_15_0:Oper:=⟨some 81,Op.move (Operand.tmp 0),9, "law.go:60",#[],none⟩
def oA4_15_1:Oper:=⟨some 82,Op.move (Operand.tmp 1),2, "law.go:60",#[],none⟩
def oA4_15_2:Oper:=⟨some 83,Op.move (Operand.tmp 2),2, "law.go:60",#[],none⟩
def oA4_15_3:Oper:=⟨some 84,Op.call { callee:=Callee.value (Operand.func 18),args:=#[Operand.tmp 81,Operand.tmp 82,Operand.tmp 83],argTypes:=#[9,2,2] },36, "law.go:60",#[ed_ 0,ed_ 1,ed_ 2],none⟩
def oA4_15_4:Oper:=⟨some 80,Op.move (Operand.tmp 84),36, "law.go:60",#[ed_ 3],none⟩
def oA4_15_5:Oper:=⟨some 85,Op.extract (Operand.tmp 80) 0,4, "law.go:60",#[ed_ 4],none⟩
def oA4_15_6:Oper:=⟨some 86,Op.extract (Operand.tmp 80) 1,4, "law.go:60",#[ed_ 4,{ on:=7,ground:=Go.Ground.gcOnly Go.Departure.lateStores }],none⟩
def oA4_15_7:Oper:=⟨some 15,Op.assign (Operand.tmp 85),4, "law.go:60",#[ed_ 5,ec_ 3,ep_ 0,ep_ 1,ep_ 2,ep_ 3,ep_ 4,ep_ 5,{ on:=6,ground:=Go.Ground.textOnly Go.Departure.lateStores }],none⟩
def oA4_15_8:Oper:=⟨some 16,Op.assign (Operand.tmp 86),4, "law.go:60",#[ed_ 6,ec_ 7,ep_ 0,ep_ 1,ep_ 2,ep_ 3,ep_ 4,ep_ 5,ep_ 6,ep_ 7],none⟩
def OA4_15:Array Oper:=List.toArray (oA4_15_0::oA4_15_1::oA4_15_2::oA4_15_3::oA4_15_4::oA4_15_5::oA4_15_6::oA4_15_7::oA4_15_8::[])
theorem gA4_15_0:OA4_15[0]? = some oA4_15_0:=rfl
theorem gA4_15_1:OA4_15[1]? = some oA4_15_1:=rfl
theorem gA4_15_2:OA4_15[2]? = some oA4_15_2:=rfl
theorem gA4_15_3:OA4_15[3]? = some oA4_15_3:=rfl
theorem gA4_15_4:OA4_15[4]? = some oA4_15_4:=rfl
theorem gA4_15_5:OA4_15[5]? = some oA4_15_5:=rfl
theorem gA4_15_6:OA4_15[6]? = some oA4_15_6:=rfl
theorem gA4_15_7:OA4_15[7]? = some oA4_15_7:=rfl
theorem gA4_15_8:OA4_15[8]? = some oA4_15_8:=rfl
def cA4_54:Code:=Code.region 15 OA4_15 false
def oA4_16_0:Oper:=⟨some 87,Op.move (Operand.tmp 13),4, "law.go:61",#[],none⟩
def oA4_16_1:Oper:=⟨some 88,Op.move (Operand.tmp 15),4, "law.go:61",#[],none⟩
def oA4_16_2:Oper:=⟨some 89,Op.binOp Go.BinOp.eql 4 (Operand.tmp 87) (Operand.tmp 88) 4,4, "law.go:61",#[ed_ 0,ed_ 1],none⟩
def oA4_16_3:Oper:=⟨some 90,Op.move (Operand.tmp 89),4, "law.go:61",#[ed_ 2],none⟩
def oA4_16_4:Oper:=⟨some 91,Op.move (Operand.tmp 14),4, "law.go:61",#[eg_ 3],some (3,true)⟩
def oA4_16_5:Oper:=⟨some 92,Op.move (Operand.tmp 16),4, "law.go:61",#[eg_ 3],some (3,true)⟩
def oA4_16_6:Oper:=⟨some 93,Op.binOp Go.BinOp.eql 4 (Operand.tmp 91) (Operand.tmp 92) 4,4, "law.go:61",#[ed_ 4,ed_ 5,eg_ 3],some (3,true)⟩
def oA4_16_7:Oper:=⟨some 94,Op.pick (Operand.tmp 90) (Operand.tmp 93) (Operand.const (Value.bool false)),4, "law.go:61",#[ed_ 3,ed_ 6],none⟩
def oA4_16_8:Oper:=⟨some 6,Op.assign (Operand.tmp 94),4, "law.go:61",#[ed_ 7,ec_ 3,ep_ 0,ep_ 1,ep_ 2,ep_ 3,ep_ 4,ep_ 5,ep_ 6,ep_ 7],none⟩
def OA4_16:Array Oper:=List.toArray (oA4_16_0::oA4_16_1::oA4_16_2::oA4_16_3::oA4_16_4::oA4_16_5::oA4_16_6::oA4_16_7::oA4_16_8::[])
theorem gA4_16_0:OA4_16[0]? = some oA4_16_0:=rfl
theorem gA4_16_1:OA4_16[1]? = some oA4_16_1:=rfl
theorem gA4_16_2:OA4_16[2]? = some oA4_16_2:=rfl
theorem gA4_16_3:OA4_16[3]? = some oA4_16_3:=rfl
theorem gA4_16_4:OA4_16[4]? = some oA4_16_4:=rfl
theorem gA4_16_5:OA4_16[5]? = some oA4_16_5:=rfl
theorem gA4_16_6:OA4_16[6]? = some oA4_16_6:=rfl
theorem gA4_16_7:OA4_16[7]? = some oA4_16_7:=rfl
theorem gA4_16_8:OA4_16[8]? = some oA4_16_8:=rfl
def cA4_56:Code:=Code.region 16 OA4_16 false
def cA4_55:Code:=Code.seq cA4_56 Code.ret
def cA4_53:Code:=Code.seq cA4_54 cA4_55
def cA4_51:Code:=Code.seq cA4_52 cA4_53
def cA4_10:Code:=Code.seq cA4_11 cA4_51
def cA4_2:Code:=Code.seq cA4_3 cA4_10
def cA4_0:Code:=Code.seq cA4_1 cA4_2
theorem enA4_10:Enters Try.prog 10:=enters_of Try.func10 (by kernel_rfl) rfl
theorem enA4_11:Enters Try.prog 11:=enters_of Try.func11 (by kernel_rfl) rfl
theorem enA4_12:Enters Try.prog 12:=enters_of Try.func12 (by kernel_rfl) rfl
theorem enA4_13:Enters Try.prog 13:=enters_of Try.func13 (by kernel_rfl) rfl
theorem enA4_15:Enters Try.prog 15:=enters_of Try.func15 (by kernel_rfl) rfl
theorem enA4_16:Enters Try.prog 16:=enters_of Try.func16 (by kernel_rfl) rfl
theorem bodyA4:Try.f4.body=some cA4_0:=by kernel_rfl
set_option maxRecDepth 100000 in
set_option maxHeartbeats 4000000 in
theorem numbers_w {W:World} {nm:List UInt8} {i k:Int} {f0:Act} {w0:World} (R:FrS 95 f0) (h0:f0.tmps[0]? = some (.string (str nm))) (h1:f0.tmps[1]? = some (.int .i64 i)) (h2:f0.tmps[2]? = some (.int .i64 k)) (K1:Keep (fun g=>g < W.heap.size) W w0)  (HNM:Hid (nm.length ≤ maxLen)) (HI:Hid ((Lit.int .i64 i).wf=true∧(Lit.int .i64 k).wf=true)):cA4_0.wp Try.prog (bodyPost Try.prog Try.f4 (fun e w'=>e=.returned (.bool true)∧Keep (fun g=>g < W.heap.size) W w')) f0 w0:=by
 refine wp_seq (x:=cA4_1) (y:=cA4_2) ?_
 change (Code.region 0 OA4_0 false).wp _ _ _ _
 refine reg_in (l:=[0]) rfl ?_
 have F:=fe_ R;clear R
 have Y:(execOp f0.eval oA4_0_0).run Try.prog w0=.ok (.value (.bool false)) w0:=by unfold oA4_0_0;go_simp
 refine sw_ gA4_0_0 Y F fun a1 F h6=>?_;clear Y
 refine st_end ?_
 replace h0:=F.of h0;replace h1:=F.of h1;replace h2:=F.of h2;have R:=F.r;clear F
 change (cA4_2).wp _ _ _ _
 refine wp_seq (x:=cA4_3) (y:=cA4_10) ?_
 refine wp_seq (x:=cA4_4) (y:=cA4_5) ?_
 change (Code.region 1 OA4_1 false).wp _ _ _ _
 refine reg_in (l:=[0,1]) rfl ?_
 have F:=fe_ R;clear R
 have Y:(execOp a1.eval oA4_1_0).run Try.prog w0=.ok (.enter 9 #[]) w0:=by unfold oA4_1_0;go_simp
 refine st_call gA4_1_0 rfl (wanted_free rfl) Y ((alive_any _).mono ?_);clear Y
 rintro e9 w2 ⟨rfl,kk⟩
 replace K1:=keep_onto K1 kk
 clear kk
 refine ⟨_,rfl,fun a3 e=>?_⟩
 have h17:=pt_ F e;replace F:=pu_ F e;clear e
 have Y:(execOp a3.eval oA4_1_1).run Try.prog w2=.ok (.value (.bool false)) w2:=by unfold oA4_1_1;go_simp
 refine sw_ gA4_1_1 Y F fun a4 F h18=>?_;clear Y h17
 refine st_end ?_
 replace h0:=F.of h0;replace h1:=F.of h1;replace h2:=F.of h2;replace h6:=F.of h6;have R:=F.r;clear F
 change (cA4_5).wp _ _ _ _
 refine wp_cond_false (x:=cA4_6) (y:=Code.skip) (eval_slot h18) ?_
 refine wp_skip ?_
 change (cA4_10).wp _ _ _ _
 refine wp_seq (x:=cA4_11) (y:=cA4_51) ?_
 refine wp_seq (x:=cA4_12) (y:=cA4_13) ?_
 change (Code.region 3 OA4_3 false).wp _ _ _ _
 refine reg_in (l:=[0,1,2,3,4,5,6,7,8,9,10,11]) rfl ?_
 have F:=fe_ R;clear R
 refine sw_ gA4_3_0 (ym_ rfl (F.of h0)) F fun a5 F h19=>?_
 refine sv_ gA4_3_1 (ym_ rfl (F.of h1)) fun a6 e=>?_
 have h20:=pt_ F e;replace F:=pu_ F e;replace h19:=so_ e h19;clear e
 refine sv_ gA4_3_2 (ym_ rfl (F.of h2)) fun a7 e=>?_
 have h21:=pt_ F e;replace F:=pu_ F e;replace h19:=so_ e h19;replace h20:=so_ e h20;clear e
 have Y:(execOp a7.eval oA4_3_3).run Try.prog w2=.ok (.enter 14 #[.string (str nm),.int .i64 i,.int .i64 k]) w2:=by unfold oA4_3_3;go_simp
 refine st_call gA4_3_3 rfl (wanted_free rfl) Y ((opT_any (W:=w2) (nm:=nm) (i:=i) (k:=k) HNM.out HI.out.1 HI.out.2).mono ?_);clear Y
 rintro e9 w8 ⟨ao,co,rfl,hx,kk⟩
 replace K1:=keep_onto K1 kk
 clear kk
 have HXo:=Lib.hid hx.at_;clear hx
 have KXo:=Keep.refl (fun g=>g < w8.heap.size) w8
 refine ⟨_,rfl,fun a9 e=>?_⟩
 clear h19 h20 h21;have h22:=pt_ F e;replace F:=pu_ F e;clear e
 refine sv_ gA4_3_4 (ym_ rfl (F.of h0)) fun a10 e=>?_
 have h23:=pt_ F e;replace F:=pu_ F e;replace h22:=so_ e h22;clear e
 refine sv_ gA4_3_5 (ym_ rfl (F.of h1)) fun a11 e=>?_
 have h24:=pt_ F e;replace F:=pu_ F e;replace h22:=so_ e h22;replace h23:=so_ e h23;clear e
 refine st_call gA4_3_6 rfl (wanted_free rfl) (yc1_ enA4_16 rfl h24) ((refN_any _ i).mono ?_)
 rintro e9 w12 ⟨rfl,kk⟩
 replace K1:=keep_onto K1 kk
 replace KXo:=keep_onto KXo kk
 clear kk
 refine ⟨_,rfl,fun a13 e=>?_⟩
 clear h24;have h25:=pt_ F e;replace F:=pu_ F e;replace h22:=so_ e h22;replace h23:=so_ e h23;clear e
 have Y:(execOp a13.eval oA4_3_7).run Try.prog w12=.ok (.value (.slice (some ⟨w12.heap.size,0,none⟩) 1 1)) (w12.alloc (.cells #[.int .i64 ((Tm.node 2 [] i []).k),.string (str (Tm.node 2 [] i []).nm),.int .i64 ((Tm.node 2 [] i []).i),.slice none (Tm.node 2 [] i []).args.length 0] 24)):=by unfold oA4_3_7;go_simp
 have B14:=Blk.new w12 24 #[.int .i64 ((Tm.node 2 [] i []).k),.string (str (Tm.node 2 [] i []).nm),.int .i64 ((Tm.node 2 [] i []).i),.slice none (Tm.node 2 [] i []).args.length 0]
 obtain ⟨w15,hw⟩:∃ x,x=w12.alloc (.cells #[.int .i64 ((Tm.node 2 [] i []).k),.string (str (Tm.node 2 [] i []).nm),.int .i64 ((Tm.node 2 [] i []).i),.slice none (Tm.node 2 [] i []).args.length 0] 24):=⟨_,rfl⟩;rw [← hw] at Y B14
 obtain ⟨b14,hb⟩:∃ x,x=w12.heap.size:=⟨_,rfl⟩;rw [← hb] at Y B14
 have LK1_b14:=lk_ hb K1;replace K1:=ka_ hw K1;have LKXo_b14:=lk_ hb KXo;replace KXo:=ka_ hw KXo;clear hw hb
 refine sv_ gA4_3_7 Y fun a16 e=>?_;clear Y
 clear h25;have h26:=pt_ F e;replace F:=pu_ F e;replace h22:=so_ e h22;replace h23:=so_ e h23;clear e
 have hT:TmAt w15.heap.size w15 (Tm.node 4 nm 0 [Tm.node 2 [] i []]) (some ⟨b14,0,none⟩) 1:=comp_at (ps:=[(Tm.node 2 [] i [],none,0)]) B14 (fun p hp=>by rw [List.mem_singleton.1 hp];exact tm_leaf (by decide) HI.out.1 (by decide)) HNM.out (Nat.le_of_ble_eq_true rfl)
 refine st_call gA4_3_8 rfl (wanted_free rfl) (yc2_ enA4_15 rfl h23 h26) ((refC_any _ nm [Tm.node 2 [] i []] (some ⟨b14,0,none⟩) 1).mono ?_)
 rintro e9 w17 ⟨rfl,kk⟩
 replace K1:=keep_onto K1 kk
 replace KXo:=keep_onto KXo kk
 replace B14:=blk_on B14 kk
 have kk9:=kk
 clear kk
 have HXn:=Lib.hid (hT.on kk9)
 have KXn:=Keep.refl (fun g=>g < w17.heap.size) w17
 clear hT kk9
 refine ⟨_,rfl,fun a18 e=>?_⟩
 clear h23 h26;have h27:=pt_ F e;replace F:=pu_ F e;replace h22:=so_ e h22;clear e
 have Y:(execOp a18.eval oA4_3_9).run Try.prog w17=.ok (.value (.slice (some ⟨w17.heap.size,0,none⟩) 2 2)) (w17.alloc (.cells #[.int .i64 ((opT nm i k).k),.string (str (opT nm i k).nm),.int .i64 ((opT nm i k).i),.slice ao (opT nm i k).args.length co,.int .i64 ((Tm.node 4 nm 0 [Tm.node 2 [] i []]).k),.string (str (Tm.node 4 nm 0 [Tm.node 2 [] i []]).nm),.int .i64 ((Tm.node 4 nm 0 [Tm.node 2 [] i []]).i),.slice (some ⟨b14,0,none⟩) (Tm.node 4 nm 0 [Tm.node 2 [] i []]).args.length 1] 24)):=by unfold oA4_3_9;go_simp
 have B19:=Blk.new w17 24 #[.int .i64 ((opT nm i k).k),.string (str (opT nm i k).nm),.int .i64 ((opT nm i k).i),.slice ao (opT nm i k).args.length co,.int .i64 ((Tm.node 4 nm 0 [Tm.node 2 [] i []]).k),.string (str (Tm.node 4 nm 0 [Tm.node 2 [] i []]).nm),.int .i64 ((Tm.node 4 nm 0 [Tm.node 2 [] i []]).i),.slice (some ⟨b14,0,none⟩) (Tm.node 4 nm 0 [Tm.node 2 [] i []]).args.length 1]
 obtain ⟨w20,hw⟩:∃ x,x=w17.alloc (.cells #[.int .i64 ((opT nm i k).k),.string (str (opT nm i k).nm),.int .i64 ((opT nm i k).i),.slice ao (opT nm i k).args.length co,.int .i64 ((Tm.node 4 nm 0 [Tm.node 2 [] i []]).k),.string (str (Tm.node 4 nm 0 [Tm.node 2 [] i []]).nm),.int .i64 ((Tm.node 4 nm 0 [Tm.node 2 [] i []]).i),.slice (some ⟨b14,0,none⟩) (Tm.node 4 nm 0 [Tm.node 2 [] i []]).args.length 1] 24):=⟨_,rfl⟩;rw [← hw] at Y B19
 obtain ⟨b19,hb⟩:∃ x,x=w17.heap.size:=⟨_,rfl⟩;rw [← hb] at Y B19
 have Nb14_b19:=nb_ hb B14;replace B14:=ba_ hw B14;have LK1_b19:=lk_ hb K1;replace K1:=ka_ hw K1;have LKXo_b19:=lk_ hb KXo;replace KXo:=ka_ hw KXo;have LKXn_b19:=lk_ hb KXn;replace KXn:=ka_ hw KXn;clear hw hb
 refine sw_ gA4_3_9 Y F fun a21 F h28=>?_;clear Y h22 h27
 have Y:(execOp a21.eval oA4_3_10).run Try.prog w20=.ok (.value (.int .i64 2)) w20:=by unfold oA4_3_10;go_simp
 refine sv_ gA4_3_10 Y fun a22 e=>?_;clear Y
 have h29:=pt_ F e;replace F:=pu_ F e;replace h28:=so_ e h28;clear e
 have Y:(execOp a22.eval oA4_3_11).run Try.prog w20=.ok (.value (.int .i64 0)) w20:=by unfold oA4_3_11;go_simp
 refine sv_ gA4_3_11 Y fun a23 e=>?_;clear Y
 have h30:=pt_ F e;replace F:=pu_ F e;replace h28:=so_ e h28;replace h29:=so_ e h29;clear e
 refine st_end ?_
 replace h0:=F.of h0;replace h1:=F.of h1;replace h2:=F.of h2;replace h6:=F.of h6;clear h18;have R:=F.r;clear F
 change (cA4_13).wp _ _ _ _
 refine wp_block (id:=0) (c:=cA4_14) ?_
 refine wp_loop_ghost (c:=cA4_15) (fun n fX wX=>∃ j:Nat,n=2 - j∧FrS 95 fX∧fX.tmps[0]? = some (.string (str nm))∧fX.tmps[1]? = some (.int .i64 i)∧fX.tmps[2]? = some (.int .i64 k)∧fX.tmps[6]? = some (.bool false)∧fX.tmps[28]? = some (.slice (some ⟨b19,0,none⟩) 2 2)∧fX.tmps[29]? = some (.int .i64 2)∧fX.tmps[30]? = some (.int .i64 (j:Int))∧Keep (fun g=>g < W.heap.size) W wX∧Keep (fun g=>g < w8.heap.size) w8 wX∧Keep (fun g=>g < w17.heap.size) w17 wX∧Blk wX b14 24 #[.int .i64 ((Tm.node 2 [] i []).k),.string (str (Tm.node 2 [] i []).nm),.int .i64 ((Tm.node 2 [] i []).i),.slice none (Tm.node 2 [] i []).args.length 0]∧Blk wX b19 24 #[.int .i64 ((opT nm i k).k),.string (str (opT nm i k).nm),.int .i64 ((opT nm i k).i),.slice ao (opT nm i k).args.length co,.int .i64 ((Tm.node 4 nm 0 [Tm.node 2 [] i []]).k),.string (str (Tm.node 4 nm 0 [Tm.node 2 [] i []]).nm),.int .i64 ((Tm.node 4 nm 0 [Tm.node 2 [] i []]).i),.slice (some ⟨b14,0,none⟩) (Tm.node 4 nm 0 [Tm.node 2 [] i []]).args.length 1]∧j ≤ 2) (2 - 0) ⟨0,rfl,R,h0,h1,h2,h6,h28,h29,h30,K1,KXo,KXn,B14,B19,(by decide)⟩ ?_
 clear R h0 h1 h2 h6 h28 h29 h30 K1 KXo KXn B14 B19
 rintro n26 a24 w25 ⟨j,rfl,R,h0,h1,h2,h6,h28,h29,h30,K1,KXo,KXn,B14,B19,hj⟩
 refine wp_seq (x:=cA4_16) (y:=cA4_17) ?_
 change (Code.region 4 OA4_4 false).wp _ _ _ _
 refine reg_in (l:=[0]) rfl ?_
 have F:=fe_ R;clear R
 obtain ⟨b27,hb27⟩:∃ x,(decide ((j:Int) < (2:Int)))=x:=⟨_,rfl⟩
 have Y:(execOp a24.eval oA4_4_0).run Try.prog w25=.ok (.value (.bool b27)) w25:=by have r29:=F.of h29;have r30:=F.of h30;rw [← hb27];unfold oA4_4_0;go_simp
 refine sw_ gA4_4_0 Y F fun a28 F h31=>?_;clear Y
 refine st_end ?_
 replace h0:=F.of h0;replace h1:=F.of h1;replace h2:=F.of h2;replace h6:=F.of h6;replace h28:=F.of h28;replace h29:=F.of h29;replace h30:=F.of h30;have R:=F.r;clear F
 change (cA4_17).wp _ _ _ _
 refine wp_seq (x:=cA4_18) (y:=cA4_21) ?_
 cases b27 with
 | false =>
  have fb27:=hb27;clear hb27
  simp only [dd_] at fb27
  refine wp_cond_false (x:=Code.skip) (y:=cA4_20) (eval_slot h31) ?_
  refine wp_exit ?_
  change (cA4_51).wp _ _ _ _
  refine wp_seq (x:=cA4_52) (y:=cA4_53) ?_
  change (Code.region 14 OA4_14 false).wp _ _ _ _
  refine reg_in (l:=[0,1,2,3,4,5,6,7,8]) rfl ?_
  have F:=fe_ R;clear R
  refine sw_ gA4_14_0 (ym_ rfl (F.of h0)) F fun a29 F h74=>?_
  refine sv_ gA4_14_1 (ym_ rfl (F.of h1)) fun a30 e=>?_
  have h75:=pt_ F e;replace F:=pu_ F e;replace h74:=so_ e h74;clear e
  refine sv_ gA4_14_2 (ym_ rfl (F.of h2)) fun a31 e=>?_
  have h76:=pt_ F e;replace F:=pu_ F e;replace h74:=so_ e h74;replace h75:=so_ e h75;clear e
  have Y:(execOp a31.eval oA4_14_3).run Try.prog w25=.ok (.enter 17 #[.string (str nm),.int .i64 i,.int .i64 k]) w25:=by unfold oA4_14_3;go_simp
  obtain ⟨hz,hhz⟩:∃ q,holdsR nm i k=q:=⟨_,rfl⟩;obtain ⟨g1,g2⟩:=hz;have HHZ:=Lib.hid hhz;clear hhz
  have hca:=holds_any w25 nm i k;rw [HHZ.out] at hca
  refine st_call gA4_14_3 rfl (wanted_free rfl) Y ((hca).mono ?_);clear Y
  rintro e9 w32 ⟨rfl,kk⟩
  replace K1:=keep_onto K1 kk
  replace KXo:=keep_onto KXo kk
  replace KXn:=keep_onto KXn kk
  replace B14:=blk_on B14 kk
  replace B19:=blk_on B19 kk
  clear kk
  clear hca
  refine ⟨_,rfl,fun a33 e=>?_⟩
  clear h74 h75 h76;have h77:=pt_ F e;replace F:=pu_ F e;clear e
  refine sv_ gA4_14_4 (ym_ rfl h77) fun a34 e=>?_
  clear h77;have h73:=pt_ F e;replace F:=pu_ F e;clear e
  refine sv_ gA4_14_5 (ye20_ rfl h73) fun a35 e=>?_
  have h78:=pt_ F e;replace F:=pu_ F e;replace h73:=so_ e h73;clear e
  refine sv_ gA4_14_6 (ye21_ rfl h73) fun a36 e=>?_
  clear h73;have h79:=pt_ F e;replace F:=pu_ F e;replace h78:=so_ e h78;clear e
  refine sv_ gA4_14_7 (ya_ rfl h78) fun a37 e=>?_
  clear h78;have h13:=pt_ F e;replace F:=pu_ F e;replace h79:=so_ e h79;clear e
  refine sv_ gA4_14_8 (ya_ rfl h79) fun a38 e=>?_
  clear h79;have h14:=pt_ F e;replace F:=pu_ F e;replace h13:=so_ e h13;clear e
  refine st_end ?_
  replace h0:=F.of h0;replace h1:=F.of h1;replace h2:=F.of h2;replace h6:=F.of h6;replace h28:=F.of h28;replace h29:=F.of h29;replace h30:=F.of h30;replace h31:=F.of h31;have R:=F.r;clear F
  change (cA4_53).wp _ _ _ _
  refine wp_seq (x:=cA4_54) (y:=cA4_55) ?_
  change (Code.region 15 OA4_15 false).wp _ _ _ _
  refine reg_in (l:=[0,1,2,3,4,5,6,7,8]) rfl ?_
  have F:=fe_ R;clear R
  refine sw_ gA4_15_0 (ym_ rfl (F.of h0)) F fun a39 F h81=>?_
  refine sv_ gA4_15_1 (ym_ rfl (F.of h1)) fun a40 e=>?_
  have h82:=pt_ F e;replace F:=pu_ F e;replace h81:=so_ e h81;clear e
  refine sv_ gA4_15_2 (ym_ rfl (F.of h2)) fun a41 e=>?_
  have h83:=pt_ F e;replace F:=pu_ F e;replace h81:=so_ e h81;replace h82:=so_ e h82;clear e
  have Y:(execOp a41.eval oA4_15_3).run Try.prog w32=.ok (.enter 18 #[.string (str nm),.int .i64 i,.int .i64 k]) w32:=by unfold oA4_15_3;go_simp
  have hca:=refholds_any w32 nm i k;rw [HHZ.out] at hca
  refine st_call gA4_15_3 rfl (wanted_free rfl) Y ((hca).mono ?_);clear Y
  rintro e9 w42 ⟨rfl,kk⟩
  replace K1:=keep_onto K1 kk
  replace KXo:=keep_onto KXo kk
  replace KXn:=keep_onto KXn kk
  replace B14:=blk_on B14 kk
  replace B19:=blk_on B19 kk
  clear kk
  clear hca
  refine ⟨_,rfl,fun a43 e=>?_⟩
  clear h81 h82 h83;have h84:=pt_ F e;replace F:=pu_ F e;clear e
  refine sv_ gA4_15_4 (ym_ rfl h84) fun a44 e=>?_
  clear h84;have h80:=pt_ F e;replace F:=pu_ F e;clear e
  refine sv_ gA4_15_5 (ye20_ rfl h80) fun a45 e=>?_
  have h85:=pt_ F e;replace F:=pu_ F e;replace h80:=so_ e h80;clear e
  refine sv_ gA4_15_6 (ye21_ rfl h80) fun a46 e=>?_
  clear h80;have h86:=pt_ F e;replace F:=pu_ F e;replace h85:=so_ e h85;clear e
  refine sv_ gA4_15_7 (ya_ rfl h85) fun a47 e=>?_
  clear h85;have h15:=pt_ F e;replace F:=pu_ F e;replace h86:=so_ e h86;clear e
  refine sv_ gA4_15_8 (ya_ rfl h86) fun a48 e=>?_
  clear h86;have h16:=pt_ F e;replace F:=pu_ F e;replace h15:=so_ e h15;clear e
  refine st_end ?_
  clear h0;clear h1;clear h2;replace h6:=F.of h6;replace h13:=F.of h13;replace h14:=F.of h14;replace h28:=F.of h28;replace h29:=F.of h29;replace h30:=F.of h30;replace h31:=F.of h31;have R:=F.r;clear F
  change (cA4_55).wp _ _ _ _
  refine wp_seq (x:=cA4_56) (y:=Code.ret) ?_
  change (Code.region 16 OA4_16 false).wp _ _ _ _
  refine reg_in (l:=[0,1,2,3,4,5,6,7,8]) rfl ?_
  have F:=fe_ R;clear R
  refine sw_ gA4_16_0 (ym_ rfl (F.of h13)) F fun a49 F h87=>?_
  refine sv_ gA4_16_1 (ym_ rfl (F.of h15)) fun a50 e=>?_
  have h88:=pt_ F e;replace F:=pu_ F e;replace h87:=so_ e h87;clear e
  cases g1 with
  | false =>
   have Y:(execOp a50.eval oA4_16_2).run Try.prog w42=.ok (.value (.bool true)) w42:=by unfold oA4_16_2;go_simp
   refine sw_ gA4_16_2 Y F fun a51 F h89=>?_;clear Y h87 h88
   refine sv_ gA4_16_3 (ym_ rfl h89) fun a52 e=>?_
   clear h89;have h90:=pt_ F e;replace F:=pu_ F e;clear e
   refine st_val gA4_16_4 rfl (wanted_is (j:=3) (d:=90) rfl rfl h90 rfl) (ym_ rfl (F.of h14)) fun a53 e=>?_
   have h91:=pt_ F e;replace F:=pu_ F e;replace h90:=so_ e h90;clear e
   refine st_val gA4_16_5 rfl (wanted_is (j:=3) (d:=90) rfl rfl h90 rfl) (ym_ rfl (F.of h16)) fun a54 e=>?_
   have h92:=pt_ F e;replace F:=pu_ F e;replace h90:=so_ e h90;replace h91:=so_ e h91;clear e
   cases g2 with
   | false =>
    have Y:(execOp a54.eval oA4_16_6).run Try.prog w42=.ok (.value (.bool true)) w42:=by unfold oA4_16_6;go_simp
    refine st_val gA4_16_6 rfl (wanted_is (j:=3) (d:=90) rfl rfl h90 rfl) Y fun a55 e=>?_;clear Y
    clear h91 h92;have h93:=pt_ F e;replace F:=pu_ F e;replace h90:=so_ e h90;clear e
    have Y:(execOp a55.eval oA4_16_7).run Try.prog w42=.ok (.value (.bool true)) w42:=by unfold oA4_16_7;go_simp
    refine sw_ gA4_16_7 Y F fun a56 F h94=>?_;clear Y h90 h93
    refine sv_ gA4_16_8 (ya_ rfl h94) fun a57 e=>?_
    clear h94 h6;have h6:=pt_ F e;replace F:=pu_ F e;clear e
    refine st_end ?_
    clear h13;clear h14;clear h15;clear h16;replace h28:=F.of h28;replace h29:=F.of h29;replace h30:=F.of h30;replace h31:=F.of h31;have R:=F.r;clear F
    change (Code.ret).wp _ _ _ _
    refine wp_ret ?_
    change bodyPost Try.prog Try.f4 (fun e w'=>e=.returned (.bool true)∧Keep (fun g=>g < W.heap.size) W w') .ret a57 w42
    refine ret_one rfl R h6 ?_
    exact ⟨rfl,K1⟩
   | true =>
    have Y:(execOp a54.eval oA4_16_6).run Try.prog w42=.ok (.value (.bool true)) w42:=by unfold oA4_16_6;go_simp
    refine st_val gA4_16_6 rfl (wanted_is (j:=3) (d:=90) rfl rfl h90 rfl) Y fun a58 e=>?_;clear Y
    clear h91 h92;have h93:=pt_ F e;replace F:=pu_ F e;replace h90:=so_ e h90;clear e
    have Y:(execOp a58.eval oA4_16_7).run Try.prog w42=.ok (.value (.bool true)) w42:=by unfold oA4_16_7;go_simp
    refine sw_ gA4_16_7 Y F fun a59 F h94=>?_;clear Y h90 h93
    refine sv_ gA4_16_8 (ya_ rfl h94) fun a60 e=>?_
    clear h94 h6;have h6:=pt_ F e;replace F:=pu_ F e;clear e
    refine st_end ?_
    clear h13;clear h14;clear h15;clear h16;replace h28:=F.of h28;replace h29:=F.of h29;replace h30:=F.of h30;replace h31:=F.of h31;have R:=F.r;clear F
    change (Code.ret).wp _ _ _ _
    refine wp_ret ?_
    change bodyPost Try.prog Try.f4 (fun e w'=>e=.returned (.bool true)∧Keep (fun g=>g < W.heap.size) W w') .ret a60 w42
    refine ret_one rfl R h6 ?_
    exact ⟨rfl,K1⟩
  | true =>
   have Y:(execOp a50.eval oA4_16_2).run Try.prog w42=.ok (.value (.bool true)) w42:=by unfold oA4_16_2;go_simp
   refine sw_ gA4_16_2 Y F fun a61 F h89=>?_;clear Y h87 h88
   refine sv_ gA4_16_3 (ym_ rfl h89) fun a62 e=>?_
   clear h89;have h90:=pt_ F e;replace F:=pu_ F e;clear e
   refine st_val gA4_16_4 rfl (wanted_is (j:=3) (d:=90) rfl rfl h90 rfl) (ym_ rfl (F.of h14)) fun a63 e=>?_
   have h91:=pt_ F e;replace F:=pu_ F e;replace h90:=so_ e h90;clear e
   refine st_val gA4_16_5 rfl (wanted_is (j:=3) (d:=90) rfl rfl h90 rfl) (ym_ rfl (F.of h16)) fun a64 e=>?_
   have h92:=pt_ F e;replace F:=pu_ F e;replace h90:=so_ e h90;replace h91:=so_ e h91;clear e
   cases g2 with
   | false =>
    have Y:(execOp a64.eval oA4_16_6).run Try.prog w42=.ok (.value (.bool true)) w42:=by unfold oA4_16_6;go_simp
    refine st_val gA4_16_6 rfl (wanted_is (j:=3) (d:=90) rfl rfl h90 rfl) Y fun a65 e=>?_;clear Y
    clear h91 h92;have h93:=pt_ F e;replace F:=pu_ F e;replace h90:=so_ e h90;clear e
    have Y:(execOp a65.eval oA4_16_7).run Try.prog w42=.ok (.value (.bool true)) w42:=by unfold oA4_16_7;go_simp
    refine sw_ gA4_16_7 Y F fun a66 F h94=>?_;clear Y h90 h93
    refine sv_ gA4_16_8 (ya_ rfl h94) fun a67 e=>?_
    clear h94 h6;have h6:=pt_ F e;replace F:=pu_ F e;clear e
    refine st_end ?_
    clear h13;clear h14;clear h15;clear h16;replace h28:=F.of h28;replace h29:=F.of h29;replace h30:=F.of h30;replace h31:=F.of h31;have R:=F.r;clear F
    change (Code.ret).wp _ _ _ _
    refine wp_ret ?_
    change bodyPost Try.prog Try.f4 (fun e w'=>e=.returned (.bool true)∧Keep (fun g=>g < W.heap.size) W w') .ret a67 w42
    refine ret_one rfl R h6 ?_
    exact ⟨rfl,K1⟩
   | true =>
    have Y:(execOp a64.eval oA4_16_6).run Try.prog w42=.ok (.value (.bool true)) w42:=by unfold oA4_16_6;go_simp
    refine st_val gA4_16_6 rfl (wanted_is (j:=3) (d:=90) rfl rfl h90 rfl) Y fun a68 e=>?_;clear Y
    clear h91 h92;have h93:=pt_ F e;replace F:=pu_ F e;replace h90:=so_ e h90;clear e
    have Y:(execOp a68.eval oA4_16_7).run Try.prog w42=.ok (.value (.bool true)) w42:=by unfold oA4_16_7;go_simp
    refine sw_ gA4_16_7 Y F fun a69 F h94=>?_;clear Y h90 h93
    refine sv_ gA4_16_8 (ya_ rfl h94) fun a70 e=>?_
    clear h94 h6;have h6:=pt_ F e;replace F:=pu_ F e;clear e
    refine st_end ?_
    clear h13;clear h14;clear h15;clear h16;replace h28:=F.of h28;replace h29:=F.of h29;replace h30:=F.of h30;replace h31:=F.of h31;have R:=F.r;clear F
    change (Code.ret).wp _ _ _ _
    refine wp_ret ?_
    change bodyPost Try.prog Try.f4 (fun e w'=>e=.returned (.bool true)∧Keep (fun g=>g < W.heap.size) W w') .ret a70 w42
    refine ret_one rfl R h6 ?_
    exact ⟨rfl,K1⟩
 | true =>
  have fb27:=hb27;clear hb27
  simp only [dd_] at fb27
  refine wp_cond_true (x:=Code.skip) (y:=cA4_20) (eval_slot h31) ?_
  refine wp_skip ?_
  change (cA4_21).wp _ _ _ _
  refine wp_seq (x:=cA4_22) (y:=cA4_50) ?_
  refine wp_block (id:=1) (c:=cA4_23) ?_
  refine wp_seq (x:=cA4_24) (y:=cA4_25) ?_
  change (Code.region 5 OA4_5 false).wp _ _ _ _
  refine reg_in (l:=[0,1,2,3]) rfl ?_
  have F:=fe_ R;clear R
  obtain ⟨T,A,C,hTT,u0,u1,u2,u3⟩:=two_cells B19 (HXo.out.on KXo) (HXn.out.on KXn) (j:=j) (by omega)
  have HTT:=Lib.hid hTT;clear hTT;have HU:=Lib.hid (And.intro u0 (And.intro u1 (And.intro u2 u3)));clear u0 u1 u2 u3
  have KT:=Keep.refl (fun g=>g < w25.heap.size) w25
  obtain ⟨ev,hev⟩:∃ q,evW T=q:=⟨_,rfl⟩;obtain ⟨kz,hkz⟩:∃ q,ev.k=q:=⟨_,rfl⟩
  have HEV:=Lib.hid hev;have HKZ:=Lib.hid hkz;clear hev hkz
  have Y:(execOp a28.eval oA4_5_0).run Try.prog w25=.ok (.value (.pointer (some ⟨b19,j * 4,none⟩))) w25:=by have r28:=F.of h28;have r30:=F.of h30;have h9:(j:Int) < 2:=(by omega);unfold oA4_5_0;go_simp
  refine sw_ gA4_5_0 Y F fun a71 F h32=>?_;clear Y
  have Y:(execOp a71.eval oA4_5_1).run Try.prog w25=.ok (.value (.agg #[.int .i64 T.k,.string (str T.nm),.int .i64 T.i,.slice A T.args.length C])) w25:=by obtain ⟨u0,u1,u2,u3⟩:=HU.out;unfold oA4_5_1;go_simp
  refine sv_ gA4_5_1 Y fun a72 e=>?_;clear Y
  have h33:=pt_ F e;replace F:=pu_ F e;replace h32:=so_ e h32;clear e
  have Y:(execOp a72.eval oA4_5_2).run Try.prog w25=.ok (.value (.pointer (some ⟨w25.heap.size,0,none⟩))) (w25.alloc (.cells #[.int .i64 0,.string (⟨#[]⟩),.int .i64 0,.slice none 0 0] 24)):=by unfold oA4_5_2;go_simp
  have B73:=Blk.new w25 24 #[.int .i64 0,.string (⟨#[]⟩),.int .i64 0,.slice none 0 0]
  obtain ⟨w74,hw⟩:∃ x,x=w25.alloc (.cells #[.int .i64 0,.string (⟨#[]⟩),.int .i64 0,.slice none 0 0] 24):=⟨_,rfl⟩;rw [← hw] at Y B73
  obtain ⟨b73,hb⟩:∃ x,x=w25.heap.size:=⟨_,rfl⟩;rw [← hb] at Y B73
  have Nb14_b73:=nb_ hb B14;replace B14:=ba_ hw B14;have Nb19_b73:=nb_ hb B19;replace B19:=ba_ hw B19;have LK1_b73:=lk_ hb K1;replace K1:=ka_ hw K1;have LKXo_b73:=lk_ hb KXo;replace KXo:=ka_ hw KXo;have LKXn_b73:=lk_ hb KXn;replace KXn:=ka_ hw KXn;have LKT_b73:=lk_ hb KT;replace KT:=ka_ hw KT;clear hw hb
  refine sv_ gA4_5_2 Y fun a75 e=>?_;clear Y
  have h8:=pt_ F e;replace F:=pu_ F e;replace h32:=so_ e h32;replace h33:=so_ e h33;clear e
  obtain ⟨w76,Y,hk,hB⟩:=ys4_ (o:=oA4_5_3) rfl h8 h33 B73
  replace K1:=kx_ hk K1 (Nat.not_lt.2 LK1_b73);replace KXo:=kx_ hk KXo (Nat.not_lt.2 LKXo_b73);replace KXn:=kx_ hk KXn (Nat.not_lt.2 LKXn_b73);replace KT:=kx_ hk KT (Nat.not_lt.2 LKT_b73);replace B14:=bx_ hk B14 Nb14_b73;replace B19:=bx_ hk B19 Nb19_b73;clear B73;have B73:=hB;clear hB hk
  refine st_skip gA4_5_3 rfl (wanted_free rfl) Y ?_;clear Y
  refine st_end ?_
  replace h0:=F.of h0;replace h1:=F.of h1;replace h2:=F.of h2;replace h6:=F.of h6;replace h28:=F.of h28;replace h29:=F.of h29;replace h30:=F.of h30;replace h31:=F.of h31;have R:=F.r;clear F
  change (cA4_25).wp _ _ _ _
  refine wp_seq (x:=cA4_26) (y:=cA4_27) ?_
  change (Code.region 6 OA4_6 false).wp _ _ _ _
  refine reg_in (l:=[0,1,2,3,4,5,6,7,8,9]) rfl ?_
  have F:=fe_ R;clear R
  refine sv_ gA4_6_0 (yl4_ rfl (F.of h8) B73) fun a77 e=>?_
  have h35:=pt_ F e;replace F:=pu_ F e;clear e
  have hca:=eval_gen' (HTT.out.on KT);rw [HEV.out,HKZ.out] at hca
  refine st_call gA4_6_1 rfl (wanted_free rfl) (yc1_ enA4_10 rfl h35) ((hca).mono ?_)
  rintro e9 w78 ⟨ae,ce,rfl,hx,kk⟩
  replace K1:=keep_onto K1 kk
  replace KXo:=keep_onto KXo kk
  replace KXn:=keep_onto KXn kk
  replace KT:=keep_onto KT kk
  replace B14:=blk_on B14 kk
  replace B19:=blk_on B19 kk
  replace B73:=blk_on B73 kk
  clear kk
  have HXe:=Lib.hid hx.at_;clear hx hca
  have KXe:=Keep.refl (fun g=>g < w78.heap.size) w78
  refine ⟨_,rfl,fun a79 e=>?_⟩
  have h36:=pt_ F e;replace F:=pu_ F e;replace h35:=so_ e h35;clear e
  refine sv_ gA4_6_2 (ym_ rfl h36) fun a80 e=>?_
  have h34:=pt_ F e;replace F:=pu_ F e;replace h35:=so_ e h35;replace h36:=so_ e h36;clear e
  refine sv_ gA4_6_3 (ye30_ rfl h34) fun a81 e=>?_
  have h37:=pt_ F e;replace F:=pu_ F e;replace h34:=so_ e h34;replace h35:=so_ e h35;replace h36:=so_ e h36;clear e
  refine sv_ gA4_6_4 (ye31_ rfl h34) fun a82 e=>?_
  have h38:=pt_ F e;replace F:=pu_ F e;replace h34:=so_ e h34;replace h35:=so_ e h35;replace h36:=so_ e h36;replace h37:=so_ e h37;clear e
  refine sv_ gA4_6_5 (ye32_ rfl h34) fun a83 e=>?_
  have h39:=pt_ F e;replace F:=pu_ F e;replace h34:=so_ e h34;replace h35:=so_ e h35;replace h36:=so_ e h36;replace h37:=so_ e h37;replace h38:=so_ e h38;clear e
  have Y:(execOp a83.eval oA4_6_6).run Try.prog w78=.ok (.value (.pointer (some ⟨w78.heap.size,0,none⟩))) (w78.alloc (.cells #[.int .i64 0,.string (⟨#[]⟩),.int .i64 0,.slice none 0 0] 24)):=by unfold oA4_6_6;go_simp
  have B84:=Blk.new w78 24 #[.int .i64 0,.string (⟨#[]⟩),.int .i64 0,.slice none 0 0]
  obtain ⟨w85,hw⟩:∃ x,x=w78.alloc (.cells #[.int .i64 0,.string (⟨#[]⟩),.int .i64 0,.slice none 0 0] 24):=⟨_,rfl⟩;rw [← hw] at Y B84
  obtain ⟨b84,hb⟩:∃ x,x=w78.heap.size:=⟨_,rfl⟩;rw [← hb] at Y B84
  have Nb14_b84:=nb_ hb B14;replace B14:=ba_ hw B14;have Nb19_b84:=nb_ hb B19;replace B19:=ba_ hw B19;have Nb73_b84:=nb_ hb B73;replace B73:=ba_ hw B73;have LK1_b84:=lk_ hb K1;replace K1:=ka_ hw K1;have LKXo_b84:=lk_ hb KXo;replace KXo:=ka_ hw KXo;have LKXn_b84:=lk_ hb KXn;replace KXn:=ka_ hw KXn;have LKT_b84:=lk_ hb KT;replace KT:=ka_ hw KT;have LKXe_b84:=lk_ hb KXe;replace KXe:=ka_ hw KXe;clear hw hb
  refine sv_ gA4_6_6 Y fun a86 e=>?_;clear Y
  have h10:=pt_ F e;replace F:=pu_ F e;replace h34:=so_ e h34;replace h35:=so_ e h35;replace h36:=so_ e h36;replace h37:=so_ e h37;replace h38:=so_ e h38;replace h39:=so_ e h39;clear e
  refine sv_ gA4_6_7 (ya_ rfl h37) fun a87 e=>?_
  have h9:=pt_ F e;replace F:=pu_ F e;replace h10:=so_ e h10;replace h34:=so_ e h34;replace h35:=so_ e h35;replace h36:=so_ e h36;replace h37:=so_ e h37;replace h38:=so_ e h38;replace h39:=so_ e h39;clear e
  obtain ⟨w88,Y,hk,hB⟩:=ys4_ (o:=oA4_6_8) rfl h10 h38 B84
  replace K1:=kx_ hk K1 (Nat.not_lt.2 LK1_b84);replace KXo:=kx_ hk KXo (Nat.not_lt.2 LKXo_b84);replace KXn:=kx_ hk KXn (Nat.not_lt.2 LKXn_b84);replace KT:=kx_ hk KT (Nat.not_lt.2 LKT_b84);replace KXe:=kx_ hk KXe (Nat.not_lt.2 LKXe_b84);replace B14:=bx_ hk B14 Nb14_b84;replace B19:=bx_ hk B19 Nb19_b84;replace B73:=bx_ hk B73 Nb73_b84;clear B84;have B84:=hB;clear hB hk
  refine st_skip gA4_6_8 rfl (wanted_free rfl) Y ?_;clear Y
  refine sv_ gA4_6_9 (ya_ rfl h39) fun a89 e=>?_
  have h11:=pt_ F e;replace F:=pu_ F e;replace h9:=so_ e h9;replace h10:=so_ e h10;replace h34:=so_ e h34;replace h35:=so_ e h35;replace h36:=so_ e h36;replace h37:=so_ e h37;replace h38:=so_ e h38;replace h39:=so_ e h39;clear e
  refine st_end ?_
  replace h0:=F.of h0;replace h1:=F.of h1;replace h2:=F.of h2;replace h6:=F.of h6;replace h8:=F.of h8;replace h28:=F.of h28;replace h29:=F.of h29;replace h30:=F.of h30;replace h31:=F.of h31;replace h32:=F.of h32;replace h33:=F.of h33;have R:=F.r;clear F
  change (cA4_27).wp _ _ _ _
  refine wp_seq (x:=cA4_28) (y:=cA4_41) ?_
  refine wp_seq (x:=cA4_29) (y:=cA4_30) ?_
  change (Code.region 7 OA4_7 false).wp _ _ _ _
  refine reg_in (l:=[0,1,2]) rfl ?_
  have F:=fe_ R;clear R
  refine sv_ gA4_7_0 (yl4_ rfl (F.of h8) B73) fun a90 e=>?_
  have h40:=pt_ F e;replace F:=pu_ F e;clear e
  obtain ⟨rz,hrz⟩:∃ q,T.right=q:=⟨_,rfl⟩
  have hca:=right_is (HTT.out.on KT) hrz;have HRZ:=Lib.hid hrz;clear hrz
  refine st_call gA4_7_1 rfl (wanted_free rfl) (yc1_ enA4_11 rfl h40) ((hca).mono ?_)
  rintro e9 w91 ⟨rfl,kk⟩
  replace K1:=keep_onto K1 kk
  replace KXo:=keep_onto KXo kk
  replace KXn:=keep_onto KXn kk
  replace KT:=keep_onto KT kk
  replace KXe:=keep_onto KXe kk
  replace B14:=blk_on B14 kk
  replace B19:=blk_on B19 kk
  replace B73:=blk_on B73 kk
  replace B84:=blk_on B84 kk
  clear kk
  clear hca
  refine ⟨_,rfl,fun a92 e=>?_⟩
  have h41:=pt_ F e;replace F:=pu_ F e;replace h40:=so_ e h40;clear e
  cases rz with
  | false =>
   have Y:(execOp a92.eval oA4_7_2).run Try.prog w91=.ok (.value (.bool true)) w91:=by unfold oA4_7_2;go_simp
   refine sv_ gA4_7_2 Y fun a93 e=>?_;clear Y
   have h42:=pt_ F e;replace F:=pu_ F e;replace h40:=so_ e h40;replace h41:=so_ e h41;clear e
   refine st_end ?_
   replace h0:=F.of h0;replace h1:=F.of h1;replace h2:=F.of h2;replace h6:=F.of h6;replace h8:=F.of h8;replace h9:=F.of h9;replace h10:=F.of h10;replace h11:=F.of h11;replace h28:=F.of h28;replace h29:=F.of h29;replace h30:=F.of h30;replace h31:=F.of h31;replace h32:=F.of h32;replace h33:=F.of h33;replace h34:=F.of h34;replace h35:=F.of h35;replace h36:=F.of h36;replace h37:=F.of h37;replace h38:=F.of h38;replace h39:=F.of h39;have R:=F.r;clear F
   change (cA4_30).wp _ _ _ _
   refine wp_cond_true (x:=cA4_31) (y:=Code.skip) (eval_slot h42) ?_
   refine wp_seq (x:=cA4_32) (y:=cA4_39) ?_
   refine wp_seq (x:=cA4_33) (y:=cA4_34) ?_
   change (Code.region 8 OA4_8 false).wp _ _ _ _
   refine reg_in (l:=[0,1,2,3,4,5,6,7,8,9]) rfl ?_
   have F:=fe_ R;clear R
   refine sw_ gA4_8_0 (ym_ rfl (F.of h9)) F fun a94 F h43=>?_
   have Y:(execOp a94.eval oA4_8_1).run Try.prog w91=.ok (.value (.bool false)) w91:=by have h8:ev.v=0:=(by rw [(HEV.out.symm.trans (if_neg (by rw [HRZ.out];decide)):ev=.bal zeroT)];rfl);unfold oA4_8_1;go_simp
   refine sv_ gA4_8_1 Y fun a95 e=>?_;clear Y
   have h44:=pt_ F e;replace F:=pu_ F e;replace h43:=so_ e h43;clear e
   refine sv_ gA4_8_2 (ym_ rfl h44) fun a96 e=>?_
   have h45:=pt_ F e;replace F:=pu_ F e;replace h43:=so_ e h43;replace h44:=so_ e h44;clear e
   refine st_val gA4_8_3 rfl (wanted_is (j:=2) (d:=45) rfl rfl h45 rfl) (yf0_ rfl (F.of h10)) fun a97 e=>?_
   have h46:=pt_ F e;replace F:=pu_ F e;replace h43:=so_ e h43;replace h44:=so_ e h44;replace h45:=so_ e h45;clear e
   refine st_val gA4_8_4 rfl (wanted_is (j:=2) (d:=45) rfl rfl h45 rfl) (yk0_ rfl h46 B84) fun a98 e=>?_
   have h47:=pt_ F e;replace F:=pu_ F e;replace h43:=so_ e h43;replace h44:=so_ e h44;replace h45:=so_ e h45;replace h46:=so_ e h46;clear e
   have Y:(execOp a98.eval oA4_8_5).run Try.prog w91=.ok (.value (.bool false)) w91:=by have h8:ev.b.k=0:=(by rw [(HEV.out.symm.trans (if_neg (by rw [HRZ.out];decide)):ev=.bal zeroT)];rfl);unfold oA4_8_5;go_simp
   refine st_val gA4_8_5 rfl (wanted_is (j:=2) (d:=45) rfl rfl h45 rfl) Y fun a99 e=>?_;clear Y
   have h48:=pt_ F e;replace F:=pu_ F e;replace h43:=so_ e h43;replace h44:=so_ e h44;replace h45:=so_ e h45;replace h46:=so_ e h46;replace h47:=so_ e h47;clear e
   have Y:(execOp a99.eval oA4_8_6).run Try.prog w91=.ok (.value (.bool false)) w91:=by unfold oA4_8_6;go_simp
   refine sv_ gA4_8_6 Y fun a100 e=>?_;clear Y
   have h49:=pt_ F e;replace F:=pu_ F e;replace h43:=so_ e h43;replace h44:=so_ e h44;replace h45:=so_ e h45;replace h46:=so_ e h46;replace h47:=so_ e h47;replace h48:=so_ e h48;clear e
   refine sv_ gA4_8_7 (ym_ rfl h49) fun a101 e=>?_
   have h50:=pt_ F e;replace F:=pu_ F e;replace h43:=so_ e h43;replace h44:=so_ e h44;replace h45:=so_ e h45;replace h46:=so_ e h46;replace h47:=so_ e h47;replace h48:=so_ e h48;replace h49:=so_ e h49;clear e
   refine st_val gA4_8_8 rfl (wanted_is (j:=7) (d:=50) rfl rfl h50 rfl) (ym_ rfl (F.of h11)) fun a102 e=>?_
   have h51:=pt_ F e;replace F:=pu_ F e;replace h43:=so_ e h43;replace h44:=so_ e h44;replace h45:=so_ e h45;replace h46:=so_ e h46;replace h47:=so_ e h47;replace h48:=so_ e h48;replace h49:=so_ e h49;replace h50:=so_ e h50;clear e
   have Y:(execOp a102.eval oA4_8_9).run Try.prog w91=.ok (.value (.bool kz)) w91:=by unfold oA4_8_9;go_simp
   refine sv_ gA4_8_9 Y fun a103 e=>?_;clear Y
   have h52:=pt_ F e;replace F:=pu_ F e;replace h43:=so_ e h43;replace h44:=so_ e h44;replace h45:=so_ e h45;replace h46:=so_ e h46;replace h47:=so_ e h47;replace h48:=so_ e h48;replace h49:=so_ e h49;replace h50:=so_ e h50;replace h51:=so_ e h51;clear e
   refine st_end ?_
   replace h0:=F.of h0;replace h1:=F.of h1;replace h2:=F.of h2;replace h6:=F.of h6;replace h8:=F.of h8;replace h9:=F.of h9;replace h10:=F.of h10;replace h11:=F.of h11;replace h28:=F.of h28;replace h29:=F.of h29;replace h30:=F.of h30;replace h31:=F.of h31;replace h32:=F.of h32;replace h33:=F.of h33;replace h34:=F.of h34;replace h35:=F.of h35;replace h36:=F.of h36;replace h37:=F.of h37;replace h38:=F.of h38;replace h39:=F.of h39;replace h40:=F.of h40;replace h41:=F.of h41;replace h42:=F.of h42;have R:=F.r;clear F
   change (cA4_34).wp _ _ _ _
   cases kz with
   | false =>
    refine wp_cond_false (x:=cA4_35) (y:=Code.skip) (eval_slot h52) ?_
    refine wp_skip ?_
    change (cA4_39).wp _ _ _ _
    refine wp_exit ?_
    change (cA4_50).wp _ _ _ _
    change (Code.region 13 OA4_13 false).wp _ _ _ _
    refine reg_in (l:=[0,1]) rfl ?_
    have F:=fe_ R;clear R
    have Y:(execOp a103.eval oA4_13_0).run Try.prog w91=.ok (.value (.int .i64 ((j:Int) + 1))) w91:=by have r30:=F.of h30;have hwj:IntKind.i64.wrap ((j:Int) + 1)=(j:Int) + 1:=(by rw [IntKind.wrap_i64];omega);unfold oA4_13_0;go_simp
    refine sw_ gA4_13_0 Y F fun a104 F h72=>?_;clear Y
    refine sv_ gA4_13_1 (ym_ rfl h72) fun a105 e=>?_
    clear h30;have h30:=pt_ F e;replace F:=pu_ F e;replace h72:=so_ e h72;clear e
    refine st_end ?_
    replace h0:=F.of h0;replace h1:=F.of h1;replace h2:=F.of h2;replace h6:=F.of h6;replace h8:=F.of h8;replace h9:=F.of h9;replace h10:=F.of h10;replace h11:=F.of h11;replace h28:=F.of h28;replace h29:=F.of h29;replace h31:=F.of h31;replace h32:=F.of h32;replace h33:=F.of h33;replace h34:=F.of h34;replace h35:=F.of h35;replace h36:=F.of h36;replace h37:=F.of h37;replace h38:=F.of h38;replace h39:=F.of h39;replace h40:=F.of h40;replace h41:=F.of h41;replace h42:=F.of h42;replace h43:=F.of h43;replace h44:=F.of h44;replace h45:=F.of h45;replace h46:=F.of h46;replace h47:=F.of h47;replace h48:=F.of h48;replace h49:=F.of h49;replace h50:=F.of h50;replace h51:=F.of h51;replace h52:=F.of h52;have R:=F.r;clear F
    exact ⟨_,(by omega),j + 1,rfl,R,h0,h1,h2,h6,h28,h29,h30,K1,KXo,KXn,B14,B19,(by omega)⟩
   | true =>
    refine wp_cond_true (x:=cA4_35) (y:=Code.skip) (eval_slot h52) ?_
    refine wp_seq (x:=cA4_36) (y:=Code.ret) ?_
    change (Code.region 9 OA4_9 false).wp _ _ _ _
    refine reg_in (l:=[0]) rfl ?_
    have F:=fe_ R;clear R
    have Y:(execOp a103.eval oA4_9_0).run Try.prog w91=.ok (.value (.bool false)) w91:=by unfold oA4_9_0;go_simp
    refine sw_ gA4_9_0 Y F fun a106 F h6=>?_;clear Y
    refine st_end ?_
    replace h0:=F.of h0;replace h1:=F.of h1;replace h2:=F.of h2;replace h8:=F.of h8;replace h9:=F.of h9;replace h10:=F.of h10;replace h11:=F.of h11;replace h28:=F.of h28;replace h29:=F.of h29;replace h30:=F.of h30;replace h31:=F.of h31;replace h32:=F.of h32;replace h33:=F.of h33;replace h34:=F.of h34;replace h35:=F.of h35;replace h36:=F.of h36;replace h37:=F.of h37;replace h38:=F.of h38;replace h39:=F.of h39;replace h40:=F.of h40;replace h41:=F.of h41;replace h42:=F.of h42;replace h43:=F.of h43;replace h44:=F.of h44;replace h45:=F.of h45;replace h46:=F.of h46;replace h47:=F.of h47;replace h48:=F.of h48;replace h49:=F.of h49;replace h50:=F.of h50;replace h51:=F.of h51;replace h52:=F.of h52;have R:=F.r;clear F
    change (Code.ret).wp _ _ _ _
    refine wp_ret ?_
    change bodyPost Try.prog Try.f4 (fun e w'=>e=.returned (.bool true)∧Keep (fun g=>g < W.heap.size) W w') .ret a106 w91
    refine ret_one rfl R h6 ?_
    exfalso;have h1:=HKZ.out;rw [(HEV.out.symm.trans (if_neg (by rw [HRZ.out];decide)):ev=.bal zeroT)] at h1;cases h1
  | true =>
   have Y:(execOp a92.eval oA4_7_2).run Try.prog w91=.ok (.value (.bool false)) w91:=by unfold oA4_7_2;go_simp
   refine sv_ gA4_7_2 Y fun a107 e=>?_;clear Y
   have h42:=pt_ F e;replace F:=pu_ F e;replace h40:=so_ e h40;replace h41:=so_ e h41;clear e
   refine st_end ?_
   replace h0:=F.of h0;replace h1:=F.of h1;replace h2:=F.of h2;replace h6:=F.of h6;replace h8:=F.of h8;replace h9:=F.of h9;replace h10:=F.of h10;replace h11:=F.of h11;replace h28:=F.of h28;replace h29:=F.of h29;replace h30:=F.of h30;replace h31:=F.of h31;replace h32:=F.of h32;replace h33:=F.of h33;replace h34:=F.of h34;replace h35:=F.of h35;replace h36:=F.of h36;replace h37:=F.of h37;replace h38:=F.of h38;replace h39:=F.of h39;have R:=F.r;clear F
   change (cA4_30).wp _ _ _ _
   refine wp_cond_false (x:=cA4_31) (y:=Code.skip) (eval_slot h42) ?_
   refine wp_skip ?_
   change (cA4_41).wp _ _ _ _
   refine wp_seq (x:=cA4_42) (y:=cA4_43) ?_
   change (Code.region 10 OA4_10 false).wp _ _ _ _
   refine reg_in (l:=[0,1,2,3]) rfl ?_
   have F:=fe_ R;clear R
   refine sv_ gA4_10_0 (yl4_ rfl (F.of h8) B73) fun a108 e=>?_
   have h53:=pt_ F e;replace F:=pu_ F e;clear e
   have hwe:wo T=ev:=(if_pos HRZ.out).symm.trans HEV.out
   have hca:=refEval_any T w91 A C (HTT.out.on KT) (right_of.1 HRZ.out).1;rw [hwe] at hca;unfold WA wv at hca;rw [HKZ.out] at hca
   have HPE:=Lib.hid (hwe ▸ wo_P' T);clear hwe
   refine st_call gA4_10_1 rfl (wanted_free rfl) (yc1_ enA4_12 rfl h53) ((hca).mono ?_)
   rintro e9 w109 ⟨⟨aw,cw,rfl,hx,kk⟩,-⟩
   replace K1:=keep_onto K1 kk
   replace KXo:=keep_onto KXo kk
   replace KXn:=keep_onto KXn kk
   replace KT:=keep_onto KT kk
   replace KXe:=keep_onto KXe kk
   replace B14:=blk_on B14 kk
   replace B19:=blk_on B19 kk
   replace B73:=blk_on B73 kk
   replace B84:=blk_on B84 kk
   clear kk
   have HXw:=Lib.hid hx.at_;clear hx hca
   have KXw:=Keep.refl (fun g=>g < w109.heap.size) w109
   refine ⟨_,rfl,fun a110 e=>?_⟩
   have h54:=pt_ F e;replace F:=pu_ F e;replace h53:=so_ e h53;clear e
   have Y:(execOp a110.eval oA4_10_2).run Try.prog w109=.ok (.value (.pointer (some ⟨w109.heap.size,0,none⟩))) (w109.alloc (.cells #[.int .i64 0,.int .i64 0,.string (⟨#[]⟩),.int .i64 0,.slice none 0 0,.bool false] 30)):=by unfold oA4_10_2;go_simp
   have B111:=Blk.new w109 30 #[.int .i64 0,.int .i64 0,.string (⟨#[]⟩),.int .i64 0,.slice none 0 0,.bool false]
   obtain ⟨w112,hw⟩:∃ x,x=w109.alloc (.cells #[.int .i64 0,.int .i64 0,.string (⟨#[]⟩),.int .i64 0,.slice none 0 0,.bool false] 30):=⟨_,rfl⟩;rw [← hw] at Y B111
   obtain ⟨b111,hb⟩:∃ x,x=w109.heap.size:=⟨_,rfl⟩;rw [← hb] at Y B111
   have Nb14_b111:=nb_ hb B14;replace B14:=ba_ hw B14;have Nb19_b111:=nb_ hb B19;replace B19:=ba_ hw B19;have Nb73_b111:=nb_ hb B73;replace B73:=ba_ hw B73;have Nb84_b111:=nb_ hb B84;replace B84:=ba_ hw B84;have LK1_b111:=lk_ hb K1;replace K1:=ka_ hw K1;have LKXo_b111:=lk_ hb KXo;replace KXo:=ka_ hw KXo;have LKXn_b111:=lk_ hb KXn;replace KXn:=ka_ hw KXn;have LKT_b111:=lk_ hb KT;replace KT:=ka_ hw KT;have LKXe_b111:=lk_ hb KXe;replace KXe:=ka_ hw KXe;have LKXw_b111:=lk_ hb KXw;replace KXw:=ka_ hw KXw;clear hw hb
   refine sv_ gA4_10_2 Y fun a113 e=>?_;clear Y
   have h12:=pt_ F e;replace F:=pu_ F e;replace h53:=so_ e h53;replace h54:=so_ e h54;clear e
   obtain ⟨w114,Y,hk,hB⟩:=ys6_ (o:=oA4_10_3) rfl h12 h54 B111
   replace K1:=kx_ hk K1 (Nat.not_lt.2 LK1_b111);replace KXo:=kx_ hk KXo (Nat.not_lt.2 LKXo_b111);replace KXn:=kx_ hk KXn (Nat.not_lt.2 LKXn_b111);replace KT:=kx_ hk KT (Nat.not_lt.2 LKT_b111);replace KXe:=kx_ hk KXe (Nat.not_lt.2 LKXe_b111);replace KXw:=kx_ hk KXw (Nat.not_lt.2 LKXw_b111);replace B14:=bx_ hk B14 Nb14_b111;replace B19:=bx_ hk B19 Nb19_b111;replace B73:=bx_ hk B73 Nb73_b111;replace B84:=bx_ hk B84 Nb84_b111;clear B111;have B111:=hB;clear hB hk
   refine st_skip gA4_10_3 rfl (wanted_free rfl) Y ?_;clear Y
   refine st_end ?_
   replace h0:=F.of h0;replace h1:=F.of h1;replace h2:=F.of h2;replace h6:=F.of h6;replace h8:=F.of h8;replace h9:=F.of h9;replace h10:=F.of h10;replace h11:=F.of h11;replace h28:=F.of h28;replace h29:=F.of h29;replace h30:=F.of h30;replace h31:=F.of h31;replace h32:=F.of h32;replace h33:=F.of h33;replace h34:=F.of h34;replace h35:=F.of h35;replace h36:=F.of h36;replace h37:=F.of h37;replace h38:=F.of h38;replace h39:=F.of h39;replace h40:=F.of h40;replace h41:=F.of h41;replace h42:=F.of h42;have R:=F.r;clear F
   change (cA4_43).wp _ _ _ _
   refine wp_seq (x:=cA4_44) (y:=cA4_45) ?_
   change (Code.region 11 OA4_11 false).wp _ _ _ _
   refine reg_in (l:=[0,1,2,3,4,5,6,7,8,9,10,11,12,13,14,15,16]) rfl ?_
   have F:=fe_ R;clear R
   refine sw_ gA4_11_0 (ym_ rfl (F.of h9)) F fun a115 F h55=>?_
   have Y:(execOp a115.eval oA4_11_1).run Try.prog w114=.ok (.value (.pointer (some ⟨b111,0,none⟩))) w114:=by have r12:=F.of h12;unfold oA4_11_1;go_simp
   refine sv_ gA4_11_1 Y fun a116 e=>?_;clear Y
   have h56:=pt_ F e;replace F:=pu_ F e;replace h55:=so_ e h55;clear e
   have Y:(execOp a116.eval oA4_11_2).run Try.prog w114=.ok (.value (.int .i64 ((ev).v))) w114:=by have qq0:w114.cell? ⟨b111,0,none⟩=some (.int .i64 ((ev).v)):=B111.cell 0;have qq1:w114.cell? ⟨b111,1,none⟩=some (.int .i64 ((ev).b.k)):=B111.cell 1;have qq2:w114.cell? ⟨b111,2,none⟩=some (.string (str (ev).b.nm)):=B111.cell 2;have qq3:w114.cell? ⟨b111,3,none⟩=some (.int .i64 ((ev).b.i)):=B111.cell 3;have qq4:w114.cell? ⟨b111,4,none⟩=some (.slice aw (ev).b.args.length cw):=B111.cell 4;have qq5:w114.cell? ⟨b111,5,none⟩=some (.bool kz):=B111.cell 5;unfold oA4_11_2;go_simp
   refine sv_ gA4_11_2 Y fun a117 e=>?_;clear Y
   have h57:=pt_ F e;replace F:=pu_ F e;replace h55:=so_ e h55;replace h56:=so_ e h56;clear e
   have Y:(execOp a117.eval oA4_11_3).run Try.prog w114=.ok (.value (.bool false)) w114:=by unfold oA4_11_3;go_simp
   refine sv_ gA4_11_3 Y fun a118 e=>?_;clear Y
   have h58:=pt_ F e;replace F:=pu_ F e;replace h55:=so_ e h55;replace h56:=so_ e h56;replace h57:=so_ e h57;clear e
   refine sv_ gA4_11_4 (ym_ rfl h58) fun a119 e=>?_
   have h59:=pt_ F e;replace F:=pu_ F e;replace h55:=so_ e h55;replace h56:=so_ e h56;replace h57:=so_ e h57;replace h58:=so_ e h58;clear e
   refine st_val gA4_11_5 rfl (wanted_is (j:=4) (d:=59) rfl rfl h59 rfl) (ym_ rfl (F.of h11)) fun a120 e=>?_
   have h60:=pt_ F e;replace F:=pu_ F e;replace h55:=so_ e h55;replace h56:=so_ e h56;replace h57:=so_ e h57;replace h58:=so_ e h58;replace h59:=so_ e h59;clear e
   have Y:(execOp a120.eval oA4_11_6).run Try.prog w114=.ok (.value (.pointer (some ⟨b111,5,none⟩))) w114:=by have r12:=F.of h12;unfold oA4_11_6;go_simp
   refine st_val gA4_11_6 rfl (wanted_is (j:=4) (d:=59) rfl rfl h59 rfl) Y fun a121 e=>?_;clear Y
   have h61:=pt_ F e;replace F:=pu_ F e;replace h55:=so_ e h55;replace h56:=so_ e h56;replace h57:=so_ e h57;replace h58:=so_ e h58;replace h59:=so_ e h59;replace h60:=so_ e h60;clear e
   have Y:(execOp a121.eval oA4_11_7).run Try.prog w114=.ok (.value (.bool kz)) w114:=by have qq0:w114.cell? ⟨b111,0,none⟩=some (.int .i64 ((ev).v)):=B111.cell 0;have qq1:w114.cell? ⟨b111,1,none⟩=some (.int .i64 ((ev).b.k)):=B111.cell 1;have qq2:w114.cell? ⟨b111,2,none⟩=some (.string (str (ev).b.nm)):=B111.cell 2;have qq3:w114.cell? ⟨b111,3,none⟩=some (.int .i64 ((ev).b.i)):=B111.cell 3;have qq4:w114.cell? ⟨b111,4,none⟩=some (.slice aw (ev).b.args.length cw):=B111.cell 4;have qq5:w114.cell? ⟨b111,5,none⟩=some (.bool kz):=B111.cell 5;unfold oA4_11_7;go_simp
   refine st_val gA4_11_7 rfl (wanted_is (j:=4) (d:=59) rfl rfl h59 rfl) Y fun a122 e=>?_;clear Y
   have h62:=pt_ F e;replace F:=pu_ F e;replace h55:=so_ e h55;replace h56:=so_ e h56;replace h57:=so_ e h57;replace h58:=so_ e h58;replace h59:=so_ e h59;replace h60:=so_ e h60;replace h61:=so_ e h61;clear e
   cases kz with
   | false =>
    have Y:(execOp a122.eval oA4_11_8).run Try.prog w114=.ok (.value (.bool false)) w114:=by unfold oA4_11_8;go_simp
    refine st_val gA4_11_8 rfl (wanted_is (j:=4) (d:=59) rfl rfl h59 rfl) Y fun a123 e=>?_;clear Y
    have h63:=pt_ F e;replace F:=pu_ F e;replace h55:=so_ e h55;replace h56:=so_ e h56;replace h57:=so_ e h57;replace h58:=so_ e h58;replace h59:=so_ e h59;replace h60:=so_ e h60;replace h61:=so_ e h61;replace h62:=so_ e h62;clear e
    have Y:(execOp a123.eval oA4_11_9).run Try.prog w114=.ok (.value (.bool false)) w114:=by unfold oA4_11_9;go_simp
    refine sv_ gA4_11_9 Y fun a124 e=>?_;clear Y
    have h64:=pt_ F e;replace F:=pu_ F e;replace h55:=so_ e h55;replace h56:=so_ e h56;replace h57:=so_ e h57;replace h58:=so_ e h58;replace h59:=so_ e h59;replace h60:=so_ e h60;replace h61:=so_ e h61;replace h62:=so_ e h62;replace h63:=so_ e h63;clear e
    refine sv_ gA4_11_10 (ym_ rfl h64) fun a125 e=>?_
    have h65:=pt_ F e;replace F:=pu_ F e;replace h55:=so_ e h55;replace h56:=so_ e h56;replace h57:=so_ e h57;replace h58:=so_ e h58;replace h59:=so_ e h59;replace h60:=so_ e h60;replace h61:=so_ e h61;replace h62:=so_ e h62;replace h63:=so_ e h63;replace h64:=so_ e h64;clear e
    refine st_val gA4_11_11 rfl (wanted_is (j:=10) (d:=65) rfl rfl h65 rfl) (yl4_ rfl (F.of h10) B84) fun a126 e=>?_
    have h66:=pt_ F e;replace F:=pu_ F e;replace h55:=so_ e h55;replace h56:=so_ e h56;replace h57:=so_ e h57;replace h58:=so_ e h58;replace h59:=so_ e h59;replace h60:=so_ e h60;replace h61:=so_ e h61;replace h62:=so_ e h62;replace h63:=so_ e h63;replace h64:=so_ e h64;replace h65:=so_ e h65;clear e
    have Y:(execOp a126.eval oA4_11_12).run Try.prog w114=.ok (.value (.pointer (some ⟨b111,1,none⟩))) w114:=by have r12:=F.of h12;unfold oA4_11_12;go_simp
    refine st_val gA4_11_12 rfl (wanted_is (j:=10) (d:=65) rfl rfl h65 rfl) Y fun a127 e=>?_;clear Y
    have h67:=pt_ F e;replace F:=pu_ F e;replace h55:=so_ e h55;replace h56:=so_ e h56;replace h57:=so_ e h57;replace h58:=so_ e h58;replace h59:=so_ e h59;replace h60:=so_ e h60;replace h61:=so_ e h61;replace h62:=so_ e h62;replace h63:=so_ e h63;replace h64:=so_ e h64;replace h65:=so_ e h65;replace h66:=so_ e h66;clear e
    have Y:(execOp a127.eval oA4_11_13).run Try.prog w114=.ok (.value (.agg #[.int .i64 ((ev).b.k),.string (str (ev).b.nm),.int .i64 ((ev).b.i),.slice aw (ev).b.args.length cw])) w114:=by have qq0:w114.cell? ⟨b111,0,none⟩=some (.int .i64 ((ev).v)):=B111.cell 0;have qq1:w114.cell? ⟨b111,1,none⟩=some (.int .i64 ((ev).b.k)):=B111.cell 1;have qq2:w114.cell? ⟨b111,2,none⟩=some (.string (str (ev).b.nm)):=B111.cell 2;have qq3:w114.cell? ⟨b111,3,none⟩=some (.int .i64 ((ev).b.i)):=B111.cell 3;have qq4:w114.cell? ⟨b111,4,none⟩=some (.slice aw (ev).b.args.length cw):=B111.cell 4;have qq5:w114.cell? ⟨b111,5,none⟩=some (.bool false):=B111.cell 5;unfold oA4_11_13;go_simp
    refine st_val gA4_11_13 rfl (wanted_is (j:=10) (d:=65) rfl rfl h65 rfl) Y fun a128 e=>?_;clear Y
    have h68:=pt_ F e;replace F:=pu_ F e;replace h55:=so_ e h55;replace h56:=so_ e h56;replace h57:=so_ e h57;replace h58:=so_ e h58;replace h59:=so_ e h59;replace h60:=so_ e h60;replace h61:=so_ e h61;replace h62:=so_ e h62;replace h63:=so_ e h63;replace h64:=so_ e h64;replace h65:=so_ e h65;replace h66:=so_ e h66;replace h67:=so_ e h67;clear e
    refine st_call gA4_11_14 rfl (wanted_is (j:=10) (d:=65) rfl rfl h65 rfl) (yc2_ enA4_13 rfl h66 h68) ((like_ok (HXe.out.on KXe) (HXw.out.on KXw) (likeP_self HPE.out)).mono ?_)
    rintro e9 w129 ⟨rfl,kk⟩
    replace K1:=keep_onto K1 kk
    replace KXo:=keep_onto KXo kk
    replace KXn:=keep_onto KXn kk
    replace KT:=keep_onto KT kk
    replace KXe:=keep_onto KXe kk
    replace KXw:=keep_onto KXw kk
    replace B14:=blk_on B14 kk
    replace B19:=blk_on B19 kk
    replace B73:=blk_on B73 kk
    replace B84:=blk_on B84 kk
    replace B111:=blk_on B111 kk
    clear kk
    refine ⟨_,rfl,fun a130 e=>?_⟩
    have h69:=pt_ F e;replace F:=pu_ F e;replace h55:=so_ e h55;replace h56:=so_ e h56;replace h57:=so_ e h57;replace h58:=so_ e h58;replace h59:=so_ e h59;replace h60:=so_ e h60;replace h61:=so_ e h61;replace h62:=so_ e h62;replace h63:=so_ e h63;replace h64:=so_ e h64;replace h65:=so_ e h65;replace h66:=so_ e h66;replace h67:=so_ e h67;replace h68:=so_ e h68;clear e
    have Y:(execOp a130.eval oA4_11_15).run Try.prog w129=.ok (.value (.bool false)) w129:=by unfold oA4_11_15;go_simp
    refine st_val gA4_11_15 rfl (wanted_is (j:=10) (d:=65) rfl rfl h65 rfl) Y fun a131 e=>?_;clear Y
    have h70:=pt_ F e;replace F:=pu_ F e;replace h55:=so_ e h55;replace h56:=so_ e h56;replace h57:=so_ e h57;replace h58:=so_ e h58;replace h59:=so_ e h59;replace h60:=so_ e h60;replace h61:=so_ e h61;replace h62:=so_ e h62;replace h63:=so_ e h63;replace h64:=so_ e h64;replace h65:=so_ e h65;replace h66:=so_ e h66;replace h67:=so_ e h67;replace h68:=so_ e h68;replace h69:=so_ e h69;clear e
    have Y:(execOp a131.eval oA4_11_16).run Try.prog w129=.ok (.value (.bool false)) w129:=by unfold oA4_11_16;go_simp
    refine sv_ gA4_11_16 Y fun a132 e=>?_;clear Y
    have h71:=pt_ F e;replace F:=pu_ F e;replace h55:=so_ e h55;replace h56:=so_ e h56;replace h57:=so_ e h57;replace h58:=so_ e h58;replace h59:=so_ e h59;replace h60:=so_ e h60;replace h61:=so_ e h61;replace h62:=so_ e h62;replace h63:=so_ e h63;replace h64:=so_ e h64;replace h65:=so_ e h65;replace h66:=so_ e h66;replace h67:=so_ e h67;replace h68:=so_ e h68;replace h69:=so_ e h69;replace h70:=so_ e h70;clear e
    refine st_end ?_
    replace h0:=F.of h0;replace h1:=F.of h1;replace h2:=F.of h2;replace h6:=F.of h6;replace h8:=F.of h8;replace h9:=F.of h9;replace h10:=F.of h10;replace h11:=F.of h11;replace h12:=F.of h12;replace h28:=F.of h28;replace h29:=F.of h29;replace h30:=F.of h30;replace h31:=F.of h31;replace h32:=F.of h32;replace h33:=F.of h33;replace h34:=F.of h34;replace h35:=F.of h35;replace h36:=F.of h36;replace h37:=F.of h37;replace h38:=F.of h38;replace h39:=F.of h39;replace h40:=F.of h40;replace h41:=F.of h41;replace h42:=F.of h42;replace h53:=F.of h53;replace h54:=F.of h54;have R:=F.r;clear F
    change (cA4_45).wp _ _ _ _
    refine wp_cond_false (x:=cA4_46) (y:=Code.skip) (eval_slot h71) ?_
    refine wp_skip ?_
    change (cA4_50).wp _ _ _ _
    change (Code.region 13 OA4_13 false).wp _ _ _ _
    refine reg_in (l:=[0,1]) rfl ?_
    have F:=fe_ R;clear R
    have Y:(execOp a132.eval oA4_13_0).run Try.prog w129=.ok (.value (.int .i64 ((j:Int) + 1))) w129:=by have r30:=F.of h30;have hwj:IntKind.i64.wrap ((j:Int) + 1)=(j:Int) + 1:=(by rw [IntKind.wrap_i64];omega);unfold oA4_13_0;go_simp
    refine sw_ gA4_13_0 Y F fun a133 F h72=>?_;clear Y
    refine sv_ gA4_13_1 (ym_ rfl h72) fun a134 e=>?_
    clear h30;have h30:=pt_ F e;replace F:=pu_ F e;replace h72:=so_ e h72;clear e
    refine st_end ?_
    replace h0:=F.of h0;replace h1:=F.of h1;replace h2:=F.of h2;replace h6:=F.of h6;replace h8:=F.of h8;replace h9:=F.of h9;replace h10:=F.of h10;replace h11:=F.of h11;replace h12:=F.of h12;replace h28:=F.of h28;replace h29:=F.of h29;replace h31:=F.of h31;replace h32:=F.of h32;replace h33:=F.of h33;replace h34:=F.of h34;replace h35:=F.of h35;replace h36:=F.of h36;replace h37:=F.of h37;replace h38:=F.of h38;replace h39:=F.of h39;replace h40:=F.of h40;replace h41:=F.of h41;replace h42:=F.of h42;replace h53:=F.of h53;replace h54:=F.of h54;replace h55:=F.of h55;replace h56:=F.of h56;replace h57:=F.of h57;replace h58:=F.of h58;replace h59:=F.of h59;replace h60:=F.of h60;replace h61:=F.of h61;replace h62:=F.of h62;replace h63:=F.of h63;replace h64:=F.of h64;replace h65:=F.of h65;replace h66:=F.of h66;replace h67:=F.of h67;replace h68:=F.of h68;replace h69:=F.of h69;replace h70:=F.of h70;replace h71:=F.of h71;have R:=F.r;clear F
    exact ⟨_,(by omega),j + 1,rfl,R,h0,h1,h2,h6,h28,h29,h30,K1,KXo,KXn,B14,B19,(by omega)⟩
   | true =>
    have Y:(execOp a122.eval oA4_11_8).run Try.prog w114=.ok (.value (.bool false)) w114:=by unfold oA4_11_8;go_simp
    refine st_val gA4_11_8 rfl (wanted_is (j:=4) (d:=59) rfl rfl h59 rfl) Y fun a135 e=>?_;clear Y
    have h63:=pt_ F e;replace F:=pu_ F e;replace h55:=so_ e h55;replace h56:=so_ e h56;replace h57:=so_ e h57;replace h58:=so_ e h58;replace h59:=so_ e h59;replace h60:=so_ e h60;replace h61:=so_ e h61;replace h62:=so_ e h62;clear e
    have Y:(execOp a135.eval oA4_11_9).run Try.prog w114=.ok (.value (.bool false)) w114:=by unfold oA4_11_9;go_simp
    refine sv_ gA4_11_9 Y fun a136 e=>?_;clear Y
    have h64:=pt_ F e;replace F:=pu_ F e;replace h55:=so_ e h55;replace h56:=so_ e h56;replace h57:=so_ e h57;replace h58:=so_ e h58;replace h59:=so_ e h59;replace h60:=so_ e h60;replace h61:=so_ e h61;replace h62:=so_ e h62;replace h63:=so_ e h63;clear e
    refine sv_ gA4_11_10 (ym_ rfl h64) fun a137 e=>?_
    have h65:=pt_ F e;replace F:=pu_ F e;replace h55:=so_ e h55;replace h56:=so_ e h56;replace h57:=so_ e h57;replace h58:=so_ e h58;replace h59:=so_ e h59;replace h60:=so_ e h60;replace h61:=so_ e h61;replace h62:=so_ e h62;replace h63:=so_ e h63;replace h64:=so_ e h64;clear e
    refine st_val gA4_11_11 rfl (wanted_is (j:=10) (d:=65) rfl rfl h65 rfl) (yl4_ rfl (F.of h10) B84) fun a138 e=>?_
    have h66:=pt_ F e;replace F:=pu_ F e;replace h55:=so_ e h55;replace h56:=so_ e h56;replace h57:=so_ e h57;replace h58:=so_ e h58;replace h59:=so_ e h59;replace h60:=so_ e h60;replace h61:=so_ e h61;replace h62:=so_ e h62;replace h63:=so_ e h63;replace h64:=so_ e h64;replace h65:=so_ e h65;clear e
    have Y:(execOp a138.eval oA4_11_12).run Try.prog w114=.ok (.value (.pointer (some ⟨b111,1,none⟩))) w114:=by have r12:=F.of h12;unfold oA4_11_12;go_simp
    refine st_val gA4_11_12 rfl (wanted_is (j:=10) (d:=65) rfl rfl h65 rfl) Y fun a139 e=>?_;clear Y
    have h67:=pt_ F e;replace F:=pu_ F e;replace h55:=so_ e h55;replace h56:=so_ e h56;replace h57:=so_ e h57;replace h58:=so_ e h58;replace h59:=so_ e h59;replace h60:=so_ e h60;replace h61:=so_ e h61;replace h62:=so_ e h62;replace h63:=so_ e h63;replace h64:=so_ e h64;replace h65:=so_ e h65;replace h66:=so_ e h66;clear e
    have Y:(execOp a139.eval oA4_11_13).run Try.prog w114=.ok (.value (.agg #[.int .i64 ((ev).b.k),.string (str (ev).b.nm),.int .i64 ((ev).b.i),.slice aw (ev).b.args.length cw])) w114:=by have qq0:w114.cell? ⟨b111,0,none⟩=some (.int .i64 ((ev).v)):=B111.cell 0;have qq1:w114.cell? ⟨b111,1,none⟩=some (.int .i64 ((ev).b.k)):=B111.cell 1;have qq2:w114.cell? ⟨b111,2,none⟩=some (.string (str (ev).b.nm)):=B111.cell 2;have qq3:w114.cell? ⟨b111,3,none⟩=some (.int .i64 ((ev).b.i)):=B111.cell 3;have qq4:w114.cell? ⟨b111,4,none⟩=some (.slice aw (ev).b.args.length cw):=B111.cell 4;have qq5:w114.cell? ⟨b111,5,none⟩=some (.bool true):=B111.cell 5;unfold oA4_11_13;go_simp
    refine st_val gA4_11_13 rfl (wanted_is (j:=10) (d:=65) rfl rfl h65 rfl) Y fun a140 e=>?_;clear Y
    have h68:=pt_ F e;replace F:=pu_ F e;replace h55:=so_ e h55;replace h56:=so_ e h56;replace h57:=so_ e h57;replace h58:=so_ e h58;replace h59:=so_ e h59;replace h60:=so_ e h60;replace h61:=so_ e h61;replace h62:=so_ e h62;replace h63:=so_ e h63;replace h64:=so_ e h64;replace h65:=so_ e h65;replace h66:=so_ e h66;replace h67:=so_ e h67;clear e
    refine st_call gA4_11_14 rfl (wanted_is (j:=10) (d:=65) rfl rfl h65 rfl) (yc2_ enA4_13 rfl h66 h68) ((like_ok (HXe.out.on KXe) (HXw.out.on KXw) (likeP_self HPE.out)).mono ?_)
    rintro e9 w141 ⟨rfl,kk⟩
    replace K1:=keep_onto K1 kk
    replace KXo:=keep_onto KXo kk
    replace KXn:=keep_onto KXn kk
    replace KT:=keep_onto KT kk
    replace KXe:=keep_onto KXe kk
    replace KXw:=keep_onto KXw kk
    replace B14:=blk_on B14 kk
    replace B19:=blk_on B19 kk
    replace B73:=blk_on B73 kk
    replace B84:=blk_on B84 kk
    replace B111:=blk_on B111 kk
    clear kk
    refine ⟨_,rfl,fun a142 e=>?_⟩
    have h69:=pt_ F e;replace F:=pu_ F e;replace h55:=so_ e h55;replace h56:=so_ e h56;replace h57:=so_ e h57;replace h58:=so_ e h58;replace h59:=so_ e h59;replace h60:=so_ e h60;replace h61:=so_ e h61;replace h62:=so_ e h62;replace h63:=so_ e h63;replace h64:=so_ e h64;replace h65:=so_ e h65;replace h66:=so_ e h66;replace h67:=so_ e h67;replace h68:=so_ e h68;clear e
    have Y:(execOp a142.eval oA4_11_15).run Try.prog w141=.ok (.value (.bool false)) w141:=by unfold oA4_11_15;go_simp
    refine st_val gA4_11_15 rfl (wanted_is (j:=10) (d:=65) rfl rfl h65 rfl) Y fun a143 e=>?_;clear Y
    have h70:=pt_ F e;replace F:=pu_ F e;replace h55:=so_ e h55;replace h56:=so_ e h56;replace h57:=so_ e h57;replace h58:=so_ e h58;replace h59:=so_ e h59;replace h60:=so_ e h60;replace h61:=so_ e h61;replace h62:=so_ e h62;replace h63:=so_ e h63;replace h64:=so_ e h64;replace h65:=so_ e h65;replace h66:=so_ e h66;replace h67:=so_ e h67;replace h68:=so_ e h68;replace h69:=so_ e h69;clear e
    have Y:(execOp a143.eval oA4_11_16).run Try.prog w141=.ok (.value (.bool false)) w141:=by unfold oA4_11_16;go_simp
    refine sv_ gA4_11_16 Y fun a144 e=>?_;clear Y
    have h71:=pt_ F e;replace F:=pu_ F e;replace h55:=so_ e h55;replace h56:=so_ e h56;replace h57:=so_ e h57;replace h58:=so_ e h58;replace h59:=so_ e h59;replace h60:=so_ e h60;replace h61:=so_ e h61;replace h62:=so_ e h62;replace h63:=so_ e h63;replace h64:=so_ e h64;replace h65:=so_ e h65;replace h66:=so_ e h66;replace h67:=so_ e h67;replace h68:=so_ e h68;replace h69:=so_ e h69;replace h70:=so_ e h70;clear e
    refine st_end ?_
    replace h0:=F.of h0;replace h1:=F.of h1;replace h2:=F.of h2;replace h6:=F.of h6;replace h8:=F.of h8;replace h9:=F.of h9;replace h10:=F.of h10;replace h11:=F.of h11;replace h12:=F.of h12;replace h28:=F.of h28;replace h29:=F.of h29;replace h30:=F.of h30;replace h31:=F.of h31;replace h32:=F.of h32;replace h33:=F.of h33;replace h34:=F.of h34;replace h35:=F.of h35;replace h36:=F.of h36;replace h37:=F.of h37;replace h38:=F.of h38;replace h39:=F.of h39;replace h40:=F.of h40;replace h41:=F.of h41;replace h42:=F.of h42;replace h53:=F.of h53;replace h54:=F.of h54;have R:=F.r;clear F
    change (cA4_45).wp _ _ _ _
    refine wp_cond_false (x:=cA4_46) (y:=Code.skip) (eval_slot h71) ?_
    refine wp_skip ?_
    change (cA4_50).wp _ _ _ _
    change (Code.region 13 OA4_13 false).wp _ _ _ _
    refine reg_in (l:=[0,1]) rfl ?_
    have F:=fe_ R;clear R
    have Y:(execOp a144.eval oA4_13_0).run Try.prog w141=.ok (.value (.int .i64 ((j:Int) + 1))) w141:=by have r30:=F.of h30;have hwj:IntKind.i64.wrap ((j:Int) + 1)=(j:Int) + 1:=(by rw [IntKind.wrap_i64];omega);unfold oA4_13_0;go_simp
    refine sw_ gA4_13_0 Y F fun a145 F h72=>?_;clear Y
    refine sv_ gA4_13_1 (ym_ rfl h72) fun a146 e=>?_
    clear h30;have h30:=pt_ F e;replace F:=pu_ F e;replace h72:=so_ e h72;clear e
    refine st_end ?_
    replace h0:=F.of h0;replace h1:=F.of h1;replace h2:=F.of h2;replace h6:=F.of h6;replace h8:=F.of h8;replace h9:=F.of h9;replace h10:=F.of h10;replace h11:=F.of h11;replace h12:=F.of h12;replace h28:=F.of h28;replace h29:=F.of h29;replace h31:=F.of h31;replace h32:=F.of h32;replace h33:=F.of h33;replace h34:=F.of h34;replace h35:=F.of h35;replace h36:=F.of h36;replace h37:=F.of h37;replace h38:=F.of h38;replace h39:=F.of h39;replace h40:=F.of h40;replace h41:=F.of h41;replace h42:=F.of h42;replace h53:=F.of h53;replace h54:=F.of h54;replace h55:=F.of h55;replace h56:=F.of h56;replace h57:=F.of h57;replace h58:=F.of h58;replace h59:=F.of h59;replace h60:=F.of h60;replace h61:=F.of h61;replace h62:=F.of h62;replace h63:=F.of h63;replace h64:=F.of h64;replace h65:=F.of h65;replace h66:=F.of h66;replace h67:=F.of h67;replace h68:=F.of h68;replace h69:=F.of h69;replace h70:=F.of h70;replace h71:=F.of h71;have R:=F.r;clear F
    exact ⟨_,(by omega),j + 1,rfl,R,h0,h1,h2,h6,h28,h29,h30,K1,KXo,KXn,B14,B19,(by omega)⟩
theorem numbers_walk {W:World} {nm:List UInt8} {i k:Int} (hn:nm.length ≤ maxLen) (hi:(Lit.int .i64 i).wf=true) (hk:(Lit.int .i64 k).wf=true):Calls Try.prog 4 #[.string (str nm),.int .i64 i,.int .i64 k] W fun e w'=>e=.returned (.bool true)∧Keep (fun g=>g < W.heap.size) W w':=by
  refine enter_sx Try.func4 bodyA4 rfl (by show (3:Nat) ≤ 95;decide) fun f0 R hs=>?_
  exact numbers_w R (hs 0 _ rfl) (hs 1 _ rfl) (hs 2 _ rfl) (Keep.refl _ W) (Lib.hid hn) (Lib.hid ⟨hi,hk⟩)
end Go.Proofs.Ytmgephleogiaoaa
