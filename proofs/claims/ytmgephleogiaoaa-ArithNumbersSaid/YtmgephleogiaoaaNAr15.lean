/-
  The document's examples hold. No condition.
-/
import Derived.Test.YtmgephleogiaoaaNAr14
namespace Go.Proofs.Ytmgephleogiaoaa
open Go.RowKit Go.Maps
set_option linter.unusedVariables false
set_option linter.unusedSimpArgs false
theorem refA_is (w:World) (nm:List UInt8):Calls Try.prog 20 #[.string (str nm)] w fun e w'=>e=.returned (tv (.node 3 nm 0 []) none 0)∧Keep (fun g=>g < w.heap.size) w w':=refA_any w nm
theorem own_in {P:Nat→Prop} {w:World} {t:Tm} {a:Option Addr} {c:Nat} (h:TmAt w.heap.size w t a c):OwnP (fun _=>True) w t a c:=fun W k=>h.on (k.less fun g hg=>⟨trivial,hg⟩)
def oA9_0_0:Oper:=⟨some 0,Op.assign (Operand.const (Value.bool false)),4, "law.go:17",#[],none⟩
def OA9_0:Array Oper:=List.toArray (oA9_0_0::[])
theorem gA9_0_0:OA9_0[0]? = some oA9_0_0:=rfl
def cA9_1:Code:=Code.region 0 OA9_0 false
def oA9_1_0:Oper:=⟨some 22,Op.call { callee:=Callee.value (Operand.func 14),args:=#[Operand.const (Value.string { data:=#[47,47] }),Operand.const (Value.int IntKind.i64 (-7)),Operand.const (Value.int IntKind.i64 2)],argTypes:=#[9,2,2] },24, "law.go:18",#[],none⟩
def oA9_1_1:Oper:=⟨some 23,Op.call { callee:=Callee.value (Operand.func 10),args:=#[Operand.tmp 22],argTypes:=#[24] },26, "law.go:18",#[ed_ 0,ec_ 0],none⟩
def oA9_1_2:Oper:=⟨some 21,Op.move (Operand.tmp 23),26, "law.go:18",#[ed_ 1],none⟩
def oA9_1_3:Oper:=⟨some 24,Op.extract (Operand.tmp 21) 0,2, "law.go:18",#[ed_ 2],none⟩
def oA9_1_4:Oper:=⟨some 25,Op.extract (Operand.tmp 21) 1,24, "law.go:18",#[ed_ 2,{ on:=7,ground:=Go.Ground.gcOnly Go.Departure.lateStores }],none⟩
def oA9_1_5:Oper:=⟨some 26,Op.extract (Operand.tmp 21) 2,4, "law.go:18",#[ed_ 2,{ on:=8,ground:=Go.Ground.gcOnly Go.Departure.lateStores }],none⟩
def oA9_1_6:Oper:=⟨some 2,Op.alloc 24,0, "law.go:18",#[],none⟩
def oA9_1_7:Oper:=⟨some 1,Op.assign (Operand.tmp 24),2, "law.go:18",#[ed_ 3,ec_ 1,ep_ 0,ep_ 1,ep_ 2,ep_ 3,{ on:=4,ground:=Go.Ground.textOnly Go.Departure.lateStores },{ on:=5,ground:=Go.Ground.textOnly Go.Departure.lateStores },ep_ 6],none⟩
def oA9_1_8:Oper:=⟨none,Op.store 24 (Operand.tmp 2) (Operand.tmp 25),0, "law.go:18",#[ed_ 6,ed_ 4,ec_ 7,ep_ 0,ep_ 1,ep_ 2,ep_ 3,ep_ 4,{ on:=5,ground:=Go.Ground.textOnly Go.Departure.lateStores },ep_ 6,ep_ 7],none⟩
def oA9_1_9:Oper:=⟨some 3,Op.assign (Operand.tmp 26),4, "law.go:18",#[ed_ 5,ec_ 8,ep_ 0,ep_ 1,ep_ 2,ep_ 3,ep_ 4,ep_ 5,ep_ 6,ep_ 7,ep_ 8],none⟩
def OA9_1:Array Oper:=List.toArray (oA9_1_0::oA9_1_1::oA9_1_2::oA9_1_3::oA9_1_4::oA9_1_5::oA9_1_6::oA9_1_7::oA9_1_8::oA9_1_9::[])
theorem gA9_1_0:OA9_1[0]? = some oA9_1_0:=rfl
theorem gA9_1_1:OA9_1[1]? = some oA9_1_1:=rfl
theorem gA9_1_2:OA9_1[2]? = some oA9_1_2:=rfl
theorem gA9_1_3:OA9_1[3]? = some oA9_1_3:=rfl
theorem gA9_1_4:OA9_1[4]? = some oA9_1_4:=rfl
theorem gA9_1_5:OA9_1[5]? = some oA9_1_5:=rfl
theorem gA9_1_6:OA9_1[6]? = some oA9_1_6:=rfl
theorem gA9_1_7:OA9_1[7]? = some oA9_1_7:=rfl
theorem gA9_1_8:OA9_1[8]? = some oA9_1_8:=rfl
theorem gA9_1_9:OA9_1[9]? = some oA9_1_9:=rfl
def cA9_3:Code:=Code.region 1 OA9_1 false
def oA9_2_0:Oper:=⟨some 28,Op.call { callee:=Callee.value (Operand.func 14),args:=#[Operand.const (Value.string { data:=#[109,111,100] }),Operand.const (Value.int IntKind.i64 (-7)),Operand.const (Value.int IntKind.i64 2)],argTypes:=#[9,2,2] },24, "law.go:19",#[],none⟩
def oA9_2_1:Oper:=⟨some 29,Op.call { callee:=Callee.value (Operand.func 10),args:=#[Operand.tmp 28],argTypes:=#[24] },26, "law.go:19",#[ed_ 0,ec_ 0],none⟩
def oA9_2_2:Oper:=⟨some 27,Op.move (Operand.tmp 29),26, "law.go:19",#[ed_ 1],none⟩
def oA9_2_3:Oper:=⟨some 30,Op.extract (Operand.tmp 27) 0,2, "law.go:19",#[ed_ 2],none⟩
def oA9_2_4:Oper:=⟨some 31,Op.extract (Operand.tmp 27) 1,24, "law.go:19",#[ed_ 2,{ on:=7,ground:=Go.Ground.gcOnly Go.Departure.lateStores }],none⟩
def oA9_2_5:Oper:=⟨some 32,Op.extract (Operand.tmp 27) 2,4, "law.go:19",#[ed_ 2,{ on:=8,ground:=Go.Ground.gcOnly Go.Departure.lateStores }],none⟩
def oA9_2_6:Oper:=⟨some 5,Op.alloc 24,0, "law.go:19",#[],none⟩
def oA9_2_7:Oper:=⟨some 4,Op.assign (Operand.tmp 30),2, "law.go:19",#[ed_ 3,ec_ 1,ep_ 0,ep_ 1,ep_ 2,ep_ 3,{ on:=4,ground:=Go.Ground.textOnly Go.Departure.lateStores },{ on:=5,ground:=Go.Ground.textOnly Go.Departure.lateStores },ep_ 6],none⟩
def oA9_2_8:Oper:=⟨none,Op.store 24 (Operand.tmp 5) (Operand.tmp 31),0, "law.go:19",#[ed_ 6,ed_ 4,ec_ 7,ep_ 0,ep_ 1,ep_ 2,ep_ 3,ep_ 4,{ on:=5,ground:=Go.Ground.textOnly Go.Departure.lateStores },ep_ 6,ep_ 7],none⟩
def oA9_2_9:Oper:=⟨some 6,Op.assign (Operand.tmp 32),4, "law.go:19",#[ed_ 5,ec_ 8,ep_ 0,ep_ 1,ep_ 2,ep_ 3,ep_ 4,ep_ 5,ep_ 6,ep_ 7,ep_ 8],none⟩
def OA9_2:Array Oper:=List.toArray (oA9_2_0::oA9_2_1::oA9_2_2::oA9_2_3::oA9_2_4::oA9_2_5::oA9_2_6::oA9_2_7::oA9_2_8::oA9_2_9::[])
theorem gA9_2_0:OA9_2[0]? = some oA9_2_0:=rfl
theorem gA9_2_1:OA9_2[1]? = some oA9_2_1:=rfl
theorem gA9_2_2:OA9_2[2]? = some oA9_2_2:=rfl
theorem gA9_2_3:OA9_2[3]? = some oA9_2_3:=rfl
theorem gA9_2_4:OA9_2[4]? = some oA9_2_4:=rfl
theorem gA9_2_5:OA9_2[5]? = some oA9_2_5:=rfl
theorem gA9_2_6:OA9_2[6]? = some oA9_2_6:=rfl
theorem gA9_2_7:OA9_2[7]? = some oA9_2_7:=rfl
theorem gA9_2_8:OA9_2[8]? = some oA9_2_8:=rfl
theorem gA9_2_9:OA9_2[9]? = some oA9_2_9:=rfl
def cA9_5:Code:=Code.region 2 OA9_2 false
def oA9_3_0:Oper:=⟨some 34,Op.call { callee:=Callee.value (Operand.func 14),args:=#[Operand.const (Value.string { data:=#[114,101,109] }),Operand.const (Value.int IntKind.i64 (-7)),Operand.const (Value.int IntKind.i64 2)],argTypes:=#[9,2,2] },24, "law.go:20",#[],none⟩
def oA9_3_1:Oper:=⟨some 35,Op.call { callee:=Callee.value (Operand.func 10),args:=#[Operand.tmp 34],argTypes:=#[24] },26, "law.go:20",#[ed_ 0,ec_ 0],none⟩
def oA9_3_2:Oper:=⟨some 33,Op.move (Operand.tmp 35),26, "law.go:20",#[ed_ 1],none⟩
def oA9_3_3:Oper:=⟨some 36,Op.extract (Operand.tmp 33) 0,2, "law.go:20",#[ed_ 2],none⟩
def oA9_3_4:Oper:=⟨some 37,Op.extract (Operand.tmp 33) 1,24, "law.go:20",#[ed_ 2,{ on:=7,ground:=Go.Ground.gcOnly Go.Departure.lateStores }],none⟩
def oA9_3_5:Oper:=⟨some 38,Op.extract (Operand.tmp 33) 2,4, "law.go:20",#[ed_ 2,{ on:=8,ground:=Go.Ground.gcOnly Go.Departure.lateStores }],none⟩
def oA9_3_6:Oper:=⟨some 8,Op.alloc 24,0, "law.go:20",#[],none⟩
def oA9_3_7:Oper:=⟨some 7,Op.assign (Operand.tmp 36),2, "law.go:20",#[ed_ 3,ec_ 1,ep_ 0,ep_ 1,ep_ 2,ep_ 3,{ on:=4,ground:=Go.Ground.textOnly Go.Departure.lateStores },{ on:=5,ground:=Go.Ground.textOnly Go.Departure.lateStores },ep_ 6],none⟩
def oA9_3_8:Oper:=⟨none,Op.store 24 (Operand.tmp 8) (Operand.tmp 37),0, "law.go:20",#[ed_ 6,ed_ 4,ec_ 7,ep_ 0,ep_ 1,ep_ 2,ep_ 3,ep_ 4,{ on:=5,ground:=Go.Ground.textOnly Go.Departure.lateStores },ep_ 6,ep_ 7],none⟩
def oA9_3_9:Oper:=⟨some 9,Op.assign (Operand.tmp 38),4, "law.go:20",#[ed_ 5,ec_ 8,ep_ 0,ep_ 1,ep_ 2,ep_ 3,ep_ 4,ep_ 5,ep_ 6,ep_ 7,ep_ 8],none⟩
def OA9_3:Array Oper:=List.toArray (oA9_3_0::oA9_3_1::oA9_3_2::oA9_3_3::oA9_3_4::oA9_3_5::oA9_3_6::oA9_3_7::oA9_3_8::oA9_3_9::[])
theorem gA9_3_0:OA9_3[0]? = some oA9_3_0:=rfl
theorem gA9_3_1:OA9_3[1]? = some oA9_3_1:=rfl
theorem gA9_3_2:OA9_3[2]? = some oA9_3_2:=rfl
theorem gA9_3_3:OA9_3[3]? = some oA9_3_3:=rfl
theorem gA9_3_4:OA9_3[4]? = some oA9_3_4:=rfl
theorem gA9_3_5:OA9_3[5]? = some oA9_3_5:=rfl
theorem gA9_3_6:OA9_3[6]? = some oA9_3_6:=rfl
theorem gA9_3_7:OA9_3[7]? = some oA9_3_7:=rfl
theorem gA9_3_8:OA9_3[8]? = some oA9_3_8:=rfl
theorem gA9_3_9:OA9_3[9]? = some oA9_3_9:=rfl
def cA9_7:Code:=Code.region 3 OA9_3 false
def oA9_4_0:Oper:=⟨some 40,Op.call { callee:=Callee.value (Operand.func 20),args:=#[Operand.const (Value.string { data:=#[97] })],argTypes:=#[9] },24, "law.go:21",#[],none⟩
def oA9_4_1:Oper:=⟨some 41,Op.call { callee:=Callee.value (Operand.func 24),args:=#[Operand.const (Value.int IntKind.i64 1)],argTypes:=#[2] },24, "law.go:21",#[ec_ 0],none⟩
def oA9_4_2:Oper:=⟨some 42,Op.buildSlice 22 2 #[(0,Operand.tmp 40),(1,Operand.tmp 41)],22, "law.go:21",#[ed_ 0,ed_ 1],none⟩
def oA9_4_3:Oper:=⟨some 43,Op.call { callee:=Callee.value (Operand.func 15),args:=#[Operand.const (Value.string { data:=#[43] }),Operand.tmp 42],argTypes:=#[9,22] },24, "law.go:21",#[ed_ 2,ec_ 1],none⟩
def oA9_4_4:Oper:=⟨some 44,Op.call { callee:=Callee.value (Operand.func 10),args:=#[Operand.tmp 43],argTypes:=#[24] },26, "law.go:21",#[ed_ 3,ec_ 3],none⟩
def oA9_4_5:Oper:=⟨some 39,Op.move (Operand.tmp 44),26, "law.go:21",#[ed_ 4],none⟩
def oA9_4_6:Oper:=⟨some 45,Op.extract (Operand.tmp 39) 0,2, "law.go:21",#[ed_ 5],none⟩
def oA9_4_7:Oper:=⟨some 46,Op.extract (Operand.tmp 39) 1,24, "law.go:21",#[ed_ 5,{ on:=10,ground:=Go.Ground.gcOnly Go.Departure.lateStores }],none⟩
def oA9_4_8:Oper:=⟨some 47,Op.extract (Operand.tmp 39) 2,4, "law.go:21",#[ed_ 5,{ on:=11,ground:=Go.Ground.gcOnly Go.Departure.lateStores }],none⟩
def oA9_4_9:Oper:=⟨some 11,Op.alloc 24,0, "law.go:21",#[],none⟩
def oA9_4_10:Oper:=⟨some 10,Op.assign (Operand.tmp 45),2, "law.go:21",#[ed_ 6,ec_ 4,ep_ 0,ep_ 1,ep_ 2,ep_ 3,ep_ 4,ep_ 5,ep_ 6,{ on:=7,ground:=Go.Ground.textOnly Go.Departure.lateStores },{ on:=8,ground:=Go.Ground.textOnly Go.Departure.lateStores },ep_ 9],none⟩
def oA9_4_11:Oper:=⟨none,Op.store 24 (Operand.tmp 11) (Operand.tmp 46),0, "law.go:21",#[ed_ 9,ed_ 7,ec_ 10,ep_ 0,ep_ 1,ep_ 2,ep_ 3,ep_ 4,ep_ 5,ep_ 6,ep_ 7,{ on:=8,ground:=Go.Ground.textOnly Go.Departure.lateStores },ep_ 9,ep_ 10],none⟩
def oA9_4_12:Oper:=⟨some 12,Op.assign (Operand.tmp 47),4, "law.go:21",#[ed_ 8,ec_ 11,ep_ 0,ep_ 1,ep_ 2,ep_ 3,ep_ 4,ep_ 5,ep_ 6,ep_ 7,ep_ 8,ep_ 9,ep_ 10,ep_ 11],none⟩
def OA9_4:Array Oper:=List.toArray (oA9_4_0::oA9_4_1::oA9_4_2::oA9_4_3::oA9_4_4::oA9_4_5::oA9_4_6::oA9_4_7::oA9_4_8::oA9_4_9::oA9_4_10::oA9_4_11::oA9_4_12::[])
theorem gA9_4_0:OA9_4[0]? = some oA9_4_0:=rfl
theorem gA9_4_1:OA9_4[1]? = some oA9_4_1:=rfl
theorem gA9_4_2:OA9_4[2]? = some oA9_4_2:=rfl
theorem gA9_4_3:OA9_4[3]? = some oA9_4_3:=rfl
theorem gA9_4_4:OA9_4[4]? = some oA9_4_4:=rfl
theorem gA9_4_5:OA9_4[5]? = some oA9_4_5:=rfl
theorem gA9_4_6:OA9_4[6]? = some oA9_4_6:=rfl
theorem gA9_4_7:OA9_4[7]? = some oA9_4_7:=rfl
theorem gA9_4_8:OA9_4[8]? = some oA9_4_8:=rfl
theorem gA9_4_9:OA9_4[9]? = some oA9_4_9:=rfl
theorem gA9_4_10:OA9_4[10]? = some oA9_4_10:=rfl
theorem gA9_4_11:OA9_4[11]? = some oA9_4_11:=rfl
theorem gA9_4_12:OA9_4[12]? = some oA9_4_12:=rfl
def cA9_9:Code:=Code.region 4 OA9_4 false
def oA9_5_0:Oper:=⟨some 49,Op.call { callee:=Callee.value (Operand.func 14),args:=#[Operand.const (Value.string { data:=#[60,60] }),Operand.const (Value.int IntKind.i64 1),Operand.const (Value.int IntKind.i64 63)],argTypes:=#[9,2,2] },24, "law.go:22",#[],none⟩
def oA9_5_1:Oper:=⟨some 50,Op.call { callee:=Callee.value (Operand.func 10),args:=#[Operand.tmp 49],argTypes:=#[24] },26, "law.go:22",#[ed_ 0,ec_ 0],none⟩
def oA9_5_2:Oper:=⟨some 48,Op.move (Operand.tmp 50),26, "law.go:22",#[ed_ 1],none⟩
def oA9_5_3:Oper:=⟨some 51,Op.extract (Operand.tmp 48) 0,2, "law.go:22",#[ed_ 2],none⟩
def oA9_5_4:Oper:=⟨some 52,Op.extract (Operand.tmp 48) 1,24, "law.go:22",#[ed_ 2,{ on:=7,ground:=Go.Ground.gcOnly Go.Departure.lateStores }],none⟩
def oA9_5_5:Oper:=⟨some 53,Op.extract (Operand.tmp 48) 2,4, "law.go:22",#[ed_ 2,{ on:=8,ground:=Go.Ground.gcOnly Go.Departure.lateStores }],none⟩
def oA9_5_6:Oper:=⟨some 14,Op.alloc 24,0, "law.go:22",#[],none⟩
def oA9_5_7:Oper:=⟨some 13,Op.assign (Operand.tmp 51),2, "law.go:22",#[ed_ 3,ec_ 1,ep_ 0,ep_ 1,ep_ 2,ep_ 3,{ on:=4,ground:=Go.Ground.textOnly Go.Departure.lateStores },{ on:=5,ground:=Go.Ground.textOnly Go.Departure.lateStores },ep_ 6],none⟩
def oA9_5_8:Oper:=⟨none,Op.store 24 (Operand.tmp 14) (Operand.tmp 52),0, "law.go:22",#[ed_ 6,ed_ 4,ec_ 7,ep_ 0,ep_ 1,ep_ 2,ep_ 3,ep_ 4,{ on:=5,ground:=Go.Ground.textOnly Go.Departure.lateStores },ep_ 6,ep_ 7],none⟩
def oA9_5_9:Oper:=⟨some 15,Op.assign (Operand.tmp 53),4, "law.go:22",#[ed_ 5,ec_ 8,ep_ 0,ep_ 1,ep_ 2,ep_ 3,ep_ 4,ep_ 5,ep_ 6,ep_ 7,ep_ 8],none⟩
def OA9_5:Array Oper:=List.toArray (oA9_5_0::oA9_5_1::oA9_5_2::oA9_5_3::oA9_5_4::oA9_5_5::oA9_5_6::oA9_5_7::oA9_5_8::oA9_5_9::[])
theorem gA9_5_0:OA9_5[0]? = some oA9_5_0:=rfl
theorem gA9_5_1:OA9_5[1]? = some oA9_5_1:=rfl
theorem gA9_5_2:OA9_5[2]? = some oA9_5_2:=rfl
theorem gA9_5_3:OA9_5[3]? = some oA9_5_3:=rfl
theorem gA9_5_4:OA9_5[4]? = some oA9_5_4:=rfl
theorem gA9_5_5:OA9_5[5]? = some oA9_5_5:=rfl
theorem gA9_5_6:OA9_5[6]? = some oA9_5_6:=rfl
theorem gA9_5_7:OA9_5[7]? = some oA9_5_7:=rfl
theorem gA9_5_8:OA9_5[8]? = some oA9_5_8:=rfl
theorem gA9_5_9:OA9_5[9]? = some oA9_5_9:=rfl
def cA9_11:Code:=Code.region 5 OA9_5 false
def oA9_6_0:Oper:=⟨some 55,Op.call { callee:=Callee.value (Operand.func 14),args:=#[Operand.const (Value.string { data:=#[62,62] }),Operand.const (Value.int IntKind.i64 (-1)),Operand.const (Value.int IntKind.i64 100)],argTypes:=#[9,2,2] },24, "law.go:23",#[],none⟩
def oA9_6_1:Oper:=⟨some 56,Op.call { callee:=Callee.value (Operand.func 10),args:=#[Operand.tmp 55],argTypes:=#[24] },26, "law.go:23",#[ed_ 0,ec_ 0],none⟩
def oA9_6_2:Oper:=⟨some 54,Op.move (Operand.tmp 56),26, "law.go:23",#[ed_ 1],none⟩
def oA9_6_3:Oper:=⟨some 57,Op.extract (Operand.tmp 54) 0,2, "law.go:23",#[ed_ 2],none⟩
def oA9_6_4:Oper:=⟨some 58,Op.extract (Operand.tmp 54) 1,24, "law.go:23",#[ed_ 2,{ on:=7,ground:=Go.Ground.gcOnly Go.Departure.lateStores }],none⟩
def oA9_6_5:Oper:=⟨some 59,Op.extract (Operand.tmp 54) 2,4, "law.go:23",#[ed_ 2,{ on:=8,ground:=Go.Ground.gcOnly Go.Departure.lateStores }],none⟩
def oA9_6_6:Oper:=⟨some 17,Op.alloc 24,0, "law.go:23",#[],none⟩
def oA9_6_7:Oper:=⟨some 16,Op.assign (Operand.tmp 57),2, "law.go:23",#[ed_ 3,ec_ 1,ep_ 0,ep_ 1,ep_ 2,ep_ 3,{ on:=4,ground:=Go.Ground.textOnly Go.Departure.lateStores },{ on:=5,ground:=Go.Ground.textOnly Go.Departure.lateStores },ep_ 6],none⟩
def oA9_6_8:Oper:=⟨none,Op.store 24 (Operand.tmp 17) (Operand.tmp 58),0, "law.go:23",#[ed_ 6,ed_ 4,ec_ 7,ep_ 0,ep_ 1,ep_ 2,ep_ 3,ep_ 4,{ on:=5,ground:=Go.Ground.textOnly Go.Departure.lateStores },ep_ 6,ep_ 7],none⟩
def oA9_6_9:Oper:=⟨some 18,Op.assign (Operand.tmp 59),4, "law.go:23",#[ed_ 5,ec_ 8,ep_ 0,ep_ 1,ep_ 2,ep_ 3,ep_ 4,ep_ 5,ep_ 6,ep_ 7,ep_ 8],none⟩
def OA9_6:Array Oper:=List.toArray (oA9_6_0::oA9_6_1::oA9_6_2::oA9_6_3::oA9_6_4::oA9_6_5::oA9_6_6::oA9_6_7::oA9_6_8::oA9_6_9::[])
theorem gA9_6_0:OA9_6[0]? = some oA9_6_0:=rfl
theorem gA9_6_1:OA9_6[1]? = some oA9_6_1:=rfl
theorem gA9_6_2:OA9_6[2]? = some oA9_6_2:=rfl
theorem gA9_6_3:OA9_6[3]? = some oA9_6_3:=rfl
theorem gA9_6_4:OA9_6[4]? = some oA9_6_4:=rfl
theorem gA9_6_5:OA9_6[5]? = some oA9_6_5:=rfl
theorem gA9_6_6:OA9_6[6]? = some oA9_6_6:=rfl
theorem gA9_6_7:OA9_6[7]? = some oA9_6_7:=rfl
theorem gA9_6_8:OA9_6[8]? = some oA9_6_8:=rfl
theorem gA9_6_9:OA9_6[9]? = some oA9_6_9:=rfl
def cA9_13:Code:=Code.region 6 OA9_6 false
def oA9_7_0:Oper:=⟨some 61,Op.call { callee:=Callee.value (Operand.func 17),args:=#[Operand.const (Value.string { data:=#[60] }),Operand.const (Value.int IntKind.i64 1),Operand.const (Value.int IntKind.i64 2)],argTypes:=#[9,2,2] },36, "law.go:24",#[],none⟩
def oA9_7_1:Oper:=⟨some 60,Op.move (Operand.tmp 61),36, "law.go:24",#[ed_ 0],none⟩
def oA9_7_2:Oper:=⟨some 62,Op.extract (Operand.tmp 60) 0,4, "law.go:24",#[ed_ 1],none⟩
def oA9_7_3:Oper:=⟨some 63,Op.extract (Operand.tmp 60) 1,4, "law.go:24",#[ed_ 1,{ on:=4,ground:=Go.Ground.gcOnly Go.Departure.lateStores }],none⟩
def oA9_7_4:Oper:=⟨some 19,Op.assign (Operand.tmp 62),4, "law.go:24",#[ed_ 2,ec_ 0,ep_ 0,ep_ 1,ep_ 2,{ on:=3,ground:=Go.Ground.textOnly Go.Departure.lateStores }],none⟩
def oA9_7_5:Oper:=⟨some 20,Op.assign (Operand.tmp 63),4, "law.go:24",#[ed_ 3,ec_ 4,ep_ 0,ep_ 1,ep_ 2,ep_ 3,ep_ 4],none⟩
def OA9_7:Array Oper:=List.toArray (oA9_7_0::oA9_7_1::oA9_7_2::oA9_7_3::oA9_7_4::oA9_7_5::[])
theorem gA9_7_0:OA9_7[0]? = some oA9_7_0:=rfl
theorem gA9_7_1:OA9_7[1]? = some oA9_7_1:=rfl
theorem gA9_7_2:OA9_7[2]? = some oA9_7_2:=rfl
theorem gA9_7_3:OA9_7[3]? = some oA9_7_3:=rfl
theorem gA9_7_4:OA9_7[4]? = some oA9_7_4:=rfl
theorem gA9_7_5:OA9_7[5]? = some oA9_7_5:=rfl
def cA9_15:Code:=Code.region 7 OA9_7 false
def oA9_8_0:Oper:=⟨some 64,Op.move (Operand.tmp 1),2, "law.go:25",#[],none⟩
def oA9_8_1:Oper:=⟨some 65,Op.binOp Go.BinOp.eql 2 (Operand.tmp 64) (Operand.const (Value.int IntKind.i64 (-3))) 2,4, "law.go:25",#[ed_ 0],none⟩
def oA9_8_2:Oper:=⟨some 66,Op.move (Operand.tmp 65),4, "law.go:25",#[ed_ 1],none⟩
def oA9_8_3:Oper:=⟨some 67,Op.move (Operand.tmp 3),4, "law.go:25",#[eg_ 2],some (2,true)⟩
def oA9_8_4:Oper:=⟨some 68,Op.pick (Operand.tmp 66) (Operand.tmp 67) (Operand.const (Value.bool false)),4, "law.go:25",#[ed_ 2,ed_ 3],none⟩
def oA9_8_5:Oper:=⟨some 69,Op.move (Operand.tmp 68),4, "law.go:25",#[ed_ 4,ec_ 2],none⟩
def oA9_8_6:Oper:=⟨some 70,Op.move (Operand.tmp 4),2, "law.go:25",#[eg_ 5],some (5,true)⟩
def oA9_8_7:Oper:=⟨some 71,Op.binOp Go.BinOp.eql 2 (Operand.tmp 70) (Operand.const (Value.int IntKind.i64 1)) 2,4, "law.go:25",#[ed_ 6,eg_ 5],some (5,true)⟩
def oA9_8_8:Oper:=⟨some 72,Op.pick (Operand.tmp 69) (Operand.tmp 71) (Operand.const (Value.bool false)),4, "law.go:25",#[ed_ 5,ed_ 7],none⟩
def oA9_8_9:Oper:=⟨some 73,Op.move (Operand.tmp 72),4, "law.go:25",#[ed_ 8,ec_ 5],none⟩
def oA9_8_10:Oper:=⟨some 74,Op.move (Operand.tmp 6),4, "law.go:25",#[eg_ 9],some (9,true)⟩
def oA9_8_11:Oper:=⟨some 75,Op.pick (Operand.tmp 73) (Operand.tmp 74) (Operand.const (Value.bool false)),4, "law.go:25",#[ed_ 9,ed_ 10],none⟩
def oA9_8_12:Oper:=⟨some 76,Op.move (Operand.tmp 75),4, "law.go:25",#[ed_ 11,ec_ 9],none⟩
def oA9_8_13:Oper:=⟨some 77,Op.move (Operand.tmp 7),2, "law.go:25",#[eg_ 12],some (12,true)⟩
def oA9_8_14:Oper:=⟨some 78,Op.binOp Go.BinOp.eql 2 (Operand.tmp 77) (Operand.const (Value.int IntKind.i64 (-1))) 2,4, "law.go:25",#[ed_ 13,eg_ 12],some (12,true)⟩
def oA9_8_15:Oper:=⟨some 79,Op.pick (Operand.tmp 76) (Operand.tmp 78) (Operand.const (Value.bool false)),4, "law.go:25",#[ed_ 12,ed_ 14],none⟩
def oA9_8_16:Oper:=⟨some 80,Op.move (Operand.tmp 79),4, "law.go:25",#[ed_ 15,ec_ 12],none⟩
def oA9_8_17:Oper:=⟨some 81,Op.move (Operand.tmp 9),4, "law.go:25",#[eg_ 16],some (16,true)⟩
def oA9_8_18:Oper:=⟨some 82,Op.pick (Operand.tmp 80) (Operand.tmp 81) (Operand.const (Value.bool false)),4, "law.go:25",#[ed_ 16,ed_ 17],none⟩
def oA9_8_19:Oper:=⟨some 83,Op.move (Operand.tmp 82),4, "law.go:25",#[ed_ 18,ec_ 16],none⟩
def oA9_8_20:Oper:=⟨some 84,Op.move (Operand.tmp 12),4, "law.go:25",#[eg_ 19],some (19,true)⟩
def oA9_8_21:Oper:=⟨some 85,Op.unOp Go.UnOp.not 4 (Operand.tmp 84),4, "law.go:25",#[ed_ 20,eg_ 19],some (19,true)⟩
def oA9_8_22:Oper:=⟨some 86,Op.pick (Operand.tmp 83) (Operand.tmp 85) (Operand.const (Value.bool false)),4, "law.go:25",#[ed_ 19,ed_ 21],none⟩
def oA9_8_23:Oper:=⟨some 87,Op.move (Operand.tmp 86),4, "law.go:25",#[ed_ 22,ec_ 19],none⟩
def oA9_8_24:Oper:=⟨some 88,Op.load 24 (Operand.tmp 11),24, "law.go:25",#[eg_ 23],some (23,true)⟩
def oA9_8_25:Oper:=⟨some 89,Op.call { callee:=Callee.value (Operand.func 20),args:=#[Operand.const (Value.string { data:=#[97] })],argTypes:=#[9] },24, "law.go:25",#[ec_ 23,eg_ 23],some (23,true)⟩
def oA9_8_26:Oper:=⟨some 90,Op.call { callee:=Callee.value (Operand.func 16),args:=#[Operand.const (Value.int IntKind.i64 0)],argTypes:=#[2] },24, "law.go:25",#[ec_ 25,eg_ 23],some (23,true)⟩
def oA9_8_27:Oper:=⟨some 91,Op.buildSlice 22 2 #[(0,Operand.tmp 89),(1,Operand.tmp 90)],22, "law.go:25",#[ed_ 25,ed_ 26,eg_ 23],some (23,true)⟩
def oA9_8_28:Oper:=⟨some 92,Op.call { callee:=Callee.value (Operand.func 15),args:=#[Operand.const (Value.string { data:=#[47] }),Operand.tmp 91],argTypes:=#[9,22] },24, "law.go:25",#[ed_ 27,ec_ 26,eg_ 23],some (23,true)⟩
def oA9_8_29:Oper:=⟨some 93,Op.call { callee:=Callee.value (Operand.func 25),args:=#[Operand.const (Value.string { data:=#[101,118,97,108,117,97,98,108,101] }),Operand.tmp 92],argTypes:=#[9,24] },24, "law.go:25",#[ed_ 28,ec_ 28,eg_ 23],some (23,true)⟩
def oA9_8_30:Oper:=⟨some 94,Op.call { callee:=Callee.value (Operand.func 13),args:=#[Operand.tmp 88,Operand.tmp 93],argTypes:=#[24,24] },4, "law.go:25",#[ed_ 24,ed_ 29,ec_ 29,eg_ 23],some (23,true)⟩
def oA9_8_31:Oper:=⟨some 95,Op.pick (Operand.tmp 87) (Operand.tmp 94) (Operand.const (Value.bool false)),4, "law.go:25",#[ed_ 23,ed_ 30],none⟩
def oA9_8_32:Oper:=⟨some 96,Op.move (Operand.tmp 95),4, "law.go:25",#[ed_ 31,ec_ 30],none⟩
def oA9_8_33:Oper:=⟨some 97,Op.move (Operand.tmp 15),4, "law.go:25",#[eg_ 32],some (32,true)⟩
def oA9_8_34:Oper:=⟨some 98,Op.unOp Go.UnOp.not 4 (Operand.tmp 97),4, "law.go:25",#[ed_ 33,eg_ 32],some (32,true)⟩
def oA9_8_35:Oper:=⟨some 99,Op.pick (Operand.tmp 96) (Operand.tmp 98) (Operand.const (Value.bool false)),4, "law.go:25",#[ed_ 32,ed_ 34],none⟩
def oA9_8_36:Oper:=⟨some 100,Op.move (Operand.tmp 99),4, "law.go:25",#[ed_ 35,ec_ 32],none⟩
def oA9_8_37:Oper:=⟨some 101,Op.load 24 (Operand.tmp 14),24, "law.go:25",#[eg_ 36],some (36,true)⟩
def oA9_8_38:Oper:=⟨some 102,Op.call { callee:=Callee.value (Operand.func 20),args:=#[Operand.const (Value.string { data:=#[105,110,116,95,111,118,101,114,102,108,111,119] })],argTypes:=#[9] },24, "law.go:25",#[ec_ 36,eg_ 36],some (36,true)⟩
def oA9_8_39:Oper:=⟨some 103,Op.buildSlice 22 1 #[(0,Operand.tmp 102)],22, "law.go:25",#[ed_ 38,eg_ 36],some (36,true)⟩
def oA9_8_40:Oper:=⟨some 104,Op.call { callee:=Callee.value (Operand.func 22),args:=#[Operand.const (Value.string { data:=#[101,118,97,108,117,97,116,105,111,110,95,101,114,114,111,114] }),Operand.tmp 103],argTypes:=#[9,22] },24, "law.go:25",#[ed_ 39,ec_ 38,eg_ 36],some (36,true)⟩
def oA9_8_41:Oper:=⟨some 105,Op.call { callee:=Callee.value (Operand.func 13),args:=#[Operand.tmp 101,Operand.tmp 104],argTypes:=#[24,24] },4, "law.go:25",#[ed_ 37,ed_ 40,ec_ 40,eg_ 36],some (36,true)⟩
def oA9_8_42:Oper:=⟨some 106,Op.pick (Operand.tmp 100) (Operand.tmp 105) (Operand.const (Value.bool false)),4, "law.go:25",#[ed_ 36,ed_ 41],none⟩
def oA9_8_43:Oper:=⟨some 107,Op.move (Operand.tmp 106),4, "law.go:25",#[ed_ 42,ec_ 41],none⟩
def oA9_8_44:Oper:=⟨some 108,Op.move (Operand.tmp 16),2, "law.go:25",#[eg_ 43],some (43,true)⟩
def oA9_8_45:Oper:=⟨some 109,Op.binOp Go.BinOp.eql 2 (Operand.tmp 108) (Operand.const (Value.int IntKind.i64 (-1))) 2,4, "law.go:25",#[ed_ 44,eg_ 43],some (43,true)⟩
def oA9_8_46:Oper:=⟨some 110,Op.pick (Operand.tmp 107) (Operand.tmp 109) (Operand.const (Value.bool false)),4, "law.go:25",#[ed_ 43,ed_ 45],none⟩
def oA9_8_47:Oper:=⟨some 111,Op.move (Operand.tmp 110),4, "law.go:25",#[ed_ 46,ec_ 43],none⟩
def oA9_8_48:Oper:=⟨some 112,Op.move (Operand.tmp 18),4, "law.go:25",#[eg_ 47],some (47,true)⟩
def oA9_8_49:Oper:=⟨some 113,Op.pick (Operand.tmp 111) (Operand.tmp 112) (Operand.const (Value.bool false)),4, "law.go:25",#[ed_ 47,ed_ 48],none⟩
def oA9_8_50:Oper:=⟨some 114,Op.move (Operand.tmp 113),4, "law.go:25",#[ed_ 49,ec_ 47],none⟩
def oA9_8_51:Oper:=⟨some 115,Op.move (Operand.tmp 19),4, "law.go:25",#[eg_ 50],some (50,true)⟩
def oA9_8_52:Oper:=⟨some 116,Op.pick (Operand.tmp 114) (Operand.tmp 115) (Operand.const (Value.bool false)),4, "law.go:25",#[ed_ 50,ed_ 51],none⟩
def oA9_8_53:Oper:=⟨some 117,Op.move (Operand.tmp 116),4, "law.go:25",#[ed_ 52,ec_ 50],none⟩
def oA9_8_54:Oper:=⟨some 118,Op.move (Operand.tmp 20),4, "law.go:25",#[eg_ 53],some (53,true)⟩
def oA9_8_55:Oper:=⟨some 119,Op.pick (Operand.tmp 117) (Operand.tmp 118) (Operand.const (Value.bool false)),4, "law.go:25",#[ed_ 53,ed_ 54],none⟩
def oA9_8_56:Oper:=⟨some 120,Op.move (Operand.tmp 119),4, "law.go:25",#[ed_ 55,ec_ 53],none⟩
def oA9_8_57:Oper:=⟨some 121,Op.call { callee:=Callee.value (Operand.func 20),args:=#[Operand.const (Value.string { data:=#[120] })],argTypes:=#[9] },24, "law.go:25",#[ec_ 56,eg_ 56],some (56,true)⟩
def oA9_8_58:Oper:=⟨some 122,Op.call { callee:=Callee.value (Operand.func 21),args:=#[Operand.tmp 121],argTypes:=#[24] },24, "law.go:25",#[ed_ 57,ec_ 57,eg_ 56],some (56,true)⟩
def oA9_8_59:Oper:=⟨some 123,Op.call { callee:=Callee.value (Operand.func 20),args:=#[Operand.const (Value.string { data:=#[120] })],argTypes:=#[9] },24, "law.go:25",#[ec_ 58,eg_ 56],some (56,true)⟩
def oA9_8_60:Oper:=⟨some 124,Op.call { callee:=Callee.value (Operand.func 23),args:=#[Operand.tmp 123],argTypes:=#[24] },24, "law.go:25",#[ed_ 59,ec_ 59,eg_ 56],some (56,true)⟩
def oA9_8_61:Oper:=⟨some 125,Op.call { callee:=Callee.value (Operand.func 13),args:=#[Operand.tmp 122,Operand.tmp 124],argTypes:=#[24,24] },4, "law.go:25",#[ed_ 58,ed_ 60,ec_ 60,eg_ 56],some (56,true)⟩
def oA9_8_62:Oper:=⟨some 126,Op.pick (Operand.tmp 120) (Operand.tmp 125) (Operand.const (Value.bool false)),4, "law.go:25",#[ed_ 56,ed_ 61],none⟩
def oA9_8_63:Oper:={ dst:=some 0,op:=Op.assign (Operand.tmp 126),type:=4,pos := "law.go:25",after:=([ed_ 62,ec_ 61,ep_ 0,ep_ 1,ep_ 2,ep_ 3,ep_ 4,ep_ 5,ep_ 6,ep_ 7,ep_ 8,ep_ 9,ep_ 10,ep_ 11,ep_ 12,ep_ 13,ep_ 14,ep_ 15,ep_ 16,ep_ 17,ep_ 18,ep_ 19,ep_ 20,ep_ 21,ep_ 22,ep_ 23,ep_ 24,ep_ 25,ep_ 26,ep_ 27,ep_ 28,ep_ 29].append [ep_ 30,ep_ 31,ep_ 32,ep_ 33,ep_ 34,ep_ 35,ep_ 36,ep_ 37,ep_ 38,ep_ 39,ep_ 40,ep_ 41,ep_ 42,ep_ 43,ep_ 44,ep_ 45,ep_ 46,ep_ 47,ep_ 48,ep_ 49,ep_ 50,ep_ 51,ep_ 52,ep_ 53,ep_ 54,ep_ 55,ep_ 56,ep_ 57,ep_ 58,ep_ 59,ep_ 60,ep_ 61,ep_ 62]).toArray,guard:=none }
def OA9_8:Array Oper:=List.toArray (oA9_8_0::oA9_8_1::oA9_8_2::oA9_8_3::oA9_8_4::oA9_8_5::oA9_8_6::oA9_8_7::oA9_8_8::oA9_8_9::oA9_8_10::oA9_8_11::oA9_8_12::oA9_8_13::oA9_8_14::oA9_8_15::oA9_8_16::oA9_8_17::oA9_8_18::oA9_8_19::oA9_8_20::oA9_8_21::oA9_8_22::oA9_8_23::oA9_8_24::oA9_8_25::oA9_8_26::oA9_8_27::oA9_8_28::oA9_8_29::oA9_8_30::oA9_8_31::oA9_8_32::oA9_8_33::oA9_8_34::oA9_8_35::oA9_8_36::oA9_8_37::oA9_8_38::oA9_8_39::oA9_8_40::oA9_8_41::oA9_8_42::oA9_8_43::oA9_8_44::oA9_8_45::oA9_8_46::oA9_8_47::oA9_8_48::oA9_8_49::oA9_8_50::oA9_8_51::oA9_8_52::oA9_8_53::oA9_8_54::oA9_8_55::oA9_8_56::oA9_8_57::oA9_8_58::oA9_8_59::oA9_8_60::oA9_8_61::oA9_8_62::oA9_8_63::[])
theorem gA9_8_0:OA9_8[0]? = some oA9_8_0:=rfl
theorem gA9_8_1:OA9_8[1]? = some oA9_8_1:=rfl
theorem gA9_8_2:OA9_8[2]? = some oA9_8_2:=rfl
theorem gA9_8_3:OA9_8[3]? = some oA9_8_3:=rfl
theorem gA9_8_4:OA9_8[4]? = some oA9_8_4:=rfl
theorem gA9_8_5:OA9_8[5]? = some oA9_8_5:=rfl
theorem gA9_8_6:OA9_8[6]? = some oA9_8_6:=rfl
theorem gA9_8_7:OA9_8[7]? = some oA9_8_7:=rfl
theorem gA9_8_8:OA9_8[8]? = some oA9_8_8:=rfl
theorem gA9_8_9:OA9_8[9]? = some oA9_8_9:=rfl
theorem gA9_8_10:OA9_8[10]? = some oA9_8_10:=rfl
theorem gA9_8_11:OA9_8[11]? = some oA9_8_11:=rfl
theorem gA9_8_12:OA9_8[12]? = some oA9_8_12:=rfl
theorem gA9_8_13:OA9_8[13]? = some oA9_8_13:=rfl
theorem gA9_8_14:OA9_8[14]? = some oA9_8_14:=rfl
theorem gA9_8_15:OA9_8[15]? = some oA9_8_15:=rfl
theorem gA9_8_16:OA9_8[16]? = some oA9_8_16:=rfl
theorem gA9_8_17:OA9_8[17]? = some oA9_8_17:=rfl
theorem gA9_8_18:OA9_8[18]? = some oA9_8_18:=rfl
theorem gA9_8_19:OA9_8[19]? = some oA9_8_19:=rfl
theorem gA9_8_20:OA9_8[20]? = some oA9_8_20:=rfl
theorem gA9_8_21:OA9_8[21]? = some oA9_8_21:=rfl
theorem gA9_8_22:OA9_8[22]? = some oA9_8_22:=rfl
theorem gA9_8_23:OA9_8[23]? = some oA9_8_23:=rfl
theorem gA9_8_24:OA9_8[24]? = some oA9_8_24:=rfl
theorem gA9_8_25:OA9_8[25]? = some oA9_8_25:=rfl
theorem gA9_8_26:OA9_8[26]? = some oA9_8_26:=rfl
theorem gA9_8_27:OA9_8[27]? = some oA9_8_27:=rfl
theorem gA9_8_28:OA9_8[28]? = some oA9_8_28:=rfl
theorem gA9_8_29:OA9_8[29]? = some oA9_8_29:=rfl
theorem gA9_8_30:OA9_8[30]? = some oA9_8_30:=rfl
theorem gA9_8_31:OA9_8[31]? = some oA9_8_31:=rfl
theorem gA9_8_32:OA9_8[32]? = some oA9_8_32:=rfl
theorem gA9_8_33:OA9_8[33]? = some oA9_8_33:=rfl
theorem gA9_8_34:OA9_8[34]? = some oA9_8_34:=rfl
theorem gA9_8_35:OA9_8[35]? = some oA9_8_35:=rfl
theorem gA9_8_36:OA9_8[36]? = some oA9_8_36:=rfl
theorem gA9_8_37:OA9_8[37]? = some oA9_8_37:=rfl
theorem gA9_8_38:OA9_8[38]? = some oA9_8_38:=rfl
theorem gA9_8_39:OA9_8[39]? = some oA9_8_39:=rfl
theorem gA9_8_40:OA9_8[40]? = some oA9_8_40:=rfl
theorem gA9_8_41:OA9_8[41]? = some oA9_8_41:=rfl
theorem gA9_8_42:OA9_8[42]? = some oA9_8_42:=rfl
theorem gA9_8_43:OA9_8[43]? = some oA9_8_43:=rfl
theorem gA9_8_44:OA9_8[44]? = some oA9_8_44:=rfl
theorem gA9_8_45:OA9_8[45]? = some oA9_8_45:=rfl
theorem gA9_8_46:OA9_8[46]? = some oA9_8_46:=rfl
theorem gA9_8_47:OA9_8[47]? = some oA9_8_47:=rfl
theorem gA9_8_48:OA9_8[48]? = some oA9_8_48:=rfl
theorem gA9_8_49:OA9_8[49]? = some oA9_8_49:=rfl
theorem gA9_8_50:OA9_8[50]? = some oA9_8_50:=rfl
theorem gA9_8_51:OA9_8[51]? = some oA9_8_51:=rfl
theorem gA9_8_52:OA9_8[52]? = some oA9_8_52:=rfl
theorem gA9_8_53:OA9_8[53]? = some oA9_8_53:=rfl
theorem gA9_8_54:OA9_8[54]? = some oA9_8_54:=rfl
theorem gA9_8_55:OA9_8[55]? = some oA9_8_55:=rfl
theorem gA9_8_56:OA9_8[56]? = some oA9_8_56:=rfl
theorem gA9_8_57:OA9_8[57]? = some oA9_8_57:=rfl
theorem gA9_8_58:OA9_8[58]? = some oA9_8_58:=rfl
theorem gA9_8_59:OA9_8[59]? = some oA9_8_59:=rfl
theorem gA9_8_60:OA9_8[60]? = some oA9_8_60:=rfl
theorem gA9_8_61:OA9_8[61]? = some oA9_8_61:=rfl
theorem gA9_8_62:OA9_8[62]? = some oA9_8_62:=rfl
theorem gA9_8_63:OA9_8[63]? = some oA9_8_63:=rfl
theorem nsA9_8:Region.noSelect OA9_8=true:=by kernel_rfl
def cA9_17:Code:=Code.region 8 OA9_8 true
def cA9_16:Code:=Code.seq cA9_17 Code.ret
def cA9_14:Code:=Code.seq cA9_15 cA9_16
def cA9_12:Code:=Code.seq cA9_13 cA9_14
def cA9_10:Code:=Code.seq cA9_11 cA9_12
def cA9_8:Code:=Code.seq cA9_9 cA9_10
def cA9_6:Code:=Code.seq cA9_7 cA9_8
def cA9_4:Code:=Code.seq cA9_5 cA9_6
def cA9_2:Code:=Code.seq cA9_3 cA9_4
def cA9_0:Code:=Code.seq cA9_1 cA9_2
theorem enA9_10:Enters Try.prog 10:=enters_of Try.func10 (by kernel_rfl) rfl
theorem enA9_13:Enters Try.prog 13:=enters_of Try.func13 (by kernel_rfl) rfl
theorem enA9_21:Enters Try.prog 21:=enters_of Try.func21 (by kernel_rfl) rfl
theorem enA9_23:Enters Try.prog 23:=enters_of Try.func23 (by kernel_rfl) rfl
theorem bodyA9:Try.f9.body=some cA9_0:=by kernel_rfl
set_option maxRecDepth 100000 in
set_option maxHeartbeats 4000000 in
theorem alive_w {W:World} {f0:Act} {w0:World} (R:FrS 127 f0)  (K1:Keep (fun g=>g < W.heap.size) W w0)  : cA9_0.wp Try.prog (bodyPost Try.prog Try.f9 (fun e w'=>e=.returned (.bool true)∧Keep (fun g=>g < W.heap.size) W w')) f0 w0:=by
 refine wp_seq (x:=cA9_1) (y:=cA9_2) ?_
 change (Code.region 0 OA9_0 false).wp _ _ _ _
 refine reg_in (l:=[0]) rfl ?_
 have F:=fe_ R;clear R
 have Y:(execOp f0.eval oA9_0_0).run Try.prog w0=.ok (.value (.bool false)) w0:=by unfold oA9_0_0;go_simp
 refine sw_ gA9_0_0 Y F fun a1 F h0=>?_;clear Y
 refine st_end ?_
 have R:=F.r;clear F
 change (cA9_2).wp _ _ _ _
 refine wp_seq (x:=cA9_3) (y:=cA9_4) ?_
 change (Code.region 1 OA9_1 false).wp _ _ _ _
 refine reg_in (l:=[0,1,2,3,4,5,6,7,8,9]) rfl ?_
 have F:=fe_ R;clear R
 have Y:(execOp a1.eval oA9_1_0).run Try.prog w0=.ok (.enter 14 #[.string (⟨#[47,47]⟩),.int .i64 (-7),.int .i64 2]) w0:=by unfold oA9_1_0;go_simp
 refine st_call gA9_1_0 rfl (wanted_free rfl) Y ((opT_any (W:=w0) (nm:=[47,47]) (i:=(-7)) (k:=2) (by decide) (by decide) (by decide)).mono ?_);clear Y
 rintro e9 w2 ⟨ao1,co1,rfl,hx,kk⟩
 replace K1:=keep_onto K1 kk
 clear kk
 have HXo1:=Lib.hid hx.at_;clear hx
 have KXo1:=Keep.refl (fun g=>g < w2.heap.size) w2
 refine ⟨_,rfl,fun a3 e=>?_⟩
 have h22:=pt_ F e;replace F:=pu_ F e;clear e
 refine st_call gA9_1_1 rfl (wanted_free rfl) (yc1_ enA9_10 rfl h22) ((eval_num (HXo1.out.on KXo1) al_1).mono ?_)
 rintro e9 w4 ⟨ar1,cr1,rfl,hx,kk⟩
 replace K1:=keep_onto K1 kk
 replace KXo1:=keep_onto KXo1 kk
 clear kk
 have HXr1:=Lib.hid hx.at_;clear hx
 have KXr1:=Keep.refl (fun g=>g < w4.heap.size) w4
 refine ⟨_,rfl,fun a5 e=>?_⟩
 clear h22;have h23:=pt_ F e;replace F:=pu_ F e;clear e
 refine sv_ gA9_1_2 (ym_ rfl h23) fun a6 e=>?_
 clear h23;have h21:=pt_ F e;replace F:=pu_ F e;clear e
 refine sv_ gA9_1_3 (ye30_ rfl h21) fun a7 e=>?_
 have h24:=pt_ F e;replace F:=pu_ F e;replace h21:=so_ e h21;clear e
 refine sv_ gA9_1_4 (ye31_ rfl h21) fun a8 e=>?_
 have h25:=pt_ F e;replace F:=pu_ F e;replace h21:=so_ e h21;replace h24:=so_ e h24;clear e
 refine sv_ gA9_1_5 (ye32_ rfl h21) fun a9 e=>?_
 clear h21;have h26:=pt_ F e;replace F:=pu_ F e;replace h24:=so_ e h24;replace h25:=so_ e h25;clear e
 have Y:(execOp a9.eval oA9_1_6).run Try.prog w4=.ok (.value (.pointer (some ⟨w4.heap.size,0,none⟩))) (w4.alloc (.cells #[.int .i64 0,.string (⟨#[]⟩),.int .i64 0,.slice none 0 0] 24)):=by unfold oA9_1_6;go_simp
 have B10:=Blk.new w4 24 #[.int .i64 0,.string (⟨#[]⟩),.int .i64 0,.slice none 0 0]
 obtain ⟨w11,hw⟩:∃ x,x=w4.alloc (.cells #[.int .i64 0,.string (⟨#[]⟩),.int .i64 0,.slice none 0 0] 24):=⟨_,rfl⟩;rw [← hw] at Y B10
 obtain ⟨b10,hb⟩:∃ x,x=w4.heap.size:=⟨_,rfl⟩;rw [← hb] at Y B10
 have LK1_b10:=lk_ hb K1;replace K1:=ka_ hw K1;have LKXo1_b10:=lk_ hb KXo1;replace KXo1:=ka_ hw KXo1;have LKXr1_b10:=lk_ hb KXr1;replace KXr1:=ka_ hw KXr1;clear hw hb
 refine sv_ gA9_1_6 Y fun a12 e=>?_;clear Y
 have h2:=pt_ F e;replace F:=pu_ F e;replace h24:=so_ e h24;replace h25:=so_ e h25;replace h26:=so_ e h26;clear e
 refine sv_ gA9_1_7 (ya_ rfl h24) fun a13 e=>?_
 clear h24;have h1:=pt_ F e;replace F:=pu_ F e;replace h2:=so_ e h2;replace h25:=so_ e h25;replace h26:=so_ e h26;clear e
 obtain ⟨w14,Y,hk,hB⟩:=ys4_ (o:=oA9_1_8) rfl h2 h25 B10
 replace K1:=kx_ hk K1 (Nat.not_lt.2 LK1_b10);replace KXo1:=kx_ hk KXo1 (Nat.not_lt.2 LKXo1_b10);replace KXr1:=kx_ hk KXr1 (Nat.not_lt.2 LKXr1_b10);clear B10;have B10:=hB;clear hB hk
 refine st_skip gA9_1_8 rfl (wanted_free rfl) Y ?_;clear Y
 refine sv_ gA9_1_9 (ya_ rfl h26) fun a15 e=>?_
 clear h2 h25 h26;have h3:=pt_ F e;replace F:=pu_ F e;replace h1:=so_ e h1;clear e
 refine st_end ?_
 replace h0:=F.of h0;have R:=F.r;clear F
 change (cA9_4).wp _ _ _ _
 refine wp_seq (x:=cA9_5) (y:=cA9_6) ?_
 change (Code.region 2 OA9_2 false).wp _ _ _ _
 refine reg_in (l:=[0,1,2,3,4,5,6,7,8,9]) rfl ?_
 have F:=fe_ R;clear R
 have Y:(execOp a15.eval oA9_2_0).run Try.prog w14=.ok (.enter 14 #[.string (⟨#[109,111,100]⟩),.int .i64 (-7),.int .i64 2]) w14:=by unfold oA9_2_0;go_simp
 refine st_call gA9_2_0 rfl (wanted_free rfl) Y ((opT_any (W:=w14) (nm:=[109,111,100]) (i:=(-7)) (k:=2) (by decide) (by decide) (by decide)).mono ?_);clear Y
 rintro e9 w16 ⟨ao2,co2,rfl,hx,kk⟩
 replace K1:=keep_onto K1 kk
 replace KXo1:=keep_onto KXo1 kk
 replace KXr1:=keep_onto KXr1 kk
 replace B10:=blk_on B10 kk
 clear kk
 have HXo2:=Lib.hid hx.at_;clear hx
 have KXo2:=Keep.refl (fun g=>g < w16.heap.size) w16
 refine ⟨_,rfl,fun a17 e=>?_⟩
 have h28:=pt_ F e;replace F:=pu_ F e;clear e
 refine st_call gA9_2_1 rfl (wanted_free rfl) (yc1_ enA9_10 rfl h28) ((eval_num (HXo2.out.on KXo2) al_2).mono ?_)
 rintro e9 w18 ⟨ar2,cr2,rfl,hx,kk⟩
 replace K1:=keep_onto K1 kk
 replace KXo1:=keep_onto KXo1 kk
 replace KXr1:=keep_onto KXr1 kk
 replace KXo2:=keep_onto KXo2 kk
 replace B10:=blk_on B10 kk
 clear kk
 have HXr2:=Lib.hid hx.at_;clear hx
 have KXr2:=Keep.refl (fun g=>g < w18.heap.size) w18
 refine ⟨_,rfl,fun a19 e=>?_⟩
 clear h28;have h29:=pt_ F e;replace F:=pu_ F e;clear e
 refine sv_ gA9_2_2 (ym_ rfl h29) fun a20 e=>?_
 clear h29;have h27:=pt_ F e;replace F:=pu_ F e;clear e
 refine sv_ gA9_2_3 (ye30_ rfl h27) fun a21 e=>?_
 have h30:=pt_ F e;replace F:=pu_ F e;replace h27:=so_ e h27;clear e
 refine sv_ gA9_2_4 (ye31_ rfl h27) fun a22 e=>?_
 have h31:=pt_ F e;replace F:=pu_ F e;replace h27:=so_ e h27;replace h30:=so_ e h30;clear e
 refine sv_ gA9_2_5 (ye32_ rfl h27) fun a23 e=>?_
 clear h27;have h32:=pt_ F e;replace F:=pu_ F e;replace h30:=so_ e h30;replace h31:=so_ e h31;clear e
 have Y:(execOp a23.eval oA9_2_6).run Try.prog w18=.ok (.value (.pointer (some ⟨w18.heap.size,0,none⟩))) (w18.alloc (.cells #[.int .i64 0,.string (⟨#[]⟩),.int .i64 0,.slice none 0 0] 24)):=by unfold oA9_2_6;go_simp
 have B24:=Blk.new w18 24 #[.int .i64 0,.string (⟨#[]⟩),.int .i64 0,.slice none 0 0]
 obtain ⟨w25,hw⟩:∃ x,x=w18.alloc (.cells #[.int .i64 0,.string (⟨#[]⟩),.int .i64 0,.slice none 0 0] 24):=⟨_,rfl⟩;rw [← hw] at Y B24
 obtain ⟨b24,hb⟩:∃ x,x=w18.heap.size:=⟨_,rfl⟩;rw [← hb] at Y B24
 have Nb10_b24:=nb_ hb B10;replace B10:=ba_ hw B10;have LK1_b24:=lk_ hb K1;replace K1:=ka_ hw K1;have LKXo1_b24:=lk_ hb KXo1;replace KXo1:=ka_ hw KXo1;have LKXr1_b24:=lk_ hb KXr1;replace KXr1:=ka_ hw KXr1;have LKXo2_b24:=lk_ hb KXo2;replace KXo2:=ka_ hw KXo2;have LKXr2_b24:=lk_ hb KXr2;replace KXr2:=ka_ hw KXr2;clear hw hb
 refine sv_ gA9_2_6 Y fun a26 e=>?_;clear Y
 have h5:=pt_ F e;replace F:=pu_ F e;replace h30:=so_ e h30;replace h31:=so_ e h31;replace h32:=so_ e h32;clear e
 refine sv_ gA9_2_7 (ya_ rfl h30) fun a27 e=>?_
 clear h30;have h4:=pt_ F e;replace F:=pu_ F e;replace h5:=so_ e h5;replace h31:=so_ e h31;replace h32:=so_ e h32;clear e
 obtain ⟨w28,Y,hk,hB⟩:=ys4_ (o:=oA9_2_8) rfl h5 h31 B24
 replace K1:=kx_ hk K1 (Nat.not_lt.2 LK1_b24);replace KXo1:=kx_ hk KXo1 (Nat.not_lt.2 LKXo1_b24);replace KXr1:=kx_ hk KXr1 (Nat.not_lt.2 LKXr1_b24);replace KXo2:=kx_ hk KXo2 (Nat.not_lt.2 LKXo2_b24);replace KXr2:=kx_ hk KXr2 (Nat.not_lt.2 LKXr2_b24);replace B10:=bx_ hk B10 Nb10_b24;clear B24;have B24:=hB;clear hB hk
 refine st_skip gA9_2_8 rfl (wanted_free rfl) Y ?_;clear Y
 refine sv_ gA9_2_9 (ya_ rfl h32) fun a29 e=>?_
 clear h5 h31 h32;have h6:=pt_ F e;replace F:=pu_ F e;replace h4:=so_ e h4;clear e
 refine st_end ?_
 replace h0:=F.of h0;replace h1:=F.of h1;replace h3:=F.of h3;have R:=F.r;clear F
 change (cA9_6).wp _ _ _ _
 refine wp_seq (x:=cA9_7) (y:=cA9_8) ?_
 change (Code.region 3 OA9_3 false).wp _ _ _ _
 refine reg_in (l:=[0,1,2,3,4,5,6,7,8,9]) rfl ?_
 have F:=fe_ R;clear R
 have Y:(execOp a29.eval oA9_3_0).run Try.prog w28=.ok (.enter 14 #[.string (⟨#[114,101,109]⟩),.int .i64 (-7),.int .i64 2]) w28:=by unfold oA9_3_0;go_simp
 refine st_call gA9_3_0 rfl (wanted_free rfl) Y ((opT_any (W:=w28) (nm:=[114,101,109]) (i:=(-7)) (k:=2) (by decide) (by decide) (by decide)).mono ?_);clear Y
 rintro e9 w30 ⟨ao3,co3,rfl,hx,kk⟩
 replace K1:=keep_onto K1 kk
 replace KXo1:=keep_onto KXo1 kk
 replace KXr1:=keep_onto KXr1 kk
 replace KXo2:=keep_onto KXo2 kk
 replace KXr2:=keep_onto KXr2 kk
 replace B10:=blk_on B10 kk
 replace B24:=blk_on B24 kk
 clear kk
 have HXo3:=Lib.hid hx.at_;clear hx
 have KXo3:=Keep.refl (fun g=>g < w30.heap.size) w30
 refine ⟨_,rfl,fun a31 e=>?_⟩
 have h34:=pt_ F e;replace F:=pu_ F e;clear e
 refine st_call gA9_3_1 rfl (wanted_free rfl) (yc1_ enA9_10 rfl h34) ((eval_num (HXo3.out.on KXo3) al_3).mono ?_)
 rintro e9 w32 ⟨ar3,cr3,rfl,hx,kk⟩
 replace K1:=keep_onto K1 kk
 replace KXo1:=keep_onto KXo1 kk
 replace KXr1:=keep_onto KXr1 kk
 replace KXo2:=keep_onto KXo2 kk
 replace KXr2:=keep_onto KXr2 kk
 replace KXo3:=keep_onto KXo3 kk
 replace B10:=blk_on B10 kk
 replace B24:=blk_on B24 kk
 clear kk
 have HXr3:=Lib.hid hx.at_;clear hx
 have KXr3:=Keep.refl (fun g=>g < w32.heap.size) w32
 refine ⟨_,rfl,fun a33 e=>?_⟩
 clear h34;have h35:=pt_ F e;replace F:=pu_ F e;clear e
 refine sv_ gA9_3_2 (ym_ rfl h35) fun a34 e=>?_
 clear h35;have h33:=pt_ F e;replace F:=pu_ F e;clear e
 refine sv_ gA9_3_3 (ye30_ rfl h33) fun a35 e=>?_
 have h36:=pt_ F e;replace F:=pu_ F e;replace h33:=so_ e h33;clear e
 refine sv_ gA9_3_4 (ye31_ rfl h33) fun a36 e=>?_
 have h37:=pt_ F e;replace F:=pu_ F e;replace h33:=so_ e h33;replace h36:=so_ e h36;clear e
 refine sv_ gA9_3_5 (ye32_ rfl h33) fun a37 e=>?_
 clear h33;have h38:=pt_ F e;replace F:=pu_ F e;replace h36:=so_ e h36;replace h37:=so_ e h37;clear e
 have Y:(execOp a37.eval oA9_3_6).run Try.prog w32=.ok (.value (.pointer (some ⟨w32.heap.size,0,none⟩))) (w32.alloc (.cells #[.int .i64 0,.string (⟨#[]⟩),.int .i64 0,.slice none 0 0] 24)):=by unfold oA9_3_6;go_simp
 have B38:=Blk.new w32 24 #[.int .i64 0,.string (⟨#[]⟩),.int .i64 0,.slice none 0 0]
 obtain ⟨w39,hw⟩:∃ x,x=w32.alloc (.cells #[.int .i64 0,.string (⟨#[]⟩),.int .i64 0,.slice none 0 0] 24):=⟨_,rfl⟩;rw [← hw] at Y B38
 obtain ⟨b38,hb⟩:∃ x,x=w32.heap.size:=⟨_,rfl⟩;rw [← hb] at Y B38
 have Nb10_b38:=nb_ hb B10;replace B10:=ba_ hw B10;have Nb24_b38:=nb_ hb B24;replace B24:=ba_ hw B24;have LK1_b38:=lk_ hb K1;replace K1:=ka_ hw K1;have LKXo1_b38:=lk_ hb KXo1;replace KXo1:=ka_ hw KXo1;have LKXr1_b38:=lk_ hb KXr1;replace KXr1:=ka_ hw KXr1;have LKXo2_b38:=lk_ hb KXo2;replace KXo2:=ka_ hw KXo2;have LKXr2_b38:=lk_ hb KXr2;replace KXr2:=ka_ hw KXr2;have LKXo3_b38:=lk_ hb KXo3;replace KXo3:=ka_ hw KXo3;have LKXr3_b38:=lk_ hb KXr3;replace KXr3:=ka_ hw KXr3;clear hw hb
 refine sv_ gA9_3_6 Y fun a40 e=>?_;clear Y
 have h8:=pt_ F e;replace F:=pu_ F e;replace h36:=so_ e h36;replace h37:=so_ e h37;replace h38:=so_ e h38;clear e
 refine sv_ gA9_3_7 (ya_ rfl h36) fun a41 e=>?_
 clear h36;have h7:=pt_ F e;replace F:=pu_ F e;replace h8:=so_ e h8;replace h37:=so_ e h37;replace h38:=so_ e h38;clear e
 obtain ⟨w42,Y,hk,hB⟩:=ys4_ (o:=oA9_3_8) rfl h8 h37 B38
 replace K1:=kx_ hk K1 (Nat.not_lt.2 LK1_b38);replace KXo1:=kx_ hk KXo1 (Nat.not_lt.2 LKXo1_b38);replace KXr1:=kx_ hk KXr1 (Nat.not_lt.2 LKXr1_b38);replace KXo2:=kx_ hk KXo2 (Nat.not_lt.2 LKXo2_b38);replace KXr2:=kx_ hk KXr2 (Nat.not_lt.2 LKXr2_b38);replace KXo3:=kx_ hk KXo3 (Nat.not_lt.2 LKXo3_b38);replace KXr3:=kx_ hk KXr3 (Nat.not_lt.2 LKXr3_b38);replace B10:=bx_ hk B10 Nb10_b38;replace B24:=bx_ hk B24 Nb24_b38;clear B38;have B38:=hB;clear hB hk
 refine st_skip gA9_3_8 rfl (wanted_free rfl) Y ?_;clear Y
 refine sv_ gA9_3_9 (ya_ rfl h38) fun a43 e=>?_
 clear h8 h37 h38;have h9:=pt_ F e;replace F:=pu_ F e;replace h7:=so_ e h7;clear e
 refine st_end ?_
 replace h0:=F.of h0;replace h1:=F.of h1;replace h3:=F.of h3;replace h4:=F.of h4;replace h6:=F.of h6;have R:=F.r;clear F
 change (cA9_8).wp _ _ _ _
 refine wp_seq (x:=cA9_9) (y:=cA9_10) ?_
 change (Code.region 4 OA9_4 false).wp _ _ _ _
 refine reg_in (l:=[0,1,2,3,4,5,6,7,8,9,10,11,12]) rfl ?_
 have F:=fe_ R;clear R
 have Y:(execOp a43.eval oA9_4_0).run Try.prog w42=.ok (.enter 20 #[.string (⟨#[97]⟩)]) w42:=by unfold oA9_4_0;go_simp
 refine st_call gA9_4_0 rfl (wanted_free rfl) Y ((refA_is _ [97]).mono ?_);clear Y
 rintro e9 w44 ⟨rfl,kk⟩
 replace K1:=keep_onto K1 kk
 replace KXo1:=keep_onto KXo1 kk
 replace KXr1:=keep_onto KXr1 kk
 replace KXo2:=keep_onto KXo2 kk
 replace KXr2:=keep_onto KXr2 kk
 replace KXo3:=keep_onto KXo3 kk
 replace KXr3:=keep_onto KXr3 kk
 replace B10:=blk_on B10 kk
 replace B24:=blk_on B24 kk
 replace B38:=blk_on B38 kk
 clear kk
 refine ⟨_,rfl,fun a45 e=>?_⟩
 have h40:=pt_ F e;replace F:=pu_ F e;clear e
 have Y:(execOp a45.eval oA9_4_1).run Try.prog w44=.ok (.enter 24 #[.int .i64 1]) w44:=by unfold oA9_4_1;go_simp
 refine st_call gA9_4_1 rfl (wanted_free rfl) Y ((refV_any _ 1).mono ?_);clear Y
 rintro e9 w46 ⟨rfl,kk⟩
 replace K1:=keep_onto K1 kk
 replace KXo1:=keep_onto KXo1 kk
 replace KXr1:=keep_onto KXr1 kk
 replace KXo2:=keep_onto KXo2 kk
 replace KXr2:=keep_onto KXr2 kk
 replace KXo3:=keep_onto KXo3 kk
 replace KXr3:=keep_onto KXr3 kk
 replace B10:=blk_on B10 kk
 replace B24:=blk_on B24 kk
 replace B38:=blk_on B38 kk
 clear kk
 refine ⟨_,rfl,fun a47 e=>?_⟩
 have h41:=pt_ F e;replace F:=pu_ F e;replace h40:=so_ e h40;clear e
 have Y:(execOp a47.eval oA9_4_2).run Try.prog w46=.ok (.value (.slice (some ⟨w46.heap.size,0,none⟩) 2 2)) (w46.alloc (.cells #[.int .i64 ((Tm.node 3 [97] 0 []).k),.string (str (Tm.node 3 [97] 0 []).nm),.int .i64 ((Tm.node 3 [97] 0 []).i),.slice none (Tm.node 3 [97] 0 []).args.length 0,.int .i64 ((Tm.node 1 [] 1 []).k),.string (str (Tm.node 1 [] 1 []).nm),.int .i64 ((Tm.node 1 [] 1 []).i),.slice none (Tm.node 1 [] 1 []).args.length 0] 24)):=by unfold oA9_4_2;go_simp
 have B48:=Blk.new w46 24 #[.int .i64 ((Tm.node 3 [97] 0 []).k),.string (str (Tm.node 3 [97] 0 []).nm),.int .i64 ((Tm.node 3 [97] 0 []).i),.slice none (Tm.node 3 [97] 0 []).args.length 0,.int .i64 ((Tm.node 1 [] 1 []).k),.string (str (Tm.node 1 [] 1 []).nm),.int .i64 ((Tm.node 1 [] 1 []).i),.slice none (Tm.node 1 [] 1 []).args.length 0]
 obtain ⟨w49,hw⟩:∃ x,x=w46.alloc (.cells #[.int .i64 ((Tm.node 3 [97] 0 []).k),.string (str (Tm.node 3 [97] 0 []).nm),.int .i64 ((Tm.node 3 [97] 0 []).i),.slice none (Tm.node 3 [97] 0 []).args.length 0,.int .i64 ((Tm.node 1 [] 1 []).k),.string (str (Tm.node 1 [] 1 []).nm),.int .i64 ((Tm.node 1 [] 1 []).i),.slice none (Tm.node 1 [] 1 []).args.length 0] 24):=⟨_,rfl⟩;rw [← hw] at Y B48
 obtain ⟨b48,hb⟩:∃ x,x=w46.heap.size:=⟨_,rfl⟩;rw [← hb] at Y B48
 have Nb10_b48:=nb_ hb B10;replace B10:=ba_ hw B10;have Nb24_b48:=nb_ hb B24;replace B24:=ba_ hw B24;have Nb38_b48:=nb_ hb B38;replace B38:=ba_ hw B38;have LK1_b48:=lk_ hb K1;replace K1:=ka_ hw K1;have LKXo1_b48:=lk_ hb KXo1;replace KXo1:=ka_ hw KXo1;have LKXr1_b48:=lk_ hb KXr1;replace KXr1:=ka_ hw KXr1;have LKXo2_b48:=lk_ hb KXo2;replace KXo2:=ka_ hw KXo2;have LKXr2_b48:=lk_ hb KXr2;replace KXr2:=ka_ hw KXr2;have LKXo3_b48:=lk_ hb KXo3;replace KXo3:=ka_ hw KXo3;have LKXr3_b48:=lk_ hb KXr3;replace KXr3:=ka_ hw KXr3;clear hw hb
 refine sw_ gA9_4_2 Y F fun a50 F h42=>?_;clear Y h40 h41
 have Y:(execOp a50.eval oA9_4_3).run Try.prog w49=.ok (.enter 15 #[.string (⟨#[43]⟩),.slice (some ⟨b48,0,none⟩) 2 2]) w49:=by unfold oA9_4_3;go_simp
 refine st_call gA9_4_3 rfl (wanted_free rfl) Y ((refC_any _ [43] [Tm.node 3 [97] 0 [],Tm.node 1 [] 1 []] (some ⟨b48,0,none⟩) 2).mono ?_);clear Y
 rintro e9 w51 ⟨rfl,kk⟩
 replace K1:=keep_onto K1 kk
 replace KXo1:=keep_onto KXo1 kk
 replace KXr1:=keep_onto KXr1 kk
 replace KXo2:=keep_onto KXo2 kk
 replace KXr2:=keep_onto KXr2 kk
 replace KXo3:=keep_onto KXo3 kk
 replace KXr3:=keep_onto KXr3 kk
 replace B10:=blk_on B10 kk
 replace B24:=blk_on B24 kk
 replace B38:=blk_on B38 kk
 replace B48:=blk_on B48 kk
 clear kk
 refine ⟨_,rfl,fun a52 e=>?_⟩
 clear h42;have h43:=pt_ F e;replace F:=pu_ F e;clear e
 have hT:TmAt w51.heap.size w51 plT (some ⟨b48,0,none⟩) 2:=comp_at (ps:=[(.node 3 [97] 0 [],none,0),(.node 1 [] 1 [],none,0)]) B48 (fun p hp=>by rcases List.mem_cons.1 hp with rfl | hp;exact tm_leaf (by decide) (by decide) (by decide);rw [List.mem_singleton.1 hp];exact tm_leaf (by decide) (by decide) (by decide)) (by decide) (Nat.le_of_ble_eq_true rfl)
 have hca:=eval_bal hT al_4;clear hT
 refine st_call gA9_4_4 rfl (wanted_free rfl) (yc1_ enA9_10 rfl h43) ((hca).mono ?_)
 rintro e9 w53 ⟨ar4,cr4,rfl,hx,kk⟩
 replace K1:=keep_onto K1 kk
 replace KXo1:=keep_onto KXo1 kk
 replace KXr1:=keep_onto KXr1 kk
 replace KXo2:=keep_onto KXo2 kk
 replace KXr2:=keep_onto KXr2 kk
 replace KXo3:=keep_onto KXo3 kk
 replace KXr3:=keep_onto KXr3 kk
 replace B10:=blk_on B10 kk
 replace B24:=blk_on B24 kk
 replace B38:=blk_on B38 kk
 replace B48:=blk_on B48 kk
 clear kk
 have HXr4:=Lib.hid hx.at_;clear hx hca
 have KXr4:=Keep.refl (fun g=>g < w53.heap.size) w53
 refine ⟨_,rfl,fun a54 e=>?_⟩
 clear h43;have h44:=pt_ F e;replace F:=pu_ F e;clear e
 refine sv_ gA9_4_5 (ym_ rfl h44) fun a55 e=>?_
 clear h44;have h39:=pt_ F e;replace F:=pu_ F e;clear e
 refine sv_ gA9_4_6 (ye30_ rfl h39) fun a56 e=>?_
 have h45:=pt_ F e;replace F:=pu_ F e;replace h39:=so_ e h39;clear e
 refine sv_ gA9_4_7 (ye31_ rfl h39) fun a57 e=>?_
 have h46:=pt_ F e;replace F:=pu_ F e;replace h39:=so_ e h39;replace h45:=so_ e h45;clear e
 refine sv_ gA9_4_8 (ye32_ rfl h39) fun a58 e=>?_
 clear h39;have h47:=pt_ F e;replace F:=pu_ F e;replace h45:=so_ e h45;replace h46:=so_ e h46;clear e
 have Y:(execOp a58.eval oA9_4_9).run Try.prog w53=.ok (.value (.pointer (some ⟨w53.heap.size,0,none⟩))) (w53.alloc (.cells #[.int .i64 0,.string (⟨#[]⟩),.int .i64 0,.slice none 0 0] 24)):=by unfold oA9_4_9;go_simp
 have B59:=Blk.new w53 24 #[.int .i64 0,.string (⟨#[]⟩),.int .i64 0,.slice none 0 0]
 obtain ⟨w60,hw⟩:∃ x,x=w53.alloc (.cells #[.int .i64 0,.string (⟨#[]⟩),.int .i64 0,.slice none 0 0] 24):=⟨_,rfl⟩;rw [← hw] at Y B59
 obtain ⟨b59,hb⟩:∃ x,x=w53.heap.size:=⟨_,rfl⟩;rw [← hb] at Y B59
 have Nb10_b59:=nb_ hb B10;replace B10:=ba_ hw B10;have Nb24_b59:=nb_ hb B24;replace B24:=ba_ hw B24;have Nb38_b59:=nb_ hb B38;replace B38:=ba_ hw B38;have Nb48_b59:=nb_ hb B48;replace B48:=ba_ hw B48;have LK1_b59:=lk_ hb K1;replace K1:=ka_ hw K1;have LKXo1_b59:=lk_ hb KXo1;replace KXo1:=ka_ hw KXo1;have LKXr1_b59:=lk_ hb KXr1;replace KXr1:=ka_ hw KXr1;have LKXo2_b59:=lk_ hb KXo2;replace KXo2:=ka_ hw KXo2;have LKXr2_b59:=lk_ hb KXr2;replace KXr2:=ka_ hw KXr2;have LKXo3_b59:=lk_ hb KXo3;replace KXo3:=ka_ hw KXo3;have LKXr3_b59:=lk_ hb KXr3;replace KXr3:=ka_ hw KXr3;have LKXr4_b59:=lk_ hb KXr4;replace KXr4:=ka_ hw KXr4;clear hw hb
 refine sv_ gA9_4_9 Y fun a61 e=>?_;clear Y
 have h11:=pt_ F e;replace F:=pu_ F e;replace h45:=so_ e h45;replace h46:=so_ e h46;replace h47:=so_ e h47;clear e
 refine sv_ gA9_4_10 (ya_ rfl h45) fun a62 e=>?_
 clear h45;replace F:=pu_ F e;replace h11:=so_ e h11;replace h46:=so_ e h46;replace h47:=so_ e h47;clear e
 obtain ⟨w63,Y,hk,hB⟩:=ys4_ (o:=oA9_4_11) rfl h11 h46 B59
 replace K1:=kx_ hk K1 (Nat.not_lt.2 LK1_b59);replace KXo1:=kx_ hk KXo1 (Nat.not_lt.2 LKXo1_b59);replace KXr1:=kx_ hk KXr1 (Nat.not_lt.2 LKXr1_b59);replace KXo2:=kx_ hk KXo2 (Nat.not_lt.2 LKXo2_b59);replace KXr2:=kx_ hk KXr2 (Nat.not_lt.2 LKXr2_b59);replace KXo3:=kx_ hk KXo3 (Nat.not_lt.2 LKXo3_b59);replace KXr3:=kx_ hk KXr3 (Nat.not_lt.2 LKXr3_b59);replace KXr4:=kx_ hk KXr4 (Nat.not_lt.2 LKXr4_b59);replace B10:=bx_ hk B10 Nb10_b59;replace B24:=bx_ hk B24 Nb24_b59;replace B38:=bx_ hk B38 Nb38_b59;replace B48:=bx_ hk B48 Nb48_b59;clear B59;have B59:=hB;clear hB hk
 refine st_skip gA9_4_11 rfl (wanted_free rfl) Y ?_;clear Y
 refine sv_ gA9_4_12 (ya_ rfl h47) fun a64 e=>?_
 clear h46 h47;have h12:=pt_ F e;replace F:=pu_ F e;replace h11:=so_ e h11;clear e
 refine st_end ?_
 replace h0:=F.of h0;replace h1:=F.of h1;replace h3:=F.of h3;replace h4:=F.of h4;replace h6:=F.of h6;replace h7:=F.of h7;replace h9:=F.of h9;have R:=F.r;clear F
 change (cA9_10).wp _ _ _ _
 refine wp_seq (x:=cA9_11) (y:=cA9_12) ?_
 change (Code.region 5 OA9_5 false).wp _ _ _ _
 refine reg_in (l:=[0,1,2,3,4,5,6,7,8,9]) rfl ?_
 have F:=fe_ R;clear R
 have Y:(execOp a64.eval oA9_5_0).run Try.prog w63=.ok (.enter 14 #[.string (⟨#[60,60]⟩),.int .i64 1,.int .i64 63]) w63:=by unfold oA9_5_0;go_simp
 refine st_call gA9_5_0 rfl (wanted_free rfl) Y ((opT_any (W:=w63) (nm:=[60,60]) (i:=1) (k:=63) (by decide) (by decide) (by decide)).mono ?_);clear Y
 rintro e9 w65 ⟨ao5,co5,rfl,hx,kk⟩
 replace K1:=keep_onto K1 kk
 replace KXo1:=keep_onto KXo1 kk
 replace KXr1:=keep_onto KXr1 kk
 replace KXo2:=keep_onto KXo2 kk
 replace KXr2:=keep_onto KXr2 kk
 replace KXo3:=keep_onto KXo3 kk
 replace KXr3:=keep_onto KXr3 kk
 replace KXr4:=keep_onto KXr4 kk
 replace B10:=blk_on B10 kk
 replace B24:=blk_on B24 kk
 replace B38:=blk_on B38 kk
 replace B48:=blk_on B48 kk
 replace B59:=blk_on B59 kk
 clear kk
 have HXo5:=Lib.hid hx.at_;clear hx
 have KXo5:=Keep.refl (fun g=>g < w65.heap.size) w65
 refine ⟨_,rfl,fun a66 e=>?_⟩
 have h49:=pt_ F e;replace F:=pu_ F e;clear e
 refine st_call gA9_5_1 rfl (wanted_free rfl) (yc1_ enA9_10 rfl h49) ((eval_bal (HXo5.out.on KXo5) al_5).mono ?_)
 rintro e9 w67 ⟨ar5,cr5,rfl,hx,kk⟩
 replace K1:=keep_onto K1 kk
 replace KXo1:=keep_onto KXo1 kk
 replace KXr1:=keep_onto KXr1 kk
 replace KXo2:=keep_onto KXo2 kk
 replace KXr2:=keep_onto KXr2 kk
 replace KXo3:=keep_onto KXo3 kk
 replace KXr3:=keep_onto KXr3 kk
 replace KXr4:=keep_onto KXr4 kk
 replace KXo5:=keep_onto KXo5 kk
 replace B10:=blk_on B10 kk
 replace B24:=blk_on B24 kk
 replace B38:=blk_on B38 kk
 replace B48:=blk_on B48 kk
 replace B59:=blk_on B59 kk
 clear kk
 have HXr5:=Lib.hid hx.at_;clear hx
 have KXr5:=Keep.refl (fun g=>g < w67.heap.size) w67
 refine ⟨_,rfl,fun a68 e=>?_⟩
 clear h49;have h50:=pt_ F e;replace F:=pu_ F e;clear e
 refine sv_ gA9_5_2 (ym_ rfl h50) fun a69 e=>?_
 clear h50;have h48:=pt_ F e;replace F:=pu_ F e;clear e
 refine sv_ gA9_5_3 (ye30_ rfl h48) fun a70 e=>?_
 have h51:=pt_ F e;replace F:=pu_ F e;replace h48:=so_ e h48;clear e
 refine sv_ gA9_5_4 (ye31_ rfl h48) fun a71 e=>?_
 have h52:=pt_ F e;replace F:=pu_ F e;replace h48:=so_ e h48;replace h51:=so_ e h51;clear e
 refine sv_ gA9_5_5 (ye32_ rfl h48) fun a72 e=>?_
 clear h48;have h53:=pt_ F e;replace F:=pu_ F e;replace h51:=so_ e h51;replace h52:=so_ e h52;clear e
 have Y:(execOp a72.eval oA9_5_6).run Try.prog w67=.ok (.value (.pointer (some ⟨w67.heap.size,0,none⟩))) (w67.alloc (.cells #[.int .i64 0,.string (⟨#[]⟩),.int .i64 0,.slice none 0 0] 24)):=by unfold oA9_5_6;go_simp
 have B73:=Blk.new w67 24 #[.int .i64 0,.string (⟨#[]⟩),.int .i64 0,.slice none 0 0]
 obtain ⟨w74,hw⟩:∃ x,x=w67.alloc (.cells #[.int .i64 0,.string (⟨#[]⟩),.int .i64 0,.slice none 0 0] 24):=⟨_,rfl⟩;rw [← hw] at Y B73
 obtain ⟨b73,hb⟩:∃ x,x=w67.heap.size:=⟨_,rfl⟩;rw [← hb] at Y B73
 have Nb10_b73:=nb_ hb B10;replace B10:=ba_ hw B10;have Nb24_b73:=nb_ hb B24;replace B24:=ba_ hw B24;have Nb38_b73:=nb_ hb B38;replace B38:=ba_ hw B38;have Nb48_b73:=nb_ hb B48;replace B48:=ba_ hw B48;have Nb59_b73:=nb_ hb B59;replace B59:=ba_ hw B59;have LK1_b73:=lk_ hb K1;replace K1:=ka_ hw K1;have LKXo1_b73:=lk_ hb KXo1;replace KXo1:=ka_ hw KXo1;have LKXr1_b73:=lk_ hb KXr1;replace KXr1:=ka_ hw KXr1;have LKXo2_b73:=lk_ hb KXo2;replace KXo2:=ka_ hw KXo2;have LKXr2_b73:=lk_ hb KXr2;replace KXr2:=ka_ hw KXr2;have LKXo3_b73:=lk_ hb KXo3;replace KXo3:=ka_ hw KXo3;have LKXr3_b73:=lk_ hb KXr3;replace KXr3:=ka_ hw KXr3;have LKXr4_b73:=lk_ hb KXr4;replace KXr4:=ka_ hw KXr4;have LKXo5_b73:=lk_ hb KXo5;replace KXo5:=ka_ hw KXo5;have LKXr5_b73:=lk_ hb KXr5;replace KXr5:=ka_ hw KXr5;clear hw hb
 refine sv_ gA9_5_6 Y fun a75 e=>?_;clear Y
 have h14:=pt_ F e;replace F:=pu_ F e;replace h51:=so_ e h51;replace h52:=so_ e h52;replace h53:=so_ e h53;clear e
 refine sv_ gA9_5_7 (ya_ rfl h51) fun a76 e=>?_
 clear h51;replace F:=pu_ F e;replace h14:=so_ e h14;replace h52:=so_ e h52;replace h53:=so_ e h53;clear e
 obtain ⟨w77,Y,hk,hB⟩:=ys4_ (o:=oA9_5_8) rfl h14 h52 B73
 replace K1:=kx_ hk K1 (Nat.not_lt.2 LK1_b73);replace KXo1:=kx_ hk KXo1 (Nat.not_lt.2 LKXo1_b73);replace KXr1:=kx_ hk KXr1 (Nat.not_lt.2 LKXr1_b73);replace KXo2:=kx_ hk KXo2 (Nat.not_lt.2 LKXo2_b73);replace KXr2:=kx_ hk KXr2 (Nat.not_lt.2 LKXr2_b73);replace KXo3:=kx_ hk KXo3 (Nat.not_lt.2 LKXo3_b73);replace KXr3:=kx_ hk KXr3 (Nat.not_lt.2 LKXr3_b73);replace KXr4:=kx_ hk KXr4 (Nat.not_lt.2 LKXr4_b73);replace KXo5:=kx_ hk KXo5 (Nat.not_lt.2 LKXo5_b73);replace KXr5:=kx_ hk KXr5 (Nat.not_lt.2 LKXr5_b73);replace B10:=bx_ hk B10 Nb10_b73;replace B24:=bx_ hk B24 Nb24_b73;replace B38:=bx_ hk B38 Nb38_b73;replace B48:=bx_ hk B48 Nb48_b73;replace B59:=bx_ hk B59 Nb59_b73;clear B73;have B73:=hB;clear hB hk
 refine st_skip gA9_5_8 rfl (wanted_free rfl) Y ?_;clear Y
 refine sv_ gA9_5_9 (ya_ rfl h53) fun a78 e=>?_
 clear h52 h53;have h15:=pt_ F e;replace F:=pu_ F e;replace h14:=so_ e h14;clear e
 refine st_end ?_
 replace h0:=F.of h0;replace h1:=F.of h1;replace h3:=F.of h3;replace h4:=F.of h4;replace h6:=F.of h6;replace h7:=F.of h7;replace h9:=F.of h9;replace h11:=F.of h11;replace h12:=F.of h12;have R:=F.r;clear F
 change (cA9_12).wp _ _ _ _
 refine wp_seq (x:=cA9_13) (y:=cA9_14) ?_
 change (Code.region 6 OA9_6 false).wp _ _ _ _
 refine reg_in (l:=[0,1,2,3,4,5,6,7,8,9]) rfl ?_
 have F:=fe_ R;clear R
 have Y:(execOp a78.eval oA9_6_0).run Try.prog w77=.ok (.enter 14 #[.string (⟨#[62,62]⟩),.int .i64 (-1),.int .i64 100]) w77:=by unfold oA9_6_0;go_simp
 refine st_call gA9_6_0 rfl (wanted_free rfl) Y ((opT_any (W:=w77) (nm:=[62,62]) (i:=(-1)) (k:=100) (by decide) (by decide) (by decide)).mono ?_);clear Y
 rintro e9 w79 ⟨ao6,co6,rfl,hx,kk⟩
 replace K1:=keep_onto K1 kk
 replace KXo1:=keep_onto KXo1 kk
 replace KXr1:=keep_onto KXr1 kk
 replace KXo2:=keep_onto KXo2 kk
 replace KXr2:=keep_onto KXr2 kk
 replace KXo3:=keep_onto KXo3 kk
 replace KXr3:=keep_onto KXr3 kk
 replace KXr4:=keep_onto KXr4 kk
 replace KXo5:=keep_onto KXo5 kk
 replace KXr5:=keep_onto KXr5 kk
 replace B10:=blk_on B10 kk
 replace B24:=blk_on B24 kk
 replace B38:=blk_on B38 kk
 replace B48:=blk_on B48 kk
 replace B59:=blk_on B59 kk
 replace B73:=blk_on B73 kk
 clear kk
 have HXo6:=Lib.hid hx.at_;clear hx
 have KXo6:=Keep.refl (fun g=>g < w79.heap.size) w79
 refine ⟨_,rfl,fun a80 e=>?_⟩
 have h55:=pt_ F e;replace F:=pu_ F e;clear e
 refine st_call gA9_6_1 rfl (wanted_free rfl) (yc1_ enA9_10 rfl h55) ((eval_num (HXo6.out.on KXo6) al_6).mono ?_)
 rintro e9 w81 ⟨ar6,cr6,rfl,hx,kk⟩
 replace K1:=keep_onto K1 kk
 replace KXo1:=keep_onto KXo1 kk
 replace KXr1:=keep_onto KXr1 kk
 replace KXo2:=keep_onto KXo2 kk
 replace KXr2:=keep_onto KXr2 kk
 replace KXo3:=keep_onto KXo3 kk
 replace KXr3:=keep_onto KXr3 kk
 replace KXr4:=keep_onto KXr4 kk
 replace KXo5:=keep_onto KXo5 kk
 replace KXr5:=keep_onto KXr5 kk
 replace KXo6:=keep_onto KXo6 kk
 replace B10:=blk_on B10 kk
 replace B24:=blk_on B24 kk
 replace B38:=blk_on B38 kk
 replace B48:=blk_on B48 kk
 replace B59:=blk_on B59 kk
 replace B73:=blk_on B73 kk
 clear kk
 have HXr6:=Lib.hid hx.at_;clear hx
 have KXr6:=Keep.refl (fun g=>g < w81.heap.size) w81
 refine ⟨_,rfl,fun a82 e=>?_⟩
 clear h55;have h56:=pt_ F e;replace F:=pu_ F e;clear e
 refine sv_ gA9_6_2 (ym_ rfl h56) fun a83 e=>?_
 clear h56;have h54:=pt_ F e;replace F:=pu_ F e;clear e
 refine sv_ gA9_6_3 (ye30_ rfl h54) fun a84 e=>?_
 have h57:=pt_ F e;replace F:=pu_ F e;replace h54:=so_ e h54;clear e
 refine sv_ gA9_6_4 (ye31_ rfl h54) fun a85 e=>?_
 have h58:=pt_ F e;replace F:=pu_ F e;replace h54:=so_ e h54;replace h57:=so_ e h57;clear e
 refine sv_ gA9_6_5 (ye32_ rfl h54) fun a86 e=>?_
 clear h54;have h59:=pt_ F e;replace F:=pu_ F e;replace h57:=so_ e h57;replace h58:=so_ e h58;clear e
 have Y:(execOp a86.eval oA9_6_6).run Try.prog w81=.ok (.value (.pointer (some ⟨w81.heap.size,0,none⟩))) (w81.alloc (.cells #[.int .i64 0,.string (⟨#[]⟩),.int .i64 0,.slice none 0 0] 24)):=by unfold oA9_6_6;go_simp
 have B87:=Blk.new w81 24 #[.int .i64 0,.string (⟨#[]⟩),.int .i64 0,.slice none 0 0]
 obtain ⟨w88,hw⟩:∃ x,x=w81.alloc (.cells #[.int .i64 0,.string (⟨#[]⟩),.int .i64 0,.slice none 0 0] 24):=⟨_,rfl⟩;rw [← hw] at Y B87
 obtain ⟨b87,hb⟩:∃ x,x=w81.heap.size:=⟨_,rfl⟩;rw [← hb] at Y B87
 have Nb10_b87:=nb_ hb B10;replace B10:=ba_ hw B10;have Nb24_b87:=nb_ hb B24;replace B24:=ba_ hw B24;have Nb38_b87:=nb_ hb B38;replace B38:=ba_ hw B38;have Nb48_b87:=nb_ hb B48;replace B48:=ba_ hw B48;have Nb59_b87:=nb_ hb B59;replace B59:=ba_ hw B59;have Nb73_b87:=nb_ hb B73;replace B73:=ba_ hw B73;have LK1_b87:=lk_ hb K1;replace K1:=ka_ hw K1;have LKXo1_b87:=lk_ hb KXo1;replace KXo1:=ka_ hw KXo1;have LKXr1_b87:=lk_ hb KXr1;replace KXr1:=ka_ hw KXr1;have LKXo2_b87:=lk_ hb KXo2;replace KXo2:=ka_ hw KXo2;have LKXr2_b87:=lk_ hb KXr2;replace KXr2:=ka_ hw KXr2;have LKXo3_b87:=lk_ hb KXo3;replace KXo3:=ka_ hw KXo3;have LKXr3_b87:=lk_ hb KXr3;replace KXr3:=ka_ hw KXr3;have LKXr4_b87:=lk_ hb KXr4;replace KXr4:=ka_ hw KXr4;have LKXo5_b87:=lk_ hb KXo5;replace KXo5:=ka_ hw KXo5;have LKXr5_b87:=lk_ hb KXr5;replace KXr5:=ka_ hw KXr5;have LKXo6_b87:=lk_ hb KXo6;replace KXo6:=ka_ hw KXo6;have LKXr6_b87:=lk_ hb KXr6;replace KXr6:=ka_ hw KXr6;clear hw hb
 refine sv_ gA9_6_6 Y fun a89 e=>?_;clear Y
 have h17:=pt_ F e;replace F:=pu_ F e;replace h57:=so_ e h57;replace h58:=so_ e h58;replace h59:=so_ e h59;clear e
 refine sv_ gA9_6_7 (ya_ rfl h57) fun a90 e=>?_
 clear h57;have h16:=pt_ F e;replace F:=pu_ F e;replace h17:=so_ e h17;replace h58:=so_ e h58;replace h59:=so_ e h59;clear e
 obtain ⟨w91,Y,hk,hB⟩:=ys4_ (o:=oA9_6_8) rfl h17 h58 B87
 replace K1:=kx_ hk K1 (Nat.not_lt.2 LK1_b87);replace KXo1:=kx_ hk KXo1 (Nat.not_lt.2 LKXo1_b87);replace KXr1:=kx_ hk KXr1 (Nat.not_lt.2 LKXr1_b87);replace KXo2:=kx_ hk KXo2 (Nat.not_lt.2 LKXo2_b87);replace KXr2:=kx_ hk KXr2 (Nat.not_lt.2 LKXr2_b87);replace KXo3:=kx_ hk KXo3 (Nat.not_lt.2 LKXo3_b87);replace KXr3:=kx_ hk KXr3 (Nat.not_lt.2 LKXr3_b87);replace KXr4:=kx_ hk KXr4 (Nat.not_lt.2 LKXr4_b87);replace KXo5:=kx_ hk KXo5 (Nat.not_lt.2 LKXo5_b87);replace KXr5:=kx_ hk KXr5 (Nat.not_lt.2 LKXr5_b87);replace KXo6:=kx_ hk KXo6 (Nat.not_lt.2 LKXo6_b87);replace KXr6:=kx_ hk KXr6 (Nat.not_lt.2 LKXr6_b87);replace B10:=bx_ hk B10 Nb10_b87;replace B24:=bx_ hk B24 Nb24_b87;replace B38:=bx_ hk B38 Nb38_b87;replace B48:=bx_ hk B48 Nb48_b87;replace B59:=bx_ hk B59 Nb59_b87;replace B73:=bx_ hk B73 Nb73_b87;clear B87;have B87:=hB;clear hB hk
 refine st_skip gA9_6_8 rfl (wanted_free rfl) Y ?_;clear Y
 refine sv_ gA9_6_9 (ya_ rfl h59) fun a92 e=>?_
 clear h17 h58 h59;have h18:=pt_ F e;replace F:=pu_ F e;replace h16:=so_ e h16;clear e
 refine st_end ?_
 replace h0:=F.of h0;replace h1:=F.of h1;replace h3:=F.of h3;replace h4:=F.of h4;replace h6:=F.of h6;replace h7:=F.of h7;replace h9:=F.of h9;replace h11:=F.of h11;replace h12:=F.of h12;replace h14:=F.of h14;replace h15:=F.of h15;have R:=F.r;clear F
 change (cA9_14).wp _ _ _ _
 refine wp_seq (x:=cA9_15) (y:=cA9_16) ?_
 change (Code.region 7 OA9_7 false).wp _ _ _ _
 refine reg_in (l:=[0,1,2,3,4,5]) rfl ?_
 have F:=fe_ R;clear R
 have Y:(execOp a92.eval oA9_7_0).run Try.prog w91=.ok (.enter 17 #[.string (⟨#[60]⟩),.int .i64 1,.int .i64 2]) w91:=by unfold oA9_7_0;go_simp
 refine st_call gA9_7_0 rfl (wanted_free rfl) Y ((holds_is al_7).mono ?_);clear Y
 rintro e9 w93 ⟨rfl,kk⟩
 replace K1:=keep_onto K1 kk
 replace KXo1:=keep_onto KXo1 kk
 replace KXr1:=keep_onto KXr1 kk
 replace KXo2:=keep_onto KXo2 kk
 replace KXr2:=keep_onto KXr2 kk
 replace KXo3:=keep_onto KXo3 kk
 replace KXr3:=keep_onto KXr3 kk
 replace KXr4:=keep_onto KXr4 kk
 replace KXo5:=keep_onto KXo5 kk
 replace KXr5:=keep_onto KXr5 kk
 replace KXo6:=keep_onto KXo6 kk
 replace KXr6:=keep_onto KXr6 kk
 replace B10:=blk_on B10 kk
 replace B24:=blk_on B24 kk
 replace B38:=blk_on B38 kk
 replace B48:=blk_on B48 kk
 replace B59:=blk_on B59 kk
 replace B73:=blk_on B73 kk
 replace B87:=blk_on B87 kk
 clear kk
 refine ⟨_,rfl,fun a94 e=>?_⟩
 have h61:=pt_ F e;replace F:=pu_ F e;clear e
 refine sv_ gA9_7_1 (ym_ rfl h61) fun a95 e=>?_
 clear h61;have h60:=pt_ F e;replace F:=pu_ F e;clear e
 refine sv_ gA9_7_2 (ye20_ rfl h60) fun a96 e=>?_
 have h62:=pt_ F e;replace F:=pu_ F e;replace h60:=so_ e h60;clear e
 refine sv_ gA9_7_3 (ye21_ rfl h60) fun a97 e=>?_
 clear h60;have h63:=pt_ F e;replace F:=pu_ F e;replace h62:=so_ e h62;clear e
 refine sv_ gA9_7_4 (ya_ rfl h62) fun a98 e=>?_
 clear h62;have h19:=pt_ F e;replace F:=pu_ F e;replace h63:=so_ e h63;clear e
 refine sv_ gA9_7_5 (ya_ rfl h63) fun a99 e=>?_
 clear h63;have h20:=pt_ F e;replace F:=pu_ F e;replace h19:=so_ e h19;clear e
 refine st_end ?_
 replace h0:=F.of h0;replace h1:=F.of h1;replace h3:=F.of h3;replace h4:=F.of h4;replace h6:=F.of h6;replace h7:=F.of h7;replace h9:=F.of h9;replace h11:=F.of h11;replace h12:=F.of h12;replace h14:=F.of h14;replace h15:=F.of h15;replace h16:=F.of h16;replace h18:=F.of h18;have R:=F.r;clear F
 change (cA9_16).wp _ _ _ _
 refine wp_seq (x:=cA9_17) (y:=Code.ret) ?_
 change (Code.region 8 OA9_8 true).wp _ _ _ _
 have D102:=B10
 have D103:=B24
 have D104:=B38
 have D105:=B48
 have D106:=B59
 have D107:=B73
 have D108:=B87
 have K100:=(Keep.refl (fun g=>g < w93.heap.size) w93).drew
 have EK1:=K1
 have EKXo1:=KXo1
 have EKXr1:=KXr1
 have EKXo2:=KXo2
 have EKXr2:=KXr2
 have EKXo3:=KXo3
 have EKXr3:=KXr3
 have EKXr4:=KXr4
 have EKXo5:=KXo5
 have EKXr5:=KXr5
 have EKXo6:=KXo6
 have EKXr6:=KXr6
 refine dr_in (S:=(fun W=>Keep (fun g=>g < w93.heap.size) w93 W)) (n:=64) (l:=lb_ 64 0) (by kernel_rfl) K100 rfl (by kernel_rfl) ?_
 replace K1:=K1.drew
 replace KXo1:=KXo1.drew
 replace KXr1:=KXr1.drew
 replace KXo2:=KXo2.drew
 replace KXr2:=KXr2.drew
 replace KXo3:=KXo3.drew
 replace KXr3:=KXr3.drew
 replace KXr4:=KXr4.drew
 replace KXo5:=KXo5.drew
 replace KXr5:=KXr5.drew
 replace KXo6:=KXo6.drew
 replace KXr6:=KXr6.drew
 replace B10:=B10.drew
 replace B24:=B24.drew
 replace B38:=B38.drew
 replace B48:=B48.drew
 replace B59:=B59.drew
 replace B73:=B73.drew
 replace B87:=B87.drew
 generalize w93.drew=w101 at K100 K1 KXo1 KXr1 KXo2 KXr2 KXo3 KXr3 KXr4 KXo5 KXr5 KXo6 KXr6 B10 B24 B38 B48 B59 B73 B87 ⊢
 have F:=fe_ R;clear R
 refine dt_ (i:=0) (l':=(lb_ 64 1)) gA9_8_0 rfl nsA9_8 (wanted_free rfl) K100 (fun _ _=>(ym_ rfl (F.of h1))) fun a109 e=>?_
 have h64:=pt_ F e;replace F:=pu_ F e;clear e
 have Y:∀ W,Keep (fun g=>g < w93.heap.size) w93 W→(execOp a109.eval oA9_8_1).run Try.prog W=.ok (.value (.bool true)) W:=by intro W7 hS;unfold oA9_8_1;go_simp
 refine dt_ (i:=1) (l':=(lb_ 64 3)) gA9_8_1 rfl nsA9_8 (wanted_free rfl) K100 Y fun a110 e=>?_;clear Y
 clear h64;have h65:=pt_ F e;replace F:=pu_ F e;clear e
 refine dt_ (i:=2) (l':=(lb_ 64 7)) gA9_8_2 rfl nsA9_8 (wanted_free rfl) K100 (fun _ _=>(ym_ rfl h65)) fun a111 e=>?_
 clear h65;have h66:=pt_ F e;replace F:=pu_ F e;clear e
 refine dt_ (i:=3) (l':=(lb_ 64 15)) gA9_8_3 rfl nsA9_8 (wanted_is (j:=2) (d:=66) rfl rfl h66 rfl) K100 (fun _ _=>(ym_ rfl (F.of h3))) fun a112 e=>?_
 have h67:=pt_ F e;replace F:=pu_ F e;replace h66:=so_ e h66;clear e
 have Y:∀ W,Keep (fun g=>g < w93.heap.size) w93 W→(execOp a112.eval oA9_8_4).run Try.prog W=.ok (.value (.bool true)) W:=by intro W7 hS;unfold oA9_8_4;go_simp
 refine dt_ (i:=4) (l':=(lb_ 64 31)) gA9_8_4 rfl nsA9_8 (wanted_free rfl) K100 Y fun a113 e=>?_;clear Y
 clear h66 h67;have h68:=pt_ F e;replace F:=pu_ F e;clear e
 refine dt_ (i:=5) (l':=(lb_ 64 63)) gA9_8_5 rfl nsA9_8 (wanted_free rfl) K100 (fun _ _=>(ym_ rfl h68)) fun a114 e=>?_
 clear h68;have h69:=pt_ F e;replace F:=pu_ F e;clear e
 refine dt_ (i:=6) (l':=(lb_ 64 127)) gA9_8_6 rfl nsA9_8 (wanted_is (j:=5) (d:=69) rfl rfl h69 rfl) K100 (fun _ _=>(ym_ rfl (F.of h4))) fun a115 e=>?_
 have h70:=pt_ F e;replace F:=pu_ F e;replace h69:=so_ e h69;clear e
 have Y:∀ W,Keep (fun g=>g < w93.heap.size) w93 W→(execOp a115.eval oA9_8_7).run Try.prog W=.ok (.value (.bool true)) W:=by intro W7 hS;unfold oA9_8_7;go_simp
 refine dt_ (i:=7) (l':=(lb_ 64 255)) gA9_8_7 rfl nsA9_8 (wanted_is (j:=5) (d:=69) rfl rfl h69 rfl) K100 Y fun a116 e=>?_;clear Y
 clear h70;have h71:=pt_ F e;replace F:=pu_ F e;replace h69:=so_ e h69;clear e
 have Y:∀ W,Keep (fun g=>g < w93.heap.size) w93 W→(execOp a116.eval oA9_8_8).run Try.prog W=.ok (.value (.bool true)) W:=by intro W7 hS;unfold oA9_8_8;go_simp
 refine dt_ (i:=8) (l':=(lb_ 64 511)) gA9_8_8 rfl nsA9_8 (wanted_free rfl) K100 Y fun a117 e=>?_;clear Y
 clear h69 h71;have h72:=pt_ F e;replace F:=pu_ F e;clear e
 refine dt_ (i:=9) (l':=(lb_ 64 1023)) gA9_8_9 rfl nsA9_8 (wanted_free rfl) K100 (fun _ _=>(ym_ rfl h72)) fun a118 e=>?_
 clear h72;have h73:=pt_ F e;replace F:=pu_ F e;clear e
 refine dt_ (i:=10) (l':=(lb_ 64 2047)) gA9_8_10 rfl nsA9_8 (wanted_is (j:=9) (d:=73) rfl rfl h73 rfl) K100 (fun _ _=>(ym_ rfl (F.of h6))) fun a119 e=>?_
 have h74:=pt_ F e;replace F:=pu_ F e;replace h73:=so_ e h73;clear e
 have Y:∀ W,Keep (fun g=>g < w93.heap.size) w93 W→(execOp a119.eval oA9_8_11).run Try.prog W=.ok (.value (.bool true)) W:=by intro W7 hS;unfold oA9_8_11;go_simp
 refine dt_ (i:=11) (l':=(lb_ 64 4095)) gA9_8_11 rfl nsA9_8 (wanted_free rfl) K100 Y fun a120 e=>?_;clear Y
 clear h73 h74;have h75:=pt_ F e;replace F:=pu_ F e;clear e
 refine dt_ (i:=12) (l':=(lb_ 64 8191)) gA9_8_12 rfl nsA9_8 (wanted_free rfl) K100 (fun _ _=>(ym_ rfl h75)) fun a121 e=>?_
 clear h75;have h76:=pt_ F e;replace F:=pu_ F e;clear e
 refine dt_ (i:=13) (l':=(lb_ 64 16383)) gA9_8_13 rfl nsA9_8 (wanted_is (j:=12) (d:=76) rfl rfl h76 rfl) K100 (fun _ _=>(ym_ rfl (F.of h7))) fun a122 e=>?_
 have h77:=pt_ F e;replace F:=pu_ F e;replace h76:=so_ e h76;clear e
 have Y:∀ W,Keep (fun g=>g < w93.heap.size) w93 W→(execOp a122.eval oA9_8_14).run Try.prog W=.ok (.value (.bool true)) W:=by intro W7 hS;unfold oA9_8_14;go_simp
 refine dt_ (i:=14) (l':=(lb_ 64 32767)) gA9_8_14 rfl nsA9_8 (wanted_is (j:=12) (d:=76) rfl rfl h76 rfl) K100 Y fun a123 e=>?_;clear Y
 clear h77;have h78:=pt_ F e;replace F:=pu_ F e;replace h76:=so_ e h76;clear e
 have Y:∀ W,Keep (fun g=>g < w93.heap.size) w93 W→(execOp a123.eval oA9_8_15).run Try.prog W=.ok (.value (.bool true)) W:=by intro W7 hS;unfold oA9_8_15;go_simp
 refine dt_ (i:=15) (l':=(lb_ 64 65535)) gA9_8_15 rfl nsA9_8 (wanted_free rfl) K100 Y fun a124 e=>?_;clear Y
 clear h76 h78;have h79:=pt_ F e;replace F:=pu_ F e;clear e
 refine dt_ (i:=16) (l':=(lb_ 64 131071)) gA9_8_16 rfl nsA9_8 (wanted_free rfl) K100 (fun _ _=>(ym_ rfl h79)) fun a125 e=>?_
 clear h79;have h80:=pt_ F e;replace F:=pu_ F e;clear e
 refine dt_ (i:=17) (l':=(lb_ 64 262143)) gA9_8_17 rfl nsA9_8 (wanted_is (j:=16) (d:=80) rfl rfl h80 rfl) K100 (fun _ _=>(ym_ rfl (F.of h9))) fun a126 e=>?_
 have h81:=pt_ F e;replace F:=pu_ F e;replace h80:=so_ e h80;clear e
 have Y:∀ W,Keep (fun g=>g < w93.heap.size) w93 W→(execOp a126.eval oA9_8_18).run Try.prog W=.ok (.value (.bool true)) W:=by intro W7 hS;unfold oA9_8_18;go_simp
 refine dt_ (i:=18) (l':=(lb_ 64 524287)) gA9_8_18 rfl nsA9_8 (wanted_free rfl) K100 Y fun a127 e=>?_;clear Y
 clear h80 h81;have h82:=pt_ F e;replace F:=pu_ F e;clear e
 refine dt_ (i:=19) (l':=(lb_ 64 1048575)) gA9_8_19 rfl nsA9_8 (wanted_free rfl) K100 (fun _ _=>(ym_ rfl h82)) fun a128 e=>?_
 clear h82;have h83:=pt_ F e;replace F:=pu_ F e;clear e
 refine dt_ (i:=20) (l':=(lb_ 64 2097151)) gA9_8_20 rfl nsA9_8 (wanted_is (j:=19) (d:=83) rfl rfl h83 rfl) K100 (fun _ _=>(ym_ rfl (F.of h12))) fun a129 e=>?_
 have h84:=pt_ F e;replace F:=pu_ F e;replace h83:=so_ e h83;clear e
 have Y:∀ W,Keep (fun g=>g < w93.heap.size) w93 W→(execOp a129.eval oA9_8_21).run Try.prog W=.ok (.value (.bool true)) W:=by intro W7 hS;unfold oA9_8_21;go_simp
 refine dt_ (i:=21) (l':=(lb_ 64 4194303)) gA9_8_21 rfl nsA9_8 (wanted_is (j:=19) (d:=83) rfl rfl h83 rfl) K100 Y fun a130 e=>?_;clear Y
 clear h84;have h85:=pt_ F e;replace F:=pu_ F e;replace h83:=so_ e h83;clear e
 have Y:∀ W,Keep (fun g=>g < w93.heap.size) w93 W→(execOp a130.eval oA9_8_22).run Try.prog W=.ok (.value (.bool true)) W:=by intro W7 hS;unfold oA9_8_22;go_simp
 refine dt_ (i:=22) (l':=(lb_ 64 8388607)) gA9_8_22 rfl nsA9_8 (wanted_free rfl) K100 Y fun a131 e=>?_;clear Y
 clear h83 h85;have h86:=pt_ F e;replace F:=pu_ F e;clear e
 refine dt_ (i:=23) (l':=(lb_ 64 16777215)) gA9_8_23 rfl nsA9_8 (wanted_free rfl) K100 (fun _ _=>(ym_ rfl h86)) fun a132 e=>?_
 clear h86;have h87:=pt_ F e;replace F:=pu_ F e;clear e
 refine dt_ (i:=24) (l':=(lb_ 64 33554431)) gA9_8_24 rfl nsA9_8 (wanted_is (j:=23) (d:=87) rfl rfl h87 rfl) K100 (fun W7 hS=>(yl4_ rfl (F.of h11) (D106.keep hS D106.lt))) fun a133 e=>?_
 have h88:=pt_ F e;replace F:=pu_ F e;replace h87:=so_ e h87;clear e
 refine dr_only (i:=25) (fuel:=38) (by kernel_rfl) ?_
 have Y:(execOp a133.eval oA9_8_25).run Try.prog w101=.ok (.enter 20 #[.string (⟨#[97]⟩)]) w101:=by unfold oA9_8_25;go_simp
 refine dr_call (l':=(lb_ 64 67108863)) gA9_8_25 rfl (by kernel_rfl) (wanted_is (j:=23) (d:=87) rfl rfl h87 rfl) Y ((refA_is _ [97]).mono ?_);clear Y
 rintro e9 w134 ⟨rfl,kk⟩
 replace K1:=keep_onto K1 kk
 replace KXo1:=keep_onto KXo1 kk
 replace KXr1:=keep_onto KXr1 kk
 replace KXo2:=keep_onto KXo2 kk
 replace KXr2:=keep_onto KXr2 kk
 replace KXo3:=keep_onto KXo3 kk
 replace KXr3:=keep_onto KXr3 kk
 replace KXr4:=keep_onto KXr4 kk
 replace KXo5:=keep_onto KXo5 kk
 replace KXr5:=keep_onto KXr5 kk
 replace KXo6:=keep_onto KXo6 kk
 replace KXr6:=keep_onto KXr6 kk
 replace K100:=keep_onto K100 kk
 replace B10:=blk_on B10 kk
 replace B24:=blk_on B24 kk
 replace B38:=blk_on B38 kk
 replace B48:=blk_on B48 kk
 replace B59:=blk_on B59 kk
 replace B73:=blk_on B73 kk
 replace B87:=blk_on B87 kk
 clear kk
 refine ⟨_,rfl,K100,fun a135 e=>?_⟩
 have h89:=pt_ F e;replace F:=pu_ F e;replace h87:=so_ e h87;replace h88:=so_ e h88;clear e
 refine dr_only (i:=26) (fuel:=37) (by kernel_rfl) ?_
 have Y:(execOp a135.eval oA9_8_26).run Try.prog w134=.ok (.enter 16 #[.int .i64 0]) w134:=by unfold oA9_8_26;go_simp
 refine dr_call (l':=(lb_ 64 134217727)) gA9_8_26 rfl (by kernel_rfl) (wanted_is (j:=23) (d:=87) rfl rfl h87 rfl) Y ((refN_any _ 0).mono ?_);clear Y
 rintro e9 w136 ⟨rfl,kk⟩
 replace K1:=keep_onto K1 kk
 replace KXo1:=keep_onto KXo1 kk
 replace KXr1:=keep_onto KXr1 kk
 replace KXo2:=keep_onto KXo2 kk
 replace KXr2:=keep_onto KXr2 kk
 replace KXo3:=keep_onto KXo3 kk
 replace KXr3:=keep_onto KXr3 kk
 replace KXr4:=keep_onto KXr4 kk
 replace KXo5:=keep_onto KXo5 kk
 replace KXr5:=keep_onto KXr5 kk
 replace KXo6:=keep_onto KXo6 kk
 replace KXr6:=keep_onto KXr6 kk
 replace K100:=keep_onto K100 kk
 replace B10:=blk_on B10 kk
 replace B24:=blk_on B24 kk
 replace B38:=blk_on B38 kk
 replace B48:=blk_on B48 kk
 replace B59:=blk_on B59 kk
 replace B73:=blk_on B73 kk
 replace B87:=blk_on B87 kk
 clear kk
 refine ⟨_,rfl,K100,fun a137 e=>?_⟩
 have h90:=pt_ F e;replace F:=pu_ F e;replace h87:=so_ e h87;replace h88:=so_ e h88;replace h89:=so_ e h89;clear e
 refine dr_only (i:=27) (fuel:=36) (by kernel_rfl) ?_
 have Y:(execOp a137.eval oA9_8_27).run Try.prog w136=.ok (.value (.slice (some ⟨w136.heap.size,0,none⟩) 2 2)) (w136.alloc (.cells #[.int .i64 ((Tm.node 3 [97] 0 []).k),.string (str (Tm.node 3 [97] 0 []).nm),.int .i64 ((Tm.node 3 [97] 0 []).i),.slice none (Tm.node 3 [97] 0 []).args.length 0,.int .i64 ((Tm.node 2 [] 0 []).k),.string (str (Tm.node 2 [] 0 []).nm),.int .i64 ((Tm.node 2 [] 0 []).i),.slice none (Tm.node 2 [] 0 []).args.length 0] 24)):=by unfold oA9_8_27;go_simp
 have B138:=Blk.new w136 24 #[.int .i64 ((Tm.node 3 [97] 0 []).k),.string (str (Tm.node 3 [97] 0 []).nm),.int .i64 ((Tm.node 3 [97] 0 []).i),.slice none (Tm.node 3 [97] 0 []).args.length 0,.int .i64 ((Tm.node 2 [] 0 []).k),.string (str (Tm.node 2 [] 0 []).nm),.int .i64 ((Tm.node 2 [] 0 []).i),.slice none (Tm.node 2 [] 0 []).args.length 0]
 obtain ⟨w139,hw⟩:∃ x,x=w136.alloc (.cells #[.int .i64 ((Tm.node 3 [97] 0 []).k),.string (str (Tm.node 3 [97] 0 []).nm),.int .i64 ((Tm.node 3 [97] 0 []).i),.slice none (Tm.node 3 [97] 0 []).args.length 0,.int .i64 ((Tm.node 2 [] 0 []).k),.string (str (Tm.node 2 [] 0 []).nm),.int .i64 ((Tm.node 2 [] 0 []).i),.slice none (Tm.node 2 [] 0 []).args.length 0] 24):=⟨_,rfl⟩;rw [← hw] at Y B138
 obtain ⟨b138,hb⟩:∃ x,x=w136.heap.size:=⟨_,rfl⟩;rw [← hb] at Y B138
 have Nb10_b138:=nb_ hb B10;replace B10:=ba_ hw B10;have Nb24_b138:=nb_ hb B24;replace B24:=ba_ hw B24;have Nb38_b138:=nb_ hb B38;replace B38:=ba_ hw B38;have Nb48_b138:=nb_ hb B48;replace B48:=ba_ hw B48;have Nb59_b138:=nb_ hb B59;replace B59:=ba_ hw B59;have Nb73_b138:=nb_ hb B73;replace B73:=ba_ hw B73;have Nb87_b138:=nb_ hb B87;replace B87:=ba_ hw B87;have LK1_b138:=lk_ hb K1;replace K1:=ka_ hw K1;have LKXo1_b138:=lk_ hb KXo1;replace KXo1:=ka_ hw KXo1;have LKXr1_b138:=lk_ hb KXr1;replace KXr1:=ka_ hw KXr1;have LKXo2_b138:=lk_ hb KXo2;replace KXo2:=ka_ hw KXo2;have LKXr2_b138:=lk_ hb KXr2;replace KXr2:=ka_ hw KXr2;have LKXo3_b138:=lk_ hb KXo3;replace KXo3:=ka_ hw KXo3;have LKXr3_b138:=lk_ hb KXr3;replace KXr3:=ka_ hw KXr3;have LKXr4_b138:=lk_ hb KXr4;replace KXr4:=ka_ hw KXr4;have LKXo5_b138:=lk_ hb KXo5;replace KXo5:=ka_ hw KXo5;have LKXr5_b138:=lk_ hb KXr5;replace KXr5:=ka_ hw KXr5;have LKXo6_b138:=lk_ hb KXo6;replace KXo6:=ka_ hw KXo6;have LKXr6_b138:=lk_ hb KXr6;replace KXr6:=ka_ hw KXr6;have LK100_b138:=lk_ hb K100;replace K100:=ka_ hw K100;clear hw hb
 refine dr_val (l':=(lb_ 64 268435455)) gA9_8_27 rfl (by kernel_rfl) (wanted_is (j:=23) (d:=87) rfl rfl h87 rfl) Y K100 fun a140 e=>?_;clear Y
 clear h89 h90;have h91:=pt_ F e;replace F:=pu_ F e;replace h87:=so_ e h87;replace h88:=so_ e h88;clear e
 refine dr_only (i:=28) (fuel:=35) (by kernel_rfl) ?_
 have Y:(execOp a140.eval oA9_8_28).run Try.prog w139=.ok (.enter 15 #[.string (⟨#[47]⟩),.slice (some ⟨b138,0,none⟩) 2 2]) w139:=by unfold oA9_8_28;go_simp
 refine dr_call (l':=(lb_ 64 536870911)) gA9_8_28 rfl (by kernel_rfl) (wanted_is (j:=23) (d:=87) rfl rfl h87 rfl) Y ((refC_any _ [47] [Tm.node 3 [97] 0 [],Tm.node 2 [] 0 []] (some ⟨b138,0,none⟩) 2).mono ?_);clear Y
 rintro e9 w141 ⟨rfl,kk⟩
 replace K1:=keep_onto K1 kk
 replace KXo1:=keep_onto KXo1 kk
 replace KXr1:=keep_onto KXr1 kk
 replace KXo2:=keep_onto KXo2 kk
 replace KXr2:=keep_onto KXr2 kk
 replace KXo3:=keep_onto KXo3 kk
 replace KXr3:=keep_onto KXr3 kk
 replace KXr4:=keep_onto KXr4 kk
 replace KXo5:=keep_onto KXo5 kk
 replace KXr5:=keep_onto KXr5 kk
 replace KXo6:=keep_onto KXo6 kk
 replace KXr6:=keep_onto KXr6 kk
 replace K100:=keep_onto K100 kk
 replace B10:=blk_on B10 kk
 replace B24:=blk_on B24 kk
 replace B38:=blk_on B38 kk
 replace B48:=blk_on B48 kk
 replace B59:=blk_on B59 kk
 replace B73:=blk_on B73 kk
 replace B87:=blk_on B87 kk
 replace B138:=blk_on B138 kk
 clear kk
 refine ⟨_,rfl,K100,fun a142 e=>?_⟩
 clear h91;have h92:=pt_ F e;replace F:=pu_ F e;replace h87:=so_ e h87;replace h88:=so_ e h88;clear e
 refine dr_only (i:=29) (fuel:=34) (by kernel_rfl) ?_
 have Y:(execOp a142.eval oA9_8_29).run Try.prog w141=.ok (.enter 25 #[.string (⟨#[101,118,97,108,117,97,98,108,101]⟩),.agg #[.int .i64 ((Tm.node 4 [47] 0 [Tm.node 3 [97] 0 [],Tm.node 2 [] 0 []]).k),.string (str (Tm.node 4 [47] 0 [Tm.node 3 [97] 0 [],Tm.node 2 [] 0 []]).nm),.int .i64 ((Tm.node 4 [47] 0 [Tm.node 3 [97] 0 [],Tm.node 2 [] 0 []]).i),.slice (some ⟨b138,0,none⟩) (Tm.node 4 [47] 0 [Tm.node 3 [97] 0 [],Tm.node 2 [] 0 []]).args.length 2]]) w141:=by unfold oA9_8_29;go_simp
 have hT:TmAt w141.heap.size w141 (Tm.node 4 [47] 0 [Tm.node 3 [97] 0 [],Tm.node 2 [] 0 []]) (some ⟨b138,0,none⟩) 2:=comp_at (ps:=[(.node 3 [97] 0 [],none,0),(.node 2 [] 0 [],none,0)]) B138 (fun p hp=>by rcases List.mem_cons.1 hp with rfl | hp;exact tm_leaf (by decide) (by decide) (by decide);rw [List.mem_singleton.1 hp];exact tm_leaf (by decide) (by decide) (by decide)) (by decide) (Nat.le_of_ble_eq_true rfl)
 have hca:=refType_any (nm:=[101,118,97,108,117,97,98,108,101]) (own_in (P:=fun _=>True) hT) (by decide);clear hT
 refine dr_call (l':=(lb_ 64 1073741823)) gA9_8_29 rfl (by kernel_rfl) (wanted_is (j:=23) (d:=87) rfl rfl h87 rfl) Y ((hca).mono ?_);clear Y
 rintro e9 w143 ⟨at8,ct8,rfl,hx,kk⟩
 replace K1:=keep_onto K1 kk
 replace KXo1:=keep_onto KXo1 kk
 replace KXr1:=keep_onto KXr1 kk
 replace KXo2:=keep_onto KXo2 kk
 replace KXr2:=keep_onto KXr2 kk
 replace KXo3:=keep_onto KXo3 kk
 replace KXr3:=keep_onto KXr3 kk
 replace KXr4:=keep_onto KXr4 kk
 replace KXo5:=keep_onto KXo5 kk
 replace KXr5:=keep_onto KXr5 kk
 replace KXo6:=keep_onto KXo6 kk
 replace KXr6:=keep_onto KXr6 kk
 replace K100:=keep_onto K100 kk
 replace B10:=blk_on B10 kk
 replace B24:=blk_on B24 kk
 replace B38:=blk_on B38 kk
 replace B48:=blk_on B48 kk
 replace B59:=blk_on B59 kk
 replace B73:=blk_on B73 kk
 replace B87:=blk_on B87 kk
 replace B138:=blk_on B138 kk
 clear kk
 have HXt8:=Lib.hid hx.at_;clear hx hca
 have KXt8:=Keep.refl (fun g=>g < w143.heap.size) w143
 refine ⟨_,rfl,K100,fun a144 e=>?_⟩
 clear h92;have h93:=pt_ F e;replace F:=pu_ F e;replace h87:=so_ e h87;replace h88:=so_ e h88;clear e
 refine dr_only (i:=30) (fuel:=33) (by kernel_rfl) ?_
 refine dr_call (l':=(lb_ 64 2147483647)) gA9_8_30 rfl (by kernel_rfl) (wanted_is (j:=23) (d:=87) rfl rfl h87 rfl) (yc2_ enA9_13 rfl h88 h93) ((like_ok (HXr4.out.on KXr4) (HXt8.out.on KXt8) (.inr ⟨ok_1,ok_1,rfl⟩)).mono ?_)
 rintro e9 w145 ⟨rfl,kk⟩
 replace K1:=keep_onto K1 kk
 replace KXo1:=keep_onto KXo1 kk
 replace KXr1:=keep_onto KXr1 kk
 replace KXo2:=keep_onto KXo2 kk
 replace KXr2:=keep_onto KXr2 kk
 replace KXo3:=keep_onto KXo3 kk
 replace KXr3:=keep_onto KXr3 kk
 replace KXr4:=keep_onto KXr4 kk
 replace KXo5:=keep_onto KXo5 kk
 replace KXr5:=keep_onto KXr5 kk
 replace KXo6:=keep_onto KXo6 kk
 replace KXr6:=keep_onto KXr6 kk
 replace K100:=keep_onto K100 kk
 replace KXt8:=keep_onto KXt8 kk
 replace B10:=blk_on B10 kk
 replace B24:=blk_on B24 kk
 replace B38:=blk_on B38 kk
 replace B48:=blk_on B48 kk
 replace B59:=blk_on B59 kk
 replace B73:=blk_on B73 kk
 replace B87:=blk_on B87 kk
 replace B138:=blk_on B138 kk
 clear kk
 refine ⟨_,rfl,K100,fun a146 e=>?_⟩
 clear h88 h93;have h94:=pt_ F e;replace F:=pu_ F e;replace h87:=so_ e h87;clear e
 have Y:∀ W,Keep (fun g=>g < w93.heap.size) w93 W→(execOp a146.eval oA9_8_31).run Try.prog W=.ok (.value (.bool true)) W:=by intro W7 hS;unfold oA9_8_31;go_simp
 refine dt_ (i:=31) (l':=(lb_ 64 4294967295)) gA9_8_31 rfl nsA9_8 (wanted_free rfl) K100 Y fun a147 e=>?_;clear Y
 clear h87 h94;have h95:=pt_ F e;replace F:=pu_ F e;clear e
 refine dt_ (i:=32) (l':=(lb_ 64 8589934591)) gA9_8_32 rfl nsA9_8 (wanted_free rfl) K100 (fun _ _=>(ym_ rfl h95)) fun a148 e=>?_
 clear h95;have h96:=pt_ F e;replace F:=pu_ F e;clear e
 refine dt_ (i:=33) (l':=(lb_ 64 17179869183)) gA9_8_33 rfl nsA9_8 (wanted_is (j:=32) (d:=96) rfl rfl h96 rfl) K100 (fun _ _=>(ym_ rfl (F.of h15))) fun a149 e=>?_
 have h97:=pt_ F e;replace F:=pu_ F e;replace h96:=so_ e h96;clear e
 have Y:∀ W,Keep (fun g=>g < w93.heap.size) w93 W→(execOp a149.eval oA9_8_34).run Try.prog W=.ok (.value (.bool true)) W:=by intro W7 hS;unfold oA9_8_34;go_simp
 refine dt_ (i:=34) (l':=(lb_ 64 34359738367)) gA9_8_34 rfl nsA9_8 (wanted_is (j:=32) (d:=96) rfl rfl h96 rfl) K100 Y fun a150 e=>?_;clear Y
 clear h97;have h98:=pt_ F e;replace F:=pu_ F e;replace h96:=so_ e h96;clear e
 have Y:∀ W,Keep (fun g=>g < w93.heap.size) w93 W→(execOp a150.eval oA9_8_35).run Try.prog W=.ok (.value (.bool true)) W:=by intro W7 hS;unfold oA9_8_35;go_simp
 refine dt_ (i:=35) (l':=(lb_ 64 68719476735)) gA9_8_35 rfl nsA9_8 (wanted_free rfl) K100 Y fun a151 e=>?_;clear Y
 clear h96 h98;have h99:=pt_ F e;replace F:=pu_ F e;clear e
 refine dt_ (i:=36) (l':=(lb_ 64 137438953471)) gA9_8_36 rfl nsA9_8 (wanted_free rfl) K100 (fun _ _=>(ym_ rfl h99)) fun a152 e=>?_
 clear h99;have h100:=pt_ F e;replace F:=pu_ F e;clear e
 refine dt_ (i:=37) (l':=(lb_ 64 274877906943)) gA9_8_37 rfl nsA9_8 (wanted_is (j:=36) (d:=100) rfl rfl h100 rfl) K100 (fun W7 hS=>(yl4_ rfl (F.of h14) (D107.keep hS D107.lt))) fun a153 e=>?_
 have h101:=pt_ F e;replace F:=pu_ F e;replace h100:=so_ e h100;clear e
 refine dr_only (i:=38) (fuel:=25) (by kernel_rfl) ?_
 have Y:(execOp a153.eval oA9_8_38).run Try.prog w145=.ok (.enter 20 #[.string (⟨#[105,110,116,95,111,118,101,114,102,108,111,119]⟩)]) w145:=by unfold oA9_8_38;go_simp
 refine dr_call (l':=(lb_ 64 549755813887)) gA9_8_38 rfl (by kernel_rfl) (wanted_is (j:=36) (d:=100) rfl rfl h100 rfl) Y ((refA_is _ fOver).mono ?_);clear Y
 rintro e9 w154 ⟨rfl,kk⟩
 replace K1:=keep_onto K1 kk
 replace KXo1:=keep_onto KXo1 kk
 replace KXr1:=keep_onto KXr1 kk
 replace KXo2:=keep_onto KXo2 kk
 replace KXr2:=keep_onto KXr2 kk
 replace KXo3:=keep_onto KXo3 kk
 replace KXr3:=keep_onto KXr3 kk
 replace KXr4:=keep_onto KXr4 kk
 replace KXo5:=keep_onto KXo5 kk
 replace KXr5:=keep_onto KXr5 kk
 replace KXo6:=keep_onto KXo6 kk
 replace KXr6:=keep_onto KXr6 kk
 replace K100:=keep_onto K100 kk
 replace KXt8:=keep_onto KXt8 kk
 replace B10:=blk_on B10 kk
 replace B24:=blk_on B24 kk
 replace B38:=blk_on B38 kk
 replace B48:=blk_on B48 kk
 replace B59:=blk_on B59 kk
 replace B73:=blk_on B73 kk
 replace B87:=blk_on B87 kk
 replace B138:=blk_on B138 kk
 clear kk
 refine ⟨_,rfl,K100,fun a155 e=>?_⟩
 have h102:=pt_ F e;replace F:=pu_ F e;replace h100:=so_ e h100;replace h101:=so_ e h101;clear e
 refine dr_only (i:=39) (fuel:=24) (by kernel_rfl) ?_
 have Y:(execOp a155.eval oA9_8_39).run Try.prog w154=.ok (.value (.slice (some ⟨w154.heap.size,0,none⟩) 1 1)) (w154.alloc (.cells #[.int .i64 ((Tm.node 3 fOver 0 []).k),.string (str (Tm.node 3 fOver 0 []).nm),.int .i64 ((Tm.node 3 fOver 0 []).i),.slice none (Tm.node 3 fOver 0 []).args.length 0] 24)):=by unfold oA9_8_39;go_simp
 have B156:=Blk.new w154 24 #[.int .i64 ((Tm.node 3 fOver 0 []).k),.string (str (Tm.node 3 fOver 0 []).nm),.int .i64 ((Tm.node 3 fOver 0 []).i),.slice none (Tm.node 3 fOver 0 []).args.length 0]
 obtain ⟨w157,hw⟩:∃ x,x=w154.alloc (.cells #[.int .i64 ((Tm.node 3 fOver 0 []).k),.string (str (Tm.node 3 fOver 0 []).nm),.int .i64 ((Tm.node 3 fOver 0 []).i),.slice none (Tm.node 3 fOver 0 []).args.length 0] 24):=⟨_,rfl⟩;rw [← hw] at Y B156
 obtain ⟨b156,hb⟩:∃ x,x=w154.heap.size:=⟨_,rfl⟩;rw [← hb] at Y B156
 have Nb10_b156:=nb_ hb B10;replace B10:=ba_ hw B10;have Nb24_b156:=nb_ hb B24;replace B24:=ba_ hw B24;have Nb38_b156:=nb_ hb B38;replace B38:=ba_ hw B38;have Nb48_b156:=nb_ hb B48;replace B48:=ba_ hw B48;have Nb59_b156:=nb_ hb B59;replace B59:=ba_ hw B59;have Nb73_b156:=nb_ hb B73;replace B73:=ba_ hw B73;have Nb87_b156:=nb_ hb B87;replace B87:=ba_ hw B87;have Nb138_b156:=nb_ hb B138;replace B138:=ba_ hw B138;have LK1_b156:=lk_ hb K1;replace K1:=ka_ hw K1;have LKXo1_b156:=lk_ hb KXo1;replace KXo1:=ka_ hw KXo1;have LKXr1_b156:=lk_ hb KXr1;replace KXr1:=ka_ hw KXr1;have LKXo2_b156:=lk_ hb KXo2;replace KXo2:=ka_ hw KXo2;have LKXr2_b156:=lk_ hb KXr2;replace KXr2:=ka_ hw KXr2;have LKXo3_b156:=lk_ hb KXo3;replace KXo3:=ka_ hw KXo3;have LKXr3_b156:=lk_ hb KXr3;replace KXr3:=ka_ hw KXr3;have LKXr4_b156:=lk_ hb KXr4;replace KXr4:=ka_ hw KXr4;have LKXo5_b156:=lk_ hb KXo5;replace KXo5:=ka_ hw KXo5;have LKXr5_b156:=lk_ hb KXr5;replace KXr5:=ka_ hw KXr5;have LKXo6_b156:=lk_ hb KXo6;replace KXo6:=ka_ hw KXo6;have LKXr6_b156:=lk_ hb KXr6;replace KXr6:=ka_ hw KXr6;have LK100_b156:=lk_ hb K100;replace K100:=ka_ hw K100;have LKXt8_b156:=lk_ hb KXt8;replace KXt8:=ka_ hw KXt8;clear hw hb
 refine dr_val (l':=(lb_ 64 1099511627775)) gA9_8_39 rfl (by kernel_rfl) (wanted_is (j:=36) (d:=100) rfl rfl h100 rfl) Y K100 fun a158 e=>?_;clear Y
 clear h102;have h103:=pt_ F e;replace F:=pu_ F e;replace h100:=so_ e h100;replace h101:=so_ e h101;clear e
 refine dr_only (i:=40) (fuel:=23) (by kernel_rfl) ?_
 have Y:(execOp a158.eval oA9_8_40).run Try.prog w157=.ok (.enter 22 #[.string (⟨#[101,118,97,108,117,97,116,105,111,110,95,101,114,114,111,114]⟩),.slice (some ⟨b156,0,none⟩) 1 1]) w157:=by unfold oA9_8_40;go_simp
 have hT:TmAt w157.heap.size w157 (flF fOver) (some ⟨b156,0,none⟩) 1:=comp_at (ps:=[(.node 3 fOver 0 [],none,0)]) B156 (fun p hp=>by rw [List.mem_singleton.1 hp];exact tm_leaf (by decide) (by decide) (by decide)) (by decide) (Nat.le_of_ble_eq_true rfl)
 have hca:=Fault_any (W:=w157) (nm:=[101,118,97,108,117,97,116,105,111,110,95,101,114,114,111,114]) (ts:=[.node 3 fOver 0 []]) (sa:=some ⟨b156,0,none⟩) (sc:=1) (fun _=>hT) (by decide);rw [al_8] at hca;clear hT
 refine dr_call (l':=(lb_ 64 2199023255551)) gA9_8_40 rfl (by kernel_rfl) (wanted_is (j:=36) (d:=100) rfl rfl h100 rfl) Y ((hca).mono ?_);clear Y
 rintro e9 w159 ⟨au8,cu8,rfl,hx,kk⟩
 replace K1:=keep_onto K1 kk
 replace KXo1:=keep_onto KXo1 kk
 replace KXr1:=keep_onto KXr1 kk
 replace KXo2:=keep_onto KXo2 kk
 replace KXr2:=keep_onto KXr2 kk
 replace KXo3:=keep_onto KXo3 kk
 replace KXr3:=keep_onto KXr3 kk
 replace KXr4:=keep_onto KXr4 kk
 replace KXo5:=keep_onto KXo5 kk
 replace KXr5:=keep_onto KXr5 kk
 replace KXo6:=keep_onto KXo6 kk
 replace KXr6:=keep_onto KXr6 kk
 replace K100:=keep_onto K100 kk
 replace KXt8:=keep_onto KXt8 kk
 replace B10:=blk_on B10 kk
 replace B24:=blk_on B24 kk
 replace B38:=blk_on B38 kk
 replace B48:=blk_on B48 kk
 replace B59:=blk_on B59 kk
 replace B73:=blk_on B73 kk
 replace B87:=blk_on B87 kk
 replace B138:=blk_on B138 kk
 replace B156:=blk_on B156 kk
 clear kk
 have HXu8:=Lib.hid hx.at_;clear hx hca
 have KXu8:=Keep.refl (fun g=>g < w159.heap.size) w159
 refine ⟨_,rfl,K100,fun a160 e=>?_⟩
 clear h103;have h104:=pt_ F e;replace F:=pu_ F e;replace h100:=so_ e h100;replace h101:=so_ e h101;clear e
 refine dr_only (i:=41) (fuel:=22) (by kernel_rfl) ?_
 refine dr_call (l':=(lb_ 64 4398046511103)) gA9_8_41 rfl (by kernel_rfl) (wanted_is (j:=36) (d:=100) rfl rfl h100 rfl) (yc2_ enA9_13 rfl h101 h104) ((like_ok (HXr5.out.on KXr5) (HXu8.out.on KXu8) (.inr ⟨ok_2,ok_2,rfl⟩)).mono ?_)
 rintro e9 w161 ⟨rfl,kk⟩
 replace K1:=keep_onto K1 kk
 replace KXo1:=keep_onto KXo1 kk
 replace KXr1:=keep_onto KXr1 kk
 replace KXo2:=keep_onto KXo2 kk
 replace KXr2:=keep_onto KXr2 kk
 replace KXo3:=keep_onto KXo3 kk
 replace KXr3:=keep_onto KXr3 kk
 replace KXr4:=keep_onto KXr4 kk
 replace KXo5:=keep_onto KXo5 kk
 replace KXr5:=keep_onto KXr5 kk
 replace KXo6:=keep_onto KXo6 kk
 replace KXr6:=keep_onto KXr6 kk
 replace K100:=keep_onto K100 kk
 replace KXt8:=keep_onto KXt8 kk
 replace KXu8:=keep_onto KXu8 kk
 replace B10:=blk_on B10 kk
 replace B24:=blk_on B24 kk
 replace B38:=blk_on B38 kk
 replace B48:=blk_on B48 kk
 replace B59:=blk_on B59 kk
 replace B73:=blk_on B73 kk
 replace B87:=blk_on B87 kk
 replace B138:=blk_on B138 kk
 replace B156:=blk_on B156 kk
 clear kk
 refine ⟨_,rfl,K100,fun a162 e=>?_⟩
 clear h101 h104;have h105:=pt_ F e;replace F:=pu_ F e;replace h100:=so_ e h100;clear e
 have Y:∀ W,Keep (fun g=>g < w93.heap.size) w93 W→(execOp a162.eval oA9_8_42).run Try.prog W=.ok (.value (.bool true)) W:=by intro W7 hS;unfold oA9_8_42;go_simp
 refine dt_ (i:=42) (l':=(lb_ 64 8796093022207)) gA9_8_42 rfl nsA9_8 (wanted_free rfl) K100 Y fun a163 e=>?_;clear Y
 clear h100 h105;have h106:=pt_ F e;replace F:=pu_ F e;clear e
 refine dt_ (i:=43) (l':=(lb_ 64 17592186044415)) gA9_8_43 rfl nsA9_8 (wanted_free rfl) K100 (fun _ _=>(ym_ rfl h106)) fun a164 e=>?_
 clear h106;have h107:=pt_ F e;replace F:=pu_ F e;clear e
 refine dt_ (i:=44) (l':=(lb_ 64 35184372088831)) gA9_8_44 rfl nsA9_8 (wanted_is (j:=43) (d:=107) rfl rfl h107 rfl) K100 (fun _ _=>(ym_ rfl (F.of h16))) fun a165 e=>?_
 have h108:=pt_ F e;replace F:=pu_ F e;replace h107:=so_ e h107;clear e
 have Y:∀ W,Keep (fun g=>g < w93.heap.size) w93 W→(execOp a165.eval oA9_8_45).run Try.prog W=.ok (.value (.bool true)) W:=by intro W7 hS;unfold oA9_8_45;go_simp
 refine dt_ (i:=45) (l':=(lb_ 64 70368744177663)) gA9_8_45 rfl nsA9_8 (wanted_is (j:=43) (d:=107) rfl rfl h107 rfl) K100 Y fun a166 e=>?_;clear Y
 clear h108;have h109:=pt_ F e;replace F:=pu_ F e;replace h107:=so_ e h107;clear e
 have Y:∀ W,Keep (fun g=>g < w93.heap.size) w93 W→(execOp a166.eval oA9_8_46).run Try.prog W=.ok (.value (.bool true)) W:=by intro W7 hS;unfold oA9_8_46;go_simp
 refine dt_ (i:=46) (l':=(lb_ 64 140737488355327)) gA9_8_46 rfl nsA9_8 (wanted_free rfl) K100 Y fun a167 e=>?_;clear Y
 clear h107 h109;have h110:=pt_ F e;replace F:=pu_ F e;clear e
 refine dt_ (i:=47) (l':=(lb_ 64 281474976710655)) gA9_8_47 rfl nsA9_8 (wanted_free rfl) K100 (fun _ _=>(ym_ rfl h110)) fun a168 e=>?_
 clear h110;have h111:=pt_ F e;replace F:=pu_ F e;clear e
 refine dt_ (i:=48) (l':=(lb_ 64 562949953421311)) gA9_8_48 rfl nsA9_8 (wanted_is (j:=47) (d:=111) rfl rfl h111 rfl) K100 (fun _ _=>(ym_ rfl (F.of h18))) fun a169 e=>?_
 have h112:=pt_ F e;replace F:=pu_ F e;replace h111:=so_ e h111;clear e
 have Y:∀ W,Keep (fun g=>g < w93.heap.size) w93 W→(execOp a169.eval oA9_8_49).run Try.prog W=.ok (.value (.bool true)) W:=by intro W7 hS;unfold oA9_8_49;go_simp
 refine dt_ (i:=49) (l':=(lb_ 64 1125899906842623)) gA9_8_49 rfl nsA9_8 (wanted_free rfl) K100 Y fun a170 e=>?_;clear Y
 clear h111 h112;have h113:=pt_ F e;replace F:=pu_ F e;clear e
 refine dt_ (i:=50) (l':=(lb_ 64 2251799813685247)) gA9_8_50 rfl nsA9_8 (wanted_free rfl) K100 (fun _ _=>(ym_ rfl h113)) fun a171 e=>?_
 clear h113;have h114:=pt_ F e;replace F:=pu_ F e;clear e
 refine dt_ (i:=51) (l':=(lb_ 64 4503599627370495)) gA9_8_51 rfl nsA9_8 (wanted_is (j:=50) (d:=114) rfl rfl h114 rfl) K100 (fun _ _=>(ym_ rfl (F.of h19))) fun a172 e=>?_
 have h115:=pt_ F e;replace F:=pu_ F e;replace h114:=so_ e h114;clear e
 have Y:∀ W,Keep (fun g=>g < w93.heap.size) w93 W→(execOp a172.eval oA9_8_52).run Try.prog W=.ok (.value (.bool true)) W:=by intro W7 hS;unfold oA9_8_52;go_simp
 refine dt_ (i:=52) (l':=(lb_ 64 9007199254740991)) gA9_8_52 rfl nsA9_8 (wanted_free rfl) K100 Y fun a173 e=>?_;clear Y
 clear h114 h115;have h116:=pt_ F e;replace F:=pu_ F e;clear e
 refine dt_ (i:=53) (l':=(lb_ 64 18014398509481983)) gA9_8_53 rfl nsA9_8 (wanted_free rfl) K100 (fun _ _=>(ym_ rfl h116)) fun a174 e=>?_
 clear h116;have h117:=pt_ F e;replace F:=pu_ F e;clear e
 refine dt_ (i:=54) (l':=(lb_ 64 36028797018963967)) gA9_8_54 rfl nsA9_8 (wanted_is (j:=53) (d:=117) rfl rfl h117 rfl) K100 (fun _ _=>(ym_ rfl (F.of h20))) fun a175 e=>?_
 have h118:=pt_ F e;replace F:=pu_ F e;replace h117:=so_ e h117;clear e
 have Y:∀ W,Keep (fun g=>g < w93.heap.size) w93 W→(execOp a175.eval oA9_8_55).run Try.prog W=.ok (.value (.bool true)) W:=by intro W7 hS;unfold oA9_8_55;go_simp
 refine dt_ (i:=55) (l':=(lb_ 64 72057594037927935)) gA9_8_55 rfl nsA9_8 (wanted_free rfl) K100 Y fun a176 e=>?_;clear Y
 clear h117 h118;have h119:=pt_ F e;replace F:=pu_ F e;clear e
 refine dt_ (i:=56) (l':=(lb_ 64 144115188075855871)) gA9_8_56 rfl nsA9_8 (wanted_free rfl) K100 (fun _ _=>(ym_ rfl h119)) fun a177 e=>?_
 clear h119;have h120:=pt_ F e;replace F:=pu_ F e;clear e
 refine dr_only (i:=57) (fuel:=6) (by kernel_rfl) ?_
 have Y:(execOp a177.eval oA9_8_57).run Try.prog w161=.ok (.enter 20 #[.string (⟨#[120]⟩)]) w161:=by unfold oA9_8_57;go_simp
 refine dr_call (l':=(lb_ 64 288230376151711743)) gA9_8_57 rfl (by kernel_rfl) (wanted_is (j:=56) (d:=120) rfl rfl h120 rfl) Y ((refA_is _ [120]).mono ?_);clear Y
 rintro e9 w178 ⟨rfl,kk⟩
 replace K1:=keep_onto K1 kk
 replace KXo1:=keep_onto KXo1 kk
 replace KXr1:=keep_onto KXr1 kk
 replace KXo2:=keep_onto KXo2 kk
 replace KXr2:=keep_onto KXr2 kk
 replace KXo3:=keep_onto KXo3 kk
 replace KXr3:=keep_onto KXr3 kk
 replace KXr4:=keep_onto KXr4 kk
 replace KXo5:=keep_onto KXo5 kk
 replace KXr5:=keep_onto KXr5 kk
 replace KXo6:=keep_onto KXo6 kk
 replace KXr6:=keep_onto KXr6 kk
 replace K100:=keep_onto K100 kk
 replace KXt8:=keep_onto KXt8 kk
 replace KXu8:=keep_onto KXu8 kk
 replace B10:=blk_on B10 kk
 replace B24:=blk_on B24 kk
 replace B38:=blk_on B38 kk
 replace B48:=blk_on B48 kk
 replace B59:=blk_on B59 kk
 replace B73:=blk_on B73 kk
 replace B87:=blk_on B87 kk
 replace B138:=blk_on B138 kk
 replace B156:=blk_on B156 kk
 clear kk
 refine ⟨_,rfl,K100,fun a179 e=>?_⟩
 have h121:=pt_ F e;replace F:=pu_ F e;replace h120:=so_ e h120;clear e
 refine dr_only (i:=58) (fuel:=5) (by kernel_rfl) ?_
 have hca:=Ball_any (W:=w178) (t:=xT) (a:=none) (c:=0) (tm_leaf (by decide) (by decide) (by decide));rw [al_9] at hca
 refine dr_call (l':=(lb_ 64 576460752303423487)) gA9_8_58 rfl (by kernel_rfl) (wanted_is (j:=56) (d:=120) rfl rfl h120 rfl) (yc1_ enA9_21 rfl h121) ((hca).mono ?_)
 rintro e9 w180 ⟨av8,cv8,rfl,hx,kk⟩
 replace K1:=keep_onto K1 kk
 replace KXo1:=keep_onto KXo1 kk
 replace KXr1:=keep_onto KXr1 kk
 replace KXo2:=keep_onto KXo2 kk
 replace KXr2:=keep_onto KXr2 kk
 replace KXo3:=keep_onto KXo3 kk
 replace KXr3:=keep_onto KXr3 kk
 replace KXr4:=keep_onto KXr4 kk
 replace KXo5:=keep_onto KXo5 kk
 replace KXr5:=keep_onto KXr5 kk
 replace KXo6:=keep_onto KXo6 kk
 replace KXr6:=keep_onto KXr6 kk
 replace K100:=keep_onto K100 kk
 replace KXt8:=keep_onto KXt8 kk
 replace KXu8:=keep_onto KXu8 kk
 replace B10:=blk_on B10 kk
 replace B24:=blk_on B24 kk
 replace B38:=blk_on B38 kk
 replace B48:=blk_on B48 kk
 replace B59:=blk_on B59 kk
 replace B73:=blk_on B73 kk
 replace B87:=blk_on B87 kk
 replace B138:=blk_on B138 kk
 replace B156:=blk_on B156 kk
 clear kk
 have HXv8:=Lib.hid hx.at_;clear hx hca
 have KXv8:=Keep.refl (fun g=>g < w180.heap.size) w180
 refine ⟨_,rfl,K100,fun a181 e=>?_⟩
 clear h121;have h122:=pt_ F e;replace F:=pu_ F e;replace h120:=so_ e h120;clear e
 refine dr_only (i:=59) (fuel:=4) (by kernel_rfl) ?_
 have Y:(execOp a181.eval oA9_8_59).run Try.prog w180=.ok (.enter 20 #[.string (⟨#[120]⟩)]) w180:=by unfold oA9_8_59;go_simp
 refine dr_call (l':=(lb_ 64 1152921504606846975)) gA9_8_59 rfl (by kernel_rfl) (wanted_is (j:=56) (d:=120) rfl rfl h120 rfl) Y ((refA_is _ [120]).mono ?_);clear Y
 rintro e9 w182 ⟨rfl,kk⟩
 replace K1:=keep_onto K1 kk
 replace KXo1:=keep_onto KXo1 kk
 replace KXr1:=keep_onto KXr1 kk
 replace KXo2:=keep_onto KXo2 kk
 replace KXr2:=keep_onto KXr2 kk
 replace KXo3:=keep_onto KXo3 kk
 replace KXr3:=keep_onto KXr3 kk
 replace KXr4:=keep_onto KXr4 kk
 replace KXo5:=keep_onto KXo5 kk
 replace KXr5:=keep_onto KXr5 kk
 replace KXo6:=keep_onto KXo6 kk
 replace KXr6:=keep_onto KXr6 kk
 replace K100:=keep_onto K100 kk
 replace KXt8:=keep_onto KXt8 kk
 replace KXu8:=keep_onto KXu8 kk
 replace KXv8:=keep_onto KXv8 kk
 replace B10:=blk_on B10 kk
 replace B24:=blk_on B24 kk
 replace B38:=blk_on B38 kk
 replace B48:=blk_on B48 kk
 replace B59:=blk_on B59 kk
 replace B73:=blk_on B73 kk
 replace B87:=blk_on B87 kk
 replace B138:=blk_on B138 kk
 replace B156:=blk_on B156 kk
 clear kk
 refine ⟨_,rfl,K100,fun a183 e=>?_⟩
 have h123:=pt_ F e;replace F:=pu_ F e;replace h120:=so_ e h120;replace h122:=so_ e h122;clear e
 refine dr_only (i:=60) (fuel:=3) (by kernel_rfl) ?_
 have hca:=refBall_any (W:=w182) (t:=xT) (a:=none) (c:=0) (own_in (P:=fun _=>True) (tm_leaf (by decide) (by decide) (by decide)))
 refine dr_call (l':=(lb_ 64 2305843009213693951)) gA9_8_60 rfl (by kernel_rfl) (wanted_is (j:=56) (d:=120) rfl rfl h120 rfl) (yc1_ enA9_23 rfl h123) ((hca).mono ?_)
 rintro e9 w184 ⟨aw8,cw8,rfl,hx,kk⟩
 replace K1:=keep_onto K1 kk
 replace KXo1:=keep_onto KXo1 kk
 replace KXr1:=keep_onto KXr1 kk
 replace KXo2:=keep_onto KXo2 kk
 replace KXr2:=keep_onto KXr2 kk
 replace KXo3:=keep_onto KXo3 kk
 replace KXr3:=keep_onto KXr3 kk
 replace KXr4:=keep_onto KXr4 kk
 replace KXo5:=keep_onto KXo5 kk
 replace KXr5:=keep_onto KXr5 kk
 replace KXo6:=keep_onto KXo6 kk
 replace KXr6:=keep_onto KXr6 kk
 replace K100:=keep_onto K100 kk
 replace KXt8:=keep_onto KXt8 kk
 replace KXu8:=keep_onto KXu8 kk
 replace KXv8:=keep_onto KXv8 kk
 replace B10:=blk_on B10 kk
 replace B24:=blk_on B24 kk
 replace B38:=blk_on B38 kk
 replace B48:=blk_on B48 kk
 replace B59:=blk_on B59 kk
 replace B73:=blk_on B73 kk
 replace B87:=blk_on B87 kk
 replace B138:=blk_on B138 kk
 replace B156:=blk_on B156 kk
 clear kk
 have HXw8:=Lib.hid hx.at_;clear hx hca
 have KXw8:=Keep.refl (fun g=>g < w184.heap.size) w184
 refine ⟨_,rfl,K100,fun a185 e=>?_⟩
 clear h123;have h124:=pt_ F e;replace F:=pu_ F e;replace h120:=so_ e h120;replace h122:=so_ e h122;clear e
 refine dr_only (i:=61) (fuel:=2) (by kernel_rfl) ?_
 refine dr_call (l':=(lb_ 64 4611686018427387903)) gA9_8_61 rfl (by kernel_rfl) (wanted_is (j:=56) (d:=120) rfl rfl h120 rfl) (yc2_ enA9_13 rfl h122 h124) ((like_ok (HXv8.out.on KXv8) (HXw8.out.on KXw8) (.inr ⟨ok_3,ok_3,rfl⟩)).mono ?_)
 rintro e9 w186 ⟨rfl,kk⟩
 replace K1:=keep_onto K1 kk
 replace KXo1:=keep_onto KXo1 kk
 replace KXr1:=keep_onto KXr1 kk
 replace KXo2:=keep_onto KXo2 kk
 replace KXr2:=keep_onto KXr2 kk
 replace KXo3:=keep_onto KXo3 kk
 replace KXr3:=keep_onto KXr3 kk
 replace KXr4:=keep_onto KXr4 kk
 replace KXo5:=keep_onto KXo5 kk
 replace KXr5:=keep_onto KXr5 kk
 replace KXo6:=keep_onto KXo6 kk
 replace KXr6:=keep_onto KXr6 kk
 replace K100:=keep_onto K100 kk
 replace KXt8:=keep_onto KXt8 kk
 replace KXu8:=keep_onto KXu8 kk
 replace KXv8:=keep_onto KXv8 kk
 replace KXw8:=keep_onto KXw8 kk
 replace B10:=blk_on B10 kk
 replace B24:=blk_on B24 kk
 replace B38:=blk_on B38 kk
 replace B48:=blk_on B48 kk
 replace B59:=blk_on B59 kk
 replace B73:=blk_on B73 kk
 replace B87:=blk_on B87 kk
 replace B138:=blk_on B138 kk
 replace B156:=blk_on B156 kk
 clear kk
 refine ⟨_,rfl,K100,fun a187 e=>?_⟩
 clear h122 h124;have h125:=pt_ F e;replace F:=pu_ F e;replace h120:=so_ e h120;clear e
 have Y:∀ W,Keep (fun g=>g < w93.heap.size) w93 W→(execOp a187.eval oA9_8_62).run Try.prog W=.ok (.value (.bool true)) W:=by intro W7 hS;unfold oA9_8_62;go_simp
 refine dt_ (i:=62) (l':=(lb_ 64 9223372036854775807)) gA9_8_62 rfl nsA9_8 (wanted_free rfl) K100 Y fun a188 e=>?_;clear Y
 clear h120 h125;have h126:=pt_ F e;replace F:=pu_ F e;clear e
 refine dt_ (i:=63) (l':=(lb_ 64 18446744073709551615)) gA9_8_63 rfl nsA9_8 (wanted_free rfl) K100 (fun _ _=>(ya_ rfl h126)) fun a189 e=>?_
 clear h126 h0;have h0:=pt_ F e;replace F:=pu_ F e;clear e
 refine dr_end (by kernel_rfl) ?_
 clear h1;clear h3;clear h4;clear h6;clear h7;clear h9;clear h11;clear h12;clear h14;clear h15;clear h16;clear h18;clear h19;clear h20;have R:=F.r;clear F
 clear K100 EK1 EKXo1 EKXr1 EKXo2 EKXr2 EKXo3 EKXr3 EKXr4 EKXo5 EKXr5 EKXo6 EKXr6 D102 D103 D104 D105 D106 D107 D108
 change (Code.ret).wp _ _ _ _
 refine wp_ret ?_
 change bodyPost Try.prog Try.f9 (fun e w'=>e=.returned (.bool true)∧Keep (fun g=>g < W.heap.size) W w') .ret a189 w186
 refine ret_one rfl R h0 ?_
 exact ⟨rfl,K1⟩
theorem alive_any (W:World):Calls Try.prog 9 #[] W fun e w'=>e=.returned (.bool true)∧Keep (fun g=>g < W.heap.size) W w':=by
  refine enter_sx Try.func9 bodyA9 rfl (by show (0:Nat) ≤ 127;decide) fun f0 R hs=>?_
  exact alive_w R (Keep.refl _ W)
end Go.Proofs.Ytmgephleogiaoaa
