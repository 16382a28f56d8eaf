/-
  The document's Eval is what worth is. No condition but where the term lies.
-/
import Derived.Test.YtmgephleogiaoaaNAr24
namespace Go.Proofs.Ytmgephleogiaoaa
open Go.RowKit Go.Maps
set_option linter.unusedVariables false
set_option linter.unusedSimpArgs false
theorem resW_in {r:Rs} (h:InP r):inR (resW r).v:=by
  unfold resW
  by_cases h0:r.2=[]
  · rw [if_pos h0];exact h
  · rw [if_neg h0];exact inR_0
theorem wo_bal_is {t:Tm} (h:(wo t).k=false):∃ b,wo t=.bal b:=by
  cases hw:wo t with
  | num v=>rw [hw] at h;cases h
  | bal b=>exact ⟨b,rfl⟩
theorem wo_num_is {t:Tm} (h:(wo t).k=true):wo t=.num (wo t).v:=by
  cases hw:wo t with
  | num v=>rfl
  | bal b=>rw [hw] at h;cases h
theorem wo_a0 {t y:Tm} {ys:List Tm} (h4:t.k=4) (hf:isFn t.nm t.args.length=true) (ha:t.args=y::ys) (hk:(wo y).k=false):wo t=wo y:=by
  rw [wo_f h4 hf,ha,woL]
  obtain ⟨b,hb⟩:=wo_bal_is hk
  rw [hb]
theorem wo_one {t y:Tm} (h4:t.k=4) (hf:isFn t.nm t.args.length=true) (ha:t.args=[y]) (hk:(wo y).k=true):wo t=resW (oneR t.nm (wo y).v):=by
  rw [wo_f h4 hf,ha,woL]
  rw [wo_num_is hk]
  show woL t.nm [] [(wo y).v]=_
  rw [woL];rfl
theorem wo_a1 {t y z:Tm} (h4:t.k=4) (hf:isFn t.nm t.args.length=true) (ha:t.args=[y,z]) (hk:(wo y).k=true) (hz:(wo z).k=false):wo t=wo z:=by
  rw [wo_f h4 hf,ha,woL]
  rw [wo_num_is hk]
  show woL t.nm [z] [(wo y).v]=_
  rw [woL]
  obtain ⟨b,hb⟩:=wo_bal_is hz
  rw [hb]
theorem wo_two {t y z:Tm} (h4:t.k=4) (hf:isFn t.nm t.args.length=true) (ha:t.args=[y,z]) (hk:(wo y).k=true) (hz:(wo z).k=true):wo t=resW (twoR t.nm (wo y).v (wo z).v):=by
  rw [wo_f h4 hf,ha,woL]
  rw [wo_num_is hk]
  show woL t.nm [z] [(wo y).v]=_
  rw [woL,wo_num_is hz]
  show woL t.nm [] [(wo y).v,(wo z).v]=_
  rw [woL];rfl
def EvC (t:Tm):Prop:=∀ (W:World) (a:Option Addr) (c:Nat),TmAt W.heap.size W t a c→t.ok=true→Calls Try.prog 12 #[tv t a c] W fun e w'=>WA (wo t) W e w'∧inR (wo t).v
def oB0_0:Oper:=⟨some 1,Op.box 24 (Operand.tmp 0),0, "ref.go:51",#[],none⟩
def oB0_1:Oper:=⟨some 2,Op.alloc 30,0, "ref.go:51",#[],none⟩
def OB0:Array Oper:=List.toArray (oB0_0::oB0_1::[])
theorem gB0_0:OB0[0]? = some oB0_0:=rfl
theorem gB0_1:OB0[1]? = some oB0_1:=rfl
def cB1:Code:=Code.region 0 OB0 false
def oB1_0:Oper:=⟨some 5,Op.fieldAddr 24 (Operand.tmp 1) 0,0, "ref.go:52",#[],none⟩
def oB1_1:Oper:=⟨some 6,Op.load 3 (Operand.tmp 5),3, "ref.go:52",#[ed_ 0],none⟩
def OB1:Array Oper:=List.toArray (oB1_0::oB1_1::[])
theorem gB1_0:OB1[0]? = some oB1_0:=rfl
theorem gB1_1:OB1[1]? = some oB1_1:=rfl
def cB4:Code:=Code.region 1 OB1 false
def oB2_0:Oper:=⟨some 8,Op.binOp Go.BinOp.eql 3 (Operand.tmp 6) (Operand.const (Value.int IntKind.i64 2)) 3,4, "ref.go:53",#[],none⟩
def oB2_1:Oper:=⟨some 7,Op.assign (Operand.tmp 8),4, "ref.go:53",#[ed_ 0],none⟩
def OB2:Array Oper:=List.toArray (oB2_0::oB2_1::[])
theorem gB2_0:OB2[0]? = some oB2_0:=rfl
theorem gB2_1:OB2[1]? = some oB2_1:=rfl
def cB7:Code:=Code.region 2 OB2 false
def oB3_0:Oper:=⟨some 9,Op.fieldAddr 24 (Operand.tmp 1) 2,0, "ref.go:54",#[],none⟩
def oB3_1:Oper:=⟨some 10,Op.load 2 (Operand.tmp 9),2, "ref.go:54",#[ed_ 0],none⟩
def oB3_2:Oper:=⟨some 11,Op.call { callee:=Callee.value (Operand.func 31),args:=#[Operand.tmp 10],argTypes:=#[2] },30, "ref.go:54",#[ed_ 1],none⟩
def oB3_3:Oper:=⟨none,Op.store 30 (Operand.tmp 2) (Operand.tmp 11),0, "ref.go:54",#[ed_ 2,ec_ 2,ep_ 0,ep_ 1,ep_ 2],none⟩
def OB3:Array Oper:=List.toArray (oB3_0::oB3_1::oB3_2::oB3_3::[])
theorem gB3_0:OB3[0]? = some oB3_0:=rfl
theorem gB3_1:OB3[1]? = some oB3_1:=rfl
theorem gB3_2:OB3[2]? = some oB3_2:=rfl
theorem gB3_3:OB3[3]? = some oB3_3:=rfl
def cB10:Code:=Code.region 3 OB3 false
def cB9:Code:=Code.seq cB10 Code.ret
def oB4_0:Oper:=⟨some 13,Op.binOp Go.BinOp.eql 3 (Operand.tmp 6) (Operand.const (Value.int IntKind.i64 1)) 3,4, "ref.go:55",#[],none⟩
def oB4_1:Oper:=⟨some 12,Op.assign (Operand.tmp 13),4, "ref.go:55",#[ed_ 0],none⟩
def OB4:Array Oper:=List.toArray (oB4_0::oB4_1::[])
theorem gB4_0:OB4[0]? = some oB4_0:=rfl
theorem gB4_1:OB4[1]? = some oB4_1:=rfl
def cB13:Code:=Code.region 4 OB4 false
def oB5_0:Oper:=⟨some 14,Op.call { callee:=Callee.value (Operand.func 20),args:=#[Operand.const (Value.string { data:=#[105,110,115,116,97,110,116,105,97,116,105,111,110,95,101,114,114,111,114] })],argTypes:=#[9] },24, "ref.go:56",#[],none⟩
def oB5_1:Oper:=⟨some 15,Op.call { callee:=Callee.value (Operand.func 23),args:=#[Operand.tmp 14],argTypes:=#[24] },24, "ref.go:56",#[ed_ 0,ec_ 0],none⟩
def oB5_2:Oper:=⟨some 16,Op.build 30 #[(1,Operand.tmp 15)],30, "ref.go:56",#[ed_ 1],none⟩
def oB5_3:Oper:=⟨none,Op.store 30 (Operand.tmp 2) (Operand.tmp 16),0, "ref.go:56",#[ed_ 2,ec_ 1,ep_ 0,ep_ 1,ep_ 2],none⟩
def OB5:Array Oper:=List.toArray (oB5_0::oB5_1::oB5_2::oB5_3::[])
theorem gB5_0:OB5[0]? = some oB5_0:=rfl
theorem gB5_1:OB5[1]? = some oB5_1:=rfl
theorem gB5_2:OB5[2]? = some oB5_2:=rfl
theorem gB5_3:OB5[3]? = some oB5_3:=rfl
def cB16:Code:=Code.region 5 OB5 false
def cB15:Code:=Code.seq cB16 Code.ret
def oB6_0:Oper:=⟨some 18,Op.binOp Go.BinOp.eql 3 (Operand.tmp 6) (Operand.const (Value.int IntKind.i64 3)) 3,4, "ref.go:57",#[],none⟩
def oB6_1:Oper:=⟨some 17,Op.assign (Operand.tmp 18),4, "ref.go:57",#[ed_ 0],none⟩
def OB6:Array Oper:=List.toArray (oB6_0::oB6_1::[])
theorem gB6_0:OB6[0]? = some oB6_0:=rfl
theorem gB6_1:OB6[1]? = some oB6_1:=rfl
def cB19:Code:=Code.region 6 OB6 false
def oB7_0:Oper:=⟨some 19,Op.fieldAddr 24 (Operand.tmp 1) 1,0, "ref.go:58",#[],none⟩
def oB7_1:Oper:=⟨some 20,Op.load 9 (Operand.tmp 19),9, "ref.go:58",#[ed_ 0],none⟩
def oB7_2:Oper:=⟨some 21,Op.call { callee:=Callee.value (Operand.func 20),args:=#[Operand.tmp 20],argTypes:=#[9] },24, "ref.go:58",#[ed_ 1],none⟩
def oB7_3:Oper:=⟨some 22,Op.call { callee:=Callee.value (Operand.func 16),args:=#[Operand.const (Value.int IntKind.i64 0)],argTypes:=#[2] },24, "ref.go:58",#[ec_ 2],none⟩
def oB7_4:Oper:=⟨some 23,Op.buildSlice 22 2 #[(0,Operand.tmp 21),(1,Operand.tmp 22)],22, "ref.go:58",#[ed_ 2,ed_ 3],none⟩
def oB7_5:Oper:=⟨some 24,Op.call { callee:=Callee.value (Operand.func 15),args:=#[Operand.const (Value.string { data:=#[47] }),Operand.tmp 23],argTypes:=#[9,22] },24, "ref.go:58",#[ed_ 4,ec_ 3],none⟩
def oB7_6:Oper:=⟨some 25,Op.call { callee:=Callee.value (Operand.func 25),args:=#[Operand.const (Value.string { data:=#[101,118,97,108,117,97,98,108,101] }),Operand.tmp 24],argTypes:=#[9,24] },24, "ref.go:58",#[ed_ 5,ec_ 5],none⟩
def oB7_7:Oper:=⟨some 26,Op.build 30 #[(1,Operand.tmp 25)],30, "ref.go:58",#[ed_ 6],none⟩
def oB7_8:Oper:=⟨none,Op.store 30 (Operand.tmp 2) (Operand.tmp 26),0, "ref.go:58",#[ed_ 7,ec_ 6,ep_ 0,ep_ 1,ep_ 2,ep_ 3,ep_ 4,ep_ 5,ep_ 6,ep_ 7],none⟩
def OB7:Array Oper:=List.toArray (oB7_0::oB7_1::oB7_2::oB7_3::oB7_4::oB7_5::oB7_6::oB7_7::oB7_8::[])
theorem gB7_0:OB7[0]? = some oB7_0:=rfl
theorem gB7_1:OB7[1]? = some oB7_1:=rfl
theorem gB7_2:OB7[2]? = some oB7_2:=rfl
theorem gB7_3:OB7[3]? = some oB7_3:=rfl
theorem gB7_4:OB7[4]? = some oB7_4:=rfl
theorem gB7_5:OB7[5]? = some oB7_5:=rfl
theorem gB7_6:OB7[6]? = some oB7_6:=rfl
theorem gB7_7:OB7[7]? = some oB7_7:=rfl
theorem gB7_8:OB7[8]? = some oB7_8:=rfl
def cB22:Code:=Code.region 7 OB7 false
def cB21:Code:=Code.seq cB22 Code.ret
def cB20:Code:=Code.cond (Operand.tmp 17) cB21 Code.skip
def cB18:Code:=Code.seq cB19 cB20
def cB14:Code:=Code.cond (Operand.tmp 12) cB15 cB18
def cB12:Code:=Code.seq cB13 cB14
def cB8:Code:=Code.cond (Operand.tmp 7) cB9 cB12
def cB6:Code:=Code.seq cB7 cB8
def cB5:Code:=Code.block 0 cB6
def cB3:Code:=Code.seq cB4 cB5
def oB8_0:Oper:=⟨some 27,Op.fieldAddr 24 (Operand.tmp 1) 1,0, "ref.go:60",#[],none⟩
def oB8_1:Oper:=⟨some 28,Op.load 9 (Operand.tmp 27),9, "ref.go:60",#[ed_ 0],none⟩
def oB8_2:Oper:=⟨some 29,Op.fieldAddr 24 (Operand.tmp 1) 3,0, "ref.go:60",#[],none⟩
def oB8_3:Oper:=⟨some 30,Op.load 22 (Operand.tmp 29),22, "ref.go:60",#[ed_ 2],none⟩
def oB8_4:Oper:=⟨some 31,Op.call { callee:=Callee.builtin Go.Builtin.len,args:=#[Operand.tmp 30],argTypes:=#[22] },3, "ref.go:60",#[ed_ 3],none⟩
def oB8_5:Oper:=⟨some 32,Op.call { callee:=Callee.value (Operand.func 32),args:=#[Operand.tmp 28,Operand.tmp 31],argTypes:=#[9,3] },4, "ref.go:60",#[ed_ 1,ed_ 4],none⟩
def oB8_6:Oper:=⟨some 33,Op.unOp Go.UnOp.not 4 (Operand.tmp 32),4, "ref.go:60",#[ed_ 5],none⟩
def OB8:Array Oper:=List.toArray (oB8_0::oB8_1::oB8_2::oB8_3::oB8_4::oB8_5::oB8_6::[])
theorem gB8_0:OB8[0]? = some oB8_0:=rfl
theorem gB8_1:OB8[1]? = some oB8_1:=rfl
theorem gB8_2:OB8[2]? = some oB8_2:=rfl
theorem gB8_3:OB8[3]? = some oB8_3:=rfl
theorem gB8_4:OB8[4]? = some oB8_4:=rfl
theorem gB8_5:OB8[5]? = some oB8_5:=rfl
theorem gB8_6:OB8[6]? = some oB8_6:=rfl
def cB27:Code:=Code.region 8 OB8 false
def oB9_0:Oper:=⟨some 34,Op.fieldAddr 24 (Operand.tmp 1) 1,0, "ref.go:61",#[],none⟩
def oB9_1:Oper:=⟨some 35,Op.load 9 (Operand.tmp 34),9, "ref.go:61",#[ed_ 0],none⟩
def oB9_2:Oper:=⟨some 36,Op.call { callee:=Callee.value (Operand.func 20),args:=#[Operand.tmp 35],argTypes:=#[9] },24, "ref.go:61",#[ed_ 1],none⟩
def oB9_3:Oper:=⟨some 37,Op.fieldAddr 24 (Operand.tmp 1) 3,0, "ref.go:61",#[],none⟩
def oB9_4:Oper:=⟨some 38,Op.load 22 (Operand.tmp 37),22, "ref.go:61",#[ed_ 3],none⟩
def oB9_5:Oper:=⟨some 39,Op.call { callee:=Callee.builtin Go.Builtin.len,args:=#[Operand.tmp 38],argTypes:=#[22] },3, "ref.go:61",#[ed_ 4],none⟩
def oB9_6:Oper:=⟨some 40,Op.call { callee:=Callee.value (Operand.func 16),args:=#[Operand.tmp 39],argTypes:=#[2] },24, "ref.go:61",#[ed_ 5,ec_ 2],none⟩
def oB9_7:Oper:=⟨some 41,Op.buildSlice 22 2 #[(0,Operand.tmp 36),(1,Operand.tmp 40)],22, "ref.go:61",#[ed_ 2,ed_ 6],none⟩
def oB9_8:Oper:=⟨some 42,Op.call { callee:=Callee.value (Operand.func 15),args:=#[Operand.const (Value.string { data:=#[47] }),Operand.tmp 41],argTypes:=#[9,22] },24, "ref.go:61",#[ed_ 7,ec_ 6],none⟩
def oB9_9:Oper:=⟨some 43,Op.call { callee:=Callee.value (Operand.func 25),args:=#[Operand.const (Value.string { data:=#[101,118,97,108,117,97,98,108,101] }),Operand.tmp 42],argTypes:=#[9,24] },24, "ref.go:61",#[ed_ 8,ec_ 8],none⟩
def oB9_10:Oper:=⟨some 44,Op.build 30 #[(1,Operand.tmp 43)],30, "ref.go:61",#[ed_ 9],none⟩
def oB9_11:Oper:=⟨none,Op.store 30 (Operand.tmp 2) (Operand.tmp 44),0, "ref.go:61",#[ed_ 10,ec_ 9,ep_ 0,ep_ 1,ep_ 2,ep_ 3,ep_ 4,ep_ 5,ep_ 6,ep_ 7,ep_ 8,ep_ 9,ep_ 10],none⟩
def OB9:Array Oper:=List.toArray (oB9_0::oB9_1::oB9_2::oB9_3::oB9_4::oB9_5::oB9_6::oB9_7::oB9_8::oB9_9::oB9_10::oB9_11::[])
theorem gB9_0:OB9[0]? = some oB9_0:=rfl
theorem gB9_1:OB9[1]? = some oB9_1:=rfl
theorem gB9_2:OB9[2]? = some oB9_2:=rfl
theorem gB9_3:OB9[3]? = some oB9_3:=rfl
theorem gB9_4:OB9[4]? = some oB9_4:=rfl
theorem gB9_5:OB9[5]? = some oB9_5:=rfl
theorem gB9_6:OB9[6]? = some oB9_6:=rfl
theorem gB9_7:OB9[7]? = some oB9_7:=rfl
theorem gB9_8:OB9[8]? = some oB9_8:=rfl
theorem gB9_9:OB9[9]? = some oB9_9:=rfl
theorem gB9_10:OB9[10]? = some oB9_10:=rfl
theorem gB9_11:OB9[11]? = some oB9_11:=rfl
theorem nsA12_9:Region.noSelect OB9=true:=by kernel_rfl
def cB30:Code:=Code.region 9 OB9 true
def cB29:Code:=Code.seq cB30 Code.ret
def cB28:Code:=Code.cond (Operand.tmp 33) cB29 Code.skip
def cB26:Code:=Code.seq cB27 cB28
def oB10_0:Oper:=⟨some 45,Op.fieldAddr 24 (Operand.tmp 1) 3,0, "ref.go:63",#[],none⟩
def oB10_1:Oper:=⟨some 46,Op.load 22 (Operand.tmp 45),22, "ref.go:63",#[ed_ 0],none⟩
def oB10_2:Oper:=⟨some 47,Op.indexAddr 22 (Operand.tmp 46) (Operand.const (Value.int IntKind.i64 0)),0, "ref.go:63",#[ed_ 1],none⟩
def oB10_3:Oper:=⟨some 48,Op.load 24 (Operand.tmp 47),24, "ref.go:63",#[ed_ 2],none⟩
def oB10_4:Oper:=⟨some 49,Op.call { callee:=Callee.value (Operand.func 12),args:=#[Operand.tmp 48],argTypes:=#[24] },30, "ref.go:63",#[ed_ 3],none⟩
def oB10_5:Oper:=⟨some 3,Op.alloc 30,0, "ref.go:63",#[],none⟩
def oB10_6:Oper:=⟨none,Op.store 30 (Operand.tmp 3) (Operand.tmp 49),0, "ref.go:63",#[ed_ 5,ed_ 4,ec_ 4,ep_ 0,ep_ 1,ep_ 2,ep_ 3,ep_ 4,ep_ 5],none⟩
def OB10:Array Oper:=List.toArray (oB10_0::oB10_1::oB10_2::oB10_3::oB10_4::oB10_5::oB10_6::[])
theorem gB10_0:OB10[0]? = some oB10_0:=rfl
theorem gB10_1:OB10[1]? = some oB10_1:=rfl
theorem gB10_2:OB10[2]? = some oB10_2:=rfl
theorem gB10_3:OB10[3]? = some oB10_3:=rfl
theorem gB10_4:OB10[4]? = some oB10_4:=rfl
theorem gB10_5:OB10[5]? = some oB10_5:=rfl
theorem gB10_6:OB10[6]? = some oB10_6:=rfl
def cB34:Code:=Code.region 10 OB10 false
def oB11_0:Oper:=⟨some 50,Op.fieldAddr 30 (Operand.tmp 3) 2,0, "ref.go:64",#[],none⟩
def oB11_1:Oper:=⟨some 51,Op.load 4 (Operand.tmp 50),4, "ref.go:64",#[ed_ 0],none⟩
def oB11_2:Oper:=⟨some 52,Op.unOp Go.UnOp.not 4 (Operand.tmp 51),4, "ref.go:64",#[ed_ 1],none⟩
def OB11:Array Oper:=List.toArray (oB11_0::oB11_1::oB11_2::[])
theorem gB11_0:OB11[0]? = some oB11_0:=rfl
theorem gB11_1:OB11[1]? = some oB11_1:=rfl
theorem gB11_2:OB11[2]? = some oB11_2:=rfl
def cB37:Code:=Code.region 11 OB11 false
def oB12_0:Oper:=⟨some 53,Op.load 30 (Operand.tmp 3),30, "ref.go:65",#[],none⟩
def oB12_1:Oper:=⟨none,Op.store 30 (Operand.tmp 2) (Operand.tmp 53),0, "ref.go:65",#[ed_ 0,ep_ 0],none⟩
def OB12:Array Oper:=List.toArray (oB12_0::oB12_1::[])
theorem gB12_0:OB12[0]? = some oB12_0:=rfl
theorem gB12_1:OB12[1]? = some oB12_1:=rfl
def cB40:Code:=Code.region 12 OB12 false
def cB39:Code:=Code.seq cB40 Code.ret
def cB38:Code:=Code.cond (Operand.tmp 52) cB39 Code.skip
def cB36:Code:=Code.seq cB37 cB38
def oB13_0:Oper:=⟨some 54,Op.fieldAddr 24 (Operand.tmp 1) 3,0, "ref.go:67",#[],none⟩
def oB13_1:Oper:=⟨some 55,Op.load 22 (Operand.tmp 54),22, "ref.go:67",#[ed_ 0],none⟩
def oB13_2:Oper:=⟨some 56,Op.call { callee:=Callee.builtin Go.Builtin.len,args:=#[Operand.tmp 55],argTypes:=#[22] },3, "ref.go:67",#[ed_ 1],none⟩
def oB13_3:Oper:=⟨some 57,Op.binOp Go.BinOp.eql 3 (Operand.tmp 56) (Operand.const (Value.int IntKind.i64 1)) 3,4, "ref.go:67",#[ed_ 2],none⟩
def OB13:Array Oper:=List.toArray (oB13_0::oB13_1::oB13_2::oB13_3::[])
theorem gB13_0:OB13[0]? = some oB13_0:=rfl
theorem gB13_1:OB13[1]? = some oB13_1:=rfl
theorem gB13_2:OB13[2]? = some oB13_2:=rfl
theorem gB13_3:OB13[3]? = some oB13_3:=rfl
def cB45:Code:=Code.region 13 OB13 false
def oB14_0:Oper:=⟨some 58,Op.fieldAddr 24 (Operand.tmp 1) 1,0, "ref.go:68",#[],none⟩
def oB14_1:Oper:=⟨some 59,Op.load 9 (Operand.tmp 58),9, "ref.go:68",#[ed_ 0],none⟩
def oB14_2:Oper:=⟨some 60,Op.fieldAddr 30 (Operand.tmp 3) 0,0, "ref.go:68",#[],none⟩
def oB14_3:Oper:=⟨some 61,Op.load 2 (Operand.tmp 60),2, "ref.go:68",#[ed_ 2],none⟩
def oB14_4:Oper:=⟨some 62,Op.call { callee:=Callee.value (Operand.func 33),args:=#[Operand.tmp 59,Operand.tmp 61],argTypes:=#[9,2] },30, "ref.go:68",#[ed_ 1,ed_ 3],none⟩
def oB14_5:Oper:=⟨none,Op.store 30 (Operand.tmp 2) (Operand.tmp 62),0, "ref.go:68",#[ed_ 4,ec_ 4,ep_ 0,ep_ 1,ep_ 2,ep_ 3,ep_ 4],none⟩
def OB14:Array Oper:=List.toArray (oB14_0::oB14_1::oB14_2::oB14_3::oB14_4::oB14_5::[])
theorem gB14_0:OB14[0]? = some oB14_0:=rfl
theorem gB14_1:OB14[1]? = some oB14_1:=rfl
theorem gB14_2:OB14[2]? = some oB14_2:=rfl
theorem gB14_3:OB14[3]? = some oB14_3:=rfl
theorem gB14_4:OB14[4]? = some oB14_4:=rfl
theorem gB14_5:OB14[5]? = some oB14_5:=rfl
def cB48:Code:=Code.region 14 OB14 false
def cB47:Code:=Code.seq cB48 Code.ret
def cB46:Code:=Code.cond (Operand.tmp 57) cB47 Code.skip
def cB44:Code:=Code.seq cB45 cB46
def oB15_0:Oper:=⟨some 63,Op.fieldAddr 24 (Operand.tmp 1) 3,0, "ref.go:70",#[],none⟩
def oB15_1:Oper:=⟨some 64,Op.load 22 (Operand.tmp 63),22, "ref.go:70",#[ed_ 0],none⟩
def oB15_2:Oper:=⟨some 65,Op.indexAddr 22 (Operand.tmp 64) (Operand.const (Value.int IntKind.i64 1)),0, "ref.go:70",#[ed_ 1],none⟩
def oB15_3:Oper:=⟨some 66,Op.load 24 (Operand.tmp 65),24, "ref.go:70",#[ed_ 2],none⟩
def oB15_4:Oper:=⟨some 67,Op.call { callee:=Callee.value (Operand.func 12),args:=#[Operand.tmp 66],argTypes:=#[24] },30, "ref.go:70",#[ed_ 3],none⟩
def oB15_5:Oper:=⟨some 4,Op.alloc 30,0, "ref.go:70",#[],none⟩
def oB15_6:Oper:=⟨none,Op.store 30 (Operand.tmp 4) (Operand.tmp 67),0, "ref.go:70",#[ed_ 5,ed_ 4,ec_ 4,ep_ 0,ep_ 1,ep_ 2,ep_ 3,ep_ 4,ep_ 5],none⟩
def OB15:Array Oper:=List.toArray (oB15_0::oB15_1::oB15_2::oB15_3::oB15_4::oB15_5::oB15_6::[])
theorem gB15_0:OB15[0]? = some oB15_0:=rfl
theorem gB15_1:OB15[1]? = some oB15_1:=rfl
theorem gB15_2:OB15[2]? = some oB15_2:=rfl
theorem gB15_3:OB15[3]? = some oB15_3:=rfl
theorem gB15_4:OB15[4]? = some oB15_4:=rfl
theorem gB15_5:OB15[5]? = some oB15_5:=rfl
theorem gB15_6:OB15[6]? = some oB15_6:=rfl
def cB52:Code:=Code.region 15 OB15 false
def oB16_0:Oper:=⟨some 68,Op.fieldAddr 30 (Operand.tmp 4) 2,0, "ref.go:71",#[],none⟩
def oB16_1:Oper:=⟨some 69,Op.load 4 (Operand.tmp 68),4, "ref.go:71",#[ed_ 0],none⟩
def oB16_2:Oper:=⟨some 70,Op.unOp Go.UnOp.not 4 (Operand.tmp 69),4, "ref.go:71",#[ed_ 1],none⟩
def OB16:Array Oper:=List.toArray (oB16_0::oB16_1::oB16_2::[])
theorem gB16_0:OB16[0]? = some oB16_0:=rfl
theorem gB16_1:OB16[1]? = some oB16_1:=rfl
theorem gB16_2:OB16[2]? = some oB16_2:=rfl
def cB55:Code:=Code.region 16 OB16 false
def oB17_0:Oper:=⟨some 71,Op.load 30 (Operand.tmp 4),30, "ref.go:72",#[],none⟩
def oB17_1:Oper:=⟨none,Op.store 30 (Operand.tmp 2) (Operand.tmp 71),0, "ref.go:72",#[ed_ 0,ep_ 0],none⟩
def OB17:Array Oper:=List.toArray (oB17_0::oB17_1::[])
theorem gB17_0:OB17[0]? = some oB17_0:=rfl
theorem gB17_1:OB17[1]? = some oB17_1:=rfl
def cB58:Code:=Code.region 17 OB17 false
def cB57:Code:=Code.seq cB58 Code.ret
def cB56:Code:=Code.cond (Operand.tmp 70) cB57 Code.skip
def cB54:Code:=Code.seq cB55 cB56
def oB18_0:Oper:=⟨some 72,Op.fieldAddr 24 (Operand.tmp 1) 1,0, "ref.go:74",#[],none⟩
def oB18_1:Oper:=⟨some 73,Op.load 9 (Operand.tmp 72),9, "ref.go:74",#[ed_ 0],none⟩
def oB18_2:Oper:=⟨some 74,Op.fieldAddr 30 (Operand.tmp 3) 0,0, "ref.go:74",#[],none⟩
def oB18_3:Oper:=⟨some 75,Op.load 2 (Operand.tmp 74),2, "ref.go:74",#[ed_ 2],none⟩
def oB18_4:Oper:=⟨some 76,Op.fieldAddr 30 (Operand.tmp 4) 0,0, "ref.go:74",#[],none⟩
def oB18_5:Oper:=⟨some 77,Op.load 2 (Operand.tmp 76),2, "ref.go:74",#[ed_ 4],none⟩
def oB18_6:Oper:=⟨some 78,Op.call { callee:=Callee.value (Operand.func 34),args:=#[Operand.tmp 73,Operand.tmp 75,Operand.tmp 77],argTypes:=#[9,2,2] },30, "ref.go:74",#[ed_ 1,ed_ 3,ed_ 5],none⟩
def oB18_7:Oper:=⟨none,Op.store 30 (Operand.tmp 2) (Operand.tmp 78),0, "ref.go:74",#[ed_ 6,ec_ 6,ep_ 0,ep_ 1,ep_ 2,ep_ 3,ep_ 4,ep_ 5,ep_ 6],none⟩
def OB18:Array Oper:=List.toArray (oB18_0::oB18_1::oB18_2::oB18_3::oB18_4::oB18_5::oB18_6::oB18_7::[])
theorem gB18_0:OB18[0]? = some oB18_0:=rfl
theorem gB18_1:OB18[1]? = some oB18_1:=rfl
theorem gB18_2:OB18[2]? = some oB18_2:=rfl
theorem gB18_3:OB18[3]? = some oB18_3:=rfl
theorem gB18_4:OB18[4]? = some oB18_4:=rfl
theorem gB18_5:OB18[5]? = some oB18_5:=rfl
theorem gB18_6:OB18[6]? = some oB18_6:=rfl
theorem gB18_7:OB18[7]? = some oB18_7:=rfl
def cB62:Code:=Code.region 18 OB18 false
def cB61:Code:=Code.seq cB62 Code.ret
def cB53:Code:=Code.seq cB54 cB61
def cB51:Code:=Code.seq cB52 cB53
def cB43:Code:=Code.seq cB44 cB51
def cB35:Code:=Code.seq cB36 cB43
def cB33:Code:=Code.seq cB34 cB35
def cB25:Code:=Code.seq cB26 cB33
def cB2:Code:=Code.seq cB3 cB25
def cB0:Code:=Code.seq cB1 cB2
theorem enA12_12:Enters Try.prog 12:=enters_of Try.func12 (by kernel_rfl) rfl
theorem enA12_16:Enters Try.prog 16:=enters_of Try.func16 (by kernel_rfl) rfl
theorem enA12_20:Enters Try.prog 20:=enters_of Try.func20 (by kernel_rfl) rfl
theorem enA12_23:Enters Try.prog 23:=enters_of Try.func23 (by kernel_rfl) rfl
theorem enA12_31:Enters Try.prog 31:=enters_of Try.func31 (by kernel_rfl) rfl
theorem enA12_32:Enters Try.prog 32:=enters_of Try.func32 (by kernel_rfl) rfl
theorem enA12_33:Enters Try.prog 33:=enters_of Try.func33 (by kernel_rfl) rfl
theorem bodyA12:Try.f12.body=some cB0:=by kernel_rfl
set_option maxRecDepth 100000 in
set_option maxHeartbeats 4000000 in
theorem reval_a {W:World} {t:Tm} {a:Option Addr} {c:Nat} {f0:Act} {w0:World} (R:FrS 79 f0) (h0:f0.tmps[0]? = some (.agg #[.int .i64 t.k,.string (str t.nm),.int .i64 t.i,.slice a t.args.length c])) (K1:Keep (fun g=>g < W.heap.size) W w0)  (HT:Hid (TmAt W.heap.size W t a c)) (HOK:Hid (t.ok=true)) (HNM:Hid (t.nm.length ≤ maxLen)) (HLN:Hid (t.args.length ≤ maxLen)) (HI:Hid ((Lit.int .i64 t.i).wf=true)) (HN64:Hid (t.k=3∨t.k=4→t.nm.length ≤ 64)) (HFN:Hid (t.k=4→isFn t.nm t.args.length=false)):cB0.wp Try.prog (bodyPost Try.prog Try.f12 (fun e w'=>WA (wo t) W e w'∧inR (wo t).v)) f0 w0:=by
 refine wp_seq (x:=cB1) (y:=cB2) ?_
 change (Code.region 0 OB0 false).wp _ _ _ _
 refine reg_in (l:=[0,1]) rfl ?_
 have F:=fe_ R;clear R
 have Y:(execOp f0.eval oB0_0).run Try.prog w0=.ok (.value (.pointer (some ⟨w0.heap.size,0,none⟩))) (w0.alloc (.cells #[.int .i64 t.k,.string (str t.nm),.int .i64 t.i,.slice a t.args.length c] 24)):=by have r0:=F.of h0;unfold oB0_0;go_simp
 have B1:=Blk.new w0 24 #[.int .i64 t.k,.string (str t.nm),.int .i64 t.i,.slice a t.args.length c]
 obtain ⟨w2,hw⟩:∃ x,x=w0.alloc (.cells #[.int .i64 t.k,.string (str t.nm),.int .i64 t.i,.slice a t.args.length c] 24):=⟨_,rfl⟩;rw [← hw] at Y B1
 obtain ⟨b1,hb⟩:∃ x,x=w0.heap.size:=⟨_,rfl⟩;rw [← hb] at Y B1
 have LK1_b1:=lk_ hb K1;replace K1:=ka_ hw K1;clear hw hb
 refine sw_ gB0_0 Y F fun a3 F h1=>?_;clear Y
 have Y:(execOp a3.eval oB0_1).run Try.prog w2=.ok (.value (.pointer (some ⟨w2.heap.size,0,none⟩))) (w2.alloc (.cells #[.int .i64 0,.int .i64 0,.string (⟨#[]⟩),.int .i64 0,.slice none 0 0,.bool false] 30)):=by unfold oB0_1;go_simp
 have B4:=Blk.new w2 30 #[.int .i64 0,.int .i64 0,.string (⟨#[]⟩),.int .i64 0,.slice none 0 0,.bool false]
 obtain ⟨w5,hw⟩:∃ x,x=w2.alloc (.cells #[.int .i64 0,.int .i64 0,.string (⟨#[]⟩),.int .i64 0,.slice none 0 0,.bool false] 30):=⟨_,rfl⟩;rw [← hw] at Y B4
 obtain ⟨b4,hb⟩:∃ x,x=w2.heap.size:=⟨_,rfl⟩;rw [← hb] at Y B4
 have Nb1_b4:=nb_ hb B1;replace B1:=ba_ hw B1;have LK1_b4:=lk_ hb K1;replace K1:=ka_ hw K1;clear hw hb
 refine sv_ gB0_1 Y fun a6 e=>?_;clear Y
 have h2:=pt_ F e;replace F:=pu_ F e;replace h1:=so_ e h1;clear e
 refine st_end ?_
 clear h0;have R:=F.r;clear F
 change (cB2).wp _ _ _ _
 refine wp_seq (x:=cB3) (y:=cB25) ?_
 refine wp_seq (x:=cB4) (y:=cB5) ?_
 change (Code.region 1 OB1 false).wp _ _ _ _
 refine reg_in (l:=[0,1]) rfl ?_
 have F:=fe_ R;clear R
 refine sv_ gB1_0 (yf0_ rfl (F.of h1)) fun a7 e=>?_
 have h5:=pt_ F e;replace F:=pu_ F e;clear e
 refine sv_ gB1_1 (yk0_ rfl h5 B1) fun a8 e=>?_
 clear h5;have h6:=pt_ F e;replace F:=pu_ F e;clear e
 refine st_end ?_
 replace h1:=F.of h1;replace h2:=F.of h2;have R:=F.r;clear F
 change (cB5).wp _ _ _ _
 refine wp_block (id:=0) (c:=cB6) ?_
 refine wp_seq (x:=cB7) (y:=cB8) ?_
 change (Code.region 2 OB2 false).wp _ _ _ _
 refine reg_in (l:=[0,1]) rfl ?_
 have F:=fe_ R;clear R
 obtain ⟨b9,hb9⟩:∃ x,(((t.k:Int) == (2:Int)))=x:=⟨_,rfl⟩
 have Y:(execOp a8.eval oB2_0).run Try.prog w5=.ok (.value (.bool b9)) w5:=by have r6:=F.of h6;rw [← hb9];unfold oB2_0;go_simp
 refine sw_ gB2_0 Y F fun a10 F h8=>?_;clear Y
 refine sv_ gB2_1 (ya_ rfl h8) fun a11 e=>?_
 clear h8;have h7:=pt_ F e;replace F:=pu_ F e;clear e
 refine st_end ?_
 replace h1:=F.of h1;replace h2:=F.of h2;replace h6:=F.of h6;have R:=F.r;clear F
 change (cB8).wp _ _ _ _
 cases b9 with
 | false =>
  have fb9:=hb9;clear hb9
  simp only [dd_] at fb9
  refine wp_cond_false (x:=cB9) (y:=cB12) (eval_slot h7) ?_
  refine wp_seq (x:=cB13) (y:=cB14) ?_
  change (Code.region 4 OB4 false).wp _ _ _ _
  refine reg_in (l:=[0,1]) rfl ?_
  have F:=fe_ R;clear R
  obtain ⟨b12,hb12⟩:∃ x,(((t.k:Int) == (1:Int)))=x:=⟨_,rfl⟩
  have Y:(execOp a11.eval oB4_0).run Try.prog w5=.ok (.value (.bool b12)) w5:=by have r6:=F.of h6;rw [← hb12];unfold oB4_0;go_simp
  refine sw_ gB4_0 Y F fun a13 F h13=>?_;clear Y
  refine sv_ gB4_1 (ya_ rfl h13) fun a14 e=>?_
  clear h13;have h12:=pt_ F e;replace F:=pu_ F e;clear e
  refine st_end ?_
  replace h1:=F.of h1;replace h2:=F.of h2;replace h6:=F.of h6;clear h7;have R:=F.r;clear F
  change (cB14).wp _ _ _ _
  cases b12 with
  | false =>
   have fb12:=hb12;clear hb12
   simp only [dd_] at fb12
   refine wp_cond_false (x:=cB15) (y:=cB18) (eval_slot h12) ?_
   refine wp_seq (x:=cB19) (y:=cB20) ?_
   change (Code.region 6 OB6 false).wp _ _ _ _
   refine reg_in (l:=[0,1]) rfl ?_
   have F:=fe_ R;clear R
   obtain ⟨b15,hb15⟩:∃ x,(((t.k:Int) == (3:Int)))=x:=⟨_,rfl⟩
   have Y:(execOp a14.eval oB6_0).run Try.prog w5=.ok (.value (.bool b15)) w5:=by have r6:=F.of h6;rw [← hb15];unfold oB6_0;go_simp
   refine sw_ gB6_0 Y F fun a16 F h18=>?_;clear Y
   refine sv_ gB6_1 (ya_ rfl h18) fun a17 e=>?_
   clear h18;have h17:=pt_ F e;replace F:=pu_ F e;clear e
   refine st_end ?_
   replace h1:=F.of h1;replace h2:=F.of h2;clear h6;clear h12;have R:=F.r;clear F
   change (cB20).wp _ _ _ _
   cases b15 with
   | false =>
    have fb15:=hb15;clear hb15
    simp only [dd_] at fb15
    refine wp_cond_false (x:=cB21) (y:=Code.skip) (eval_slot h17) ?_
    refine wp_skip ?_
    change (cB25).wp _ _ _ _
    refine wp_seq (x:=cB26) (y:=cB33) ?_
    refine wp_seq (x:=cB27) (y:=cB28) ?_
    change (Code.region 8 OB8 false).wp _ _ _ _
    refine reg_in (l:=[0,1,2,3,4,5,6]) rfl ?_
    have F:=fe_ R;clear R
    refine sv_ gB8_0 (yf1_ rfl (F.of h1)) fun a18 e=>?_
    have h27:=pt_ F e;replace F:=pu_ F e;clear e
    refine sv_ gB8_1 (yk1_ rfl h27 B1) fun a19 e=>?_
    clear h27;have h28:=pt_ F e;replace F:=pu_ F e;clear e
    refine sv_ gB8_2 (yf3_ rfl (F.of h1)) fun a20 e=>?_
    have h29:=pt_ F e;replace F:=pu_ F e;replace h28:=so_ e h28;clear e
    refine sv_ gB8_3 (yk3_ rfl h29 B1) fun a21 e=>?_
    clear h29;have h30:=pt_ F e;replace F:=pu_ F e;replace h28:=so_ e h28;clear e
    have Y:(execOp a21.eval oB8_4).run Try.prog w5=.ok (.value (.int .i64 t.args.length)) w5:=by unfold oB8_4;go_simp
    refine sv_ gB8_4 Y fun a22 e=>?_;clear Y
    clear h30;have h31:=pt_ F e;replace F:=pu_ F e;replace h28:=so_ e h28;clear e
    refine st_call gB8_5 rfl (wanted_free rfl) (yc2_ enA12_32 rfl h28 h31) ((has_sx (HFN.out (by have h9:=Tm.ok_kind HOK.out;omega))).mono ?_)
    rintro e9 w23 ⟨rfl,kk⟩
    replace K1:=keep_onto K1 kk
    replace B1:=blk_on B1 kk
    replace B4:=blk_on B4 kk
    clear kk
    refine ⟨_,rfl,fun a24 e=>?_⟩
    clear h28 h31;have h32:=pt_ F e;replace F:=pu_ F e;clear e
    have Y:(execOp a24.eval oB8_6).run Try.prog w23=.ok (.value (.bool true)) w23:=by unfold oB8_6;go_simp
    refine sw_ gB8_6 Y F fun a25 F h33=>?_;clear Y h32
    refine st_end ?_
    replace h1:=F.of h1;replace h2:=F.of h2;clear h17;have R:=F.r;clear F
    change (cB28).wp _ _ _ _
    refine wp_cond_true (x:=cB29) (y:=Code.skip) (eval_slot h33) ?_
    refine wp_seq (x:=cB30) (y:=Code.ret) ?_
    change (Code.region 9 OB9 true).wp _ _ _ _
    have Xb1:=B1.lt
    have Xb4:=B4.lt
    have D28:=B1
    have D29:=B4
    have K26:=(Keep.refl (fun g=>g < w23.heap.size∧g ≠ b4) w23).drew
    have EK1:=K1
    refine dr_in (S:=(fun W=>Keep (fun g=>g < w23.heap.size∧g ≠ b4) w23 W)) (n:=12) (l:=lb_ 12 0) (by kernel_rfl) K26 rfl (by kernel_rfl) ?_
    replace K1:=K1.drew
    replace B1:=B1.drew
    replace B4:=B4.drew
    generalize w23.drew=w27 at K26 K1 B1 B4 ⊢
    have F:=fe_ R;clear R
    refine dt_ (i:=0) (l':=(lb_ 12 1)) gB9_0 rfl nsA12_9 (wanted_free rfl) K26 (fun _ _=>(yf1_ rfl (F.of h1))) fun a30 e=>?_
    have h34:=pt_ F e;replace F:=pu_ F e;clear e
    refine dt_ (i:=1) (l':=(lb_ 12 3)) gB9_1 rfl nsA12_9 (wanted_free rfl) K26 (fun W7 hS=>(yk1_ rfl h34 (D28.keep hS ⟨Xb1,Nb1_b4⟩))) fun a31 e=>?_
    clear h34;have h35:=pt_ F e;replace F:=pu_ F e;clear e
    refine dt_ (i:=3) (l':=(lb_ 12 11)) gB9_3 rfl nsA12_9 (wanted_free rfl) K26 (fun _ _=>(yf3_ rfl (F.of h1))) fun a32 e=>?_
    have h37:=pt_ F e;replace F:=pu_ F e;replace h35:=so_ e h35;clear e
    refine dt_ (i:=4) (l':=(lb_ 12 27)) gB9_4 rfl nsA12_9 (wanted_free rfl) K26 (fun W7 hS=>(yk3_ rfl h37 (D28.keep hS ⟨Xb1,Nb1_b4⟩))) fun a33 e=>?_
    clear h37;have h38:=pt_ F e;replace F:=pu_ F e;replace h35:=so_ e h35;clear e
    have Y:∀ W,Keep (fun g=>g < w23.heap.size∧g ≠ b4) w23 W→(execOp a33.eval oB9_5).run Try.prog W=.ok (.value (.int .i64 t.args.length)) W:=by intro W7 hS;unfold oB9_5;go_simp
    refine dt_ (i:=5) (l':=(lb_ 12 59)) gB9_5 rfl nsA12_9 (wanted_free rfl) K26 Y fun a34 e=>?_;clear Y
    clear h38;have h39:=pt_ F e;replace F:=pu_ F e;replace h35:=so_ e h35;clear e
    refine dr_only (i:=2) (fuel:=6) (by kernel_rfl) ?_
    refine dr_call (l':=(lb_ 12 63)) gB9_2 rfl (by kernel_rfl) (wanted_free rfl) (yc1_ enA12_20 rfl h35) ((refA_any _ t.nm).mono ?_)
    rintro e9 w35 ⟨rfl,kk⟩
    replace K1:=keep_onto K1 kk
    replace K26:=K26.trans kk.all
    replace B1:=blk_on B1 kk
    replace B4:=blk_on B4 kk
    clear kk
    refine ⟨_,rfl,K26,fun a36 e=>?_⟩
    clear h35;have h36:=pt_ F e;replace F:=pu_ F e;replace h39:=so_ e h39;clear e
    refine dr_only (i:=6) (fuel:=5) (by kernel_rfl) ?_
    refine dr_call (l':=(lb_ 12 127)) gB9_6 rfl (by kernel_rfl) (wanted_free rfl) (yc1_ enA12_16 rfl h39) ((refN_any _ (t.args.length:Int)).mono ?_)
    rintro e9 w37 ⟨rfl,kk⟩
    replace K1:=keep_onto K1 kk
    replace K26:=K26.trans kk.all
    replace B1:=blk_on B1 kk
    replace B4:=blk_on B4 kk
    clear kk
    refine ⟨_,rfl,K26,fun a38 e=>?_⟩
    clear h39;have h40:=pt_ F e;replace F:=pu_ F e;replace h36:=so_ e h36;clear e
    refine dr_only (i:=7) (fuel:=4) (by kernel_rfl) ?_
    have Y:(execOp a38.eval oB9_7).run Try.prog w37=.ok (.value (.slice (some ⟨w37.heap.size,0,none⟩) 2 2)) (w37.alloc (.cells #[.int .i64 ((Tm.node 3 t.nm 0 []).k),.string (str (Tm.node 3 t.nm 0 []).nm),.int .i64 ((Tm.node 3 t.nm 0 []).i),.slice none (Tm.node 3 t.nm 0 []).args.length 0,.int .i64 ((Tm.node 2 [] (t.args.length:Int) []).k),.string (str (Tm.node 2 [] (t.args.length:Int) []).nm),.int .i64 ((Tm.node 2 [] (t.args.length:Int) []).i),.slice none (Tm.node 2 [] (t.args.length:Int) []).args.length 0] 24)):=by unfold oB9_7;go_simp
    have B39:=Blk.new w37 24 #[.int .i64 ((Tm.node 3 t.nm 0 []).k),.string (str (Tm.node 3 t.nm 0 []).nm),.int .i64 ((Tm.node 3 t.nm 0 []).i),.slice none (Tm.node 3 t.nm 0 []).args.length 0,.int .i64 ((Tm.node 2 [] (t.args.length:Int) []).k),.string (str (Tm.node 2 [] (t.args.length:Int) []).nm),.int .i64 ((Tm.node 2 [] (t.args.length:Int) []).i),.slice none (Tm.node 2 [] (t.args.length:Int) []).args.length 0]
    obtain ⟨w40,hw⟩:∃ x,x=w37.alloc (.cells #[.int .i64 ((Tm.node 3 t.nm 0 []).k),.string (str (Tm.node 3 t.nm 0 []).nm),.int .i64 ((Tm.node 3 t.nm 0 []).i),.slice none (Tm.node 3 t.nm 0 []).args.length 0,.int .i64 ((Tm.node 2 [] (t.args.length:Int) []).k),.string (str (Tm.node 2 [] (t.args.length:Int) []).nm),.int .i64 ((Tm.node 2 [] (t.args.length:Int) []).i),.slice none (Tm.node 2 [] (t.args.length:Int) []).args.length 0] 24):=⟨_,rfl⟩;rw [← hw] at Y B39
    obtain ⟨b39,hb⟩:∃ x,x=w37.heap.size:=⟨_,rfl⟩;rw [← hb] at Y B39
    have Nb1_b39:=nb_ hb B1;replace B1:=ba_ hw B1;have Nb4_b39:=nb_ hb B4;replace B4:=ba_ hw B4;have LK1_b39:=lk_ hb K1;replace K1:=ka_ hw K1;have LK26_b39:=lk_ hb K26;replace K26:=ka_ hw K26;clear hw hb
    refine dr_val (l':=(lb_ 12 255)) gB9_7 rfl (by kernel_rfl) (wanted_free rfl) Y K26 fun a41 e=>?_;clear Y
    clear h36 h40;have h41:=pt_ F e;replace F:=pu_ F e;clear e
    refine dr_only (i:=8) (fuel:=3) (by kernel_rfl) ?_
    have Y:(execOp a41.eval oB9_8).run Try.prog w40=.ok (.enter 15 #[.string (⟨#[47]⟩),.slice (some ⟨b39,0,none⟩) 2 2]) w40:=by unfold oB9_8;go_simp
    refine dr_call (l':=(lb_ 12 511)) gB9_8 rfl (by kernel_rfl) (wanted_free rfl) Y ((refC_any _ [47] [Tm.node 3 t.nm 0 [],Tm.node 2 [] (t.args.length:Int) []] (some ⟨b39,0,none⟩) 2).mono ?_);clear Y
    rintro e9 w42 ⟨rfl,kk⟩
    replace K1:=keep_onto K1 kk
    replace K26:=K26.trans kk.all
    replace B1:=blk_on B1 kk
    replace B4:=blk_on B4 kk
    replace B39:=blk_on B39 kk
    clear kk
    refine ⟨_,rfl,K26,fun a43 e=>?_⟩
    clear h41;have h42:=pt_ F e;replace F:=pu_ F e;clear e
    refine dr_only (i:=9) (fuel:=2) (by kernel_rfl) ?_
    have Y:(execOp a43.eval oB9_9).run Try.prog w42=.ok (.enter 25 #[.string (⟨#[101,118,97,108,117,97,98,108,101]⟩),.agg #[.int .i64 ((Tm.node 4 [47] 0 [Tm.node 3 t.nm 0 [],Tm.node 2 [] (t.args.length:Int) []]).k),.string (str (Tm.node 4 [47] 0 [Tm.node 3 t.nm 0 [],Tm.node 2 [] (t.args.length:Int) []]).nm),.int .i64 ((Tm.node 4 [47] 0 [Tm.node 3 t.nm 0 [],Tm.node 2 [] (t.args.length:Int) []]).i),.slice (some ⟨b39,0,none⟩) (Tm.node 4 [47] 0 [Tm.node 3 t.nm 0 [],Tm.node 2 [] (t.args.length:Int) []]).args.length 2]]) w42:=by unfold oB9_9;go_simp
    have ho:OwnP (fun g=>g=b39) w42 (Tm.node 4 [47] 0 [Tm.node 3 t.nm 0 [],Tm.node 2 [] (t.args.length:Int) []]) (some ⟨b39,0,none⟩) 2:=OwnP.comp (ps:=[(Tm.node 3 t.nm 0 [],none,0),(Tm.node 2 [] (t.args.length:Int) [],none,0)]) B39 rfl (fun p hp=>by rcases List.mem_cons.1 hp with rfl | hp;exact .leaf (by decide) (by decide) HNM.out;rw [List.mem_singleton.1 hp];exact .leaf (by decide) (ik_wf (by omega) (by have h8:=HLN.out;unfold maxLen at h8;omega)) (by decide)) (by decide) (Nat.le_of_ble_eq_true rfl)
    have hca:=refType_any (nm:=[101,118,97,108,117,97,98,108,101]) ho (by decide);clear ho;rw [show tyF [101,118,97,108,117,97,98,108,101] (Tm.node 4 [47] 0 [Tm.node 3 t.nm 0 [],Tm.node 2 [] (t.args.length:Int) []])=evF t.nm (t.args.length:Int) from rfl] at hca
    have U9:=B4.lt;have HWX:=K1.size
    refine dr_call (l':=(lb_ 12 1023)) gB9_9 rfl (by kernel_rfl) (wanted_free rfl) Y ((hca).mono ?_);clear Y
    rintro e9 w44 ⟨ax,cx,rfl,hx,kk⟩
    replace K1:=keep_onto K1 kk
    replace K26:=K26.trans kk.all
    replace B1:=blk_on B1 kk
    replace B4:=blk_on B4 kk
    replace B39:=blk_on B39 kk
    clear kk
    clear hca;have HX:=Lib.hid hx;clear hx
    have KX:=Keep.refl (fun g=>(g=b39∨w42.heap.size ≤ g)∧g < w44.heap.size) w44
    refine ⟨_,rfl,K26,fun a45 e=>?_⟩
    clear h42;have h43:=pt_ F e;replace F:=pu_ F e;clear e
    have Y:∀ W,Keep (fun g=>g < w23.heap.size∧g ≠ b4) w23 W→(execOp a45.eval oB9_10).run Try.prog W=.ok (.value (.agg #[.int .i64 0,.int .i64 ((ballT (evF t.nm (t.args.length:Int))).k),.string (str (ballT (evF t.nm (t.args.length:Int))).nm),.int .i64 ((ballT (evF t.nm (t.args.length:Int))).i),.slice ax (ballT (evF t.nm (t.args.length:Int))).args.length cx,.bool false])) W:=by intro W7 hS;unfold oB9_10;go_simp
    refine dt_ (i:=10) (l':=(lb_ 12 2047)) gB9_10 rfl nsA12_9 (wanted_free rfl) K26 Y fun a46 e=>?_;clear Y
    clear h43;have h44:=pt_ F e;replace F:=pu_ F e;clear e
    refine dr_only (i:=11) (fuel:=0) (by kernel_rfl) ?_
    obtain ⟨w47,Y,hk,hB⟩:=ys6_ (o:=oB9_11) rfl (F.of h2) h44 B4
    replace K1:=kx_ hk K1 (Nat.not_lt.2 LK1_b4);replace K26:=kx_ hk K26 (fun hx=>hx.2 rfl);replace KX:=kx_ hk KX (fun hx=>by rcases hx.1 with h | h;exact Nb4_b39 h;exact absurd U9 (Nat.not_lt.2 h));replace B1:=bx_ hk B1 Nb1_b4;replace B39:=bx_ hk B39 (Ne.symm Nb4_b39);clear B4;have B4:=hB;clear hB hk
    refine dr_skip (l':=(lb_ 12 4095)) gB9_11 rfl (by kernel_rfl) (wanted_free rfl) Y K26 ?_;clear Y
    refine dr_end (by kernel_rfl) ?_
    replace h1:=F.of h1;replace h2:=F.of h2;clear h33;clear h44;have R:=F.r;clear F
    clear K26 EK1 D28 D29
    change (Code.ret).wp _ _ _ _
    refine wp_ret ?_
    change bodyPost Try.prog Try.f12 (fun e w'=>WA (wo t) W e w'∧inR (wo t).v) .ret a46 w47
    refine ret_cell6 (fn:=Try.f12) rfl R h2 B4 ?_
    have h9:OwnP (fun g=>W.heap.size ≤ g) _ _ ax cx:=(HX.out.on KX).up (fun g _ h=>by rcases h with h | h;exact h ▸ LK1_b39;exact Nat.le_trans HWX h)
    have hk4:t.k=4:=(by have h9:=Tm.ok_kind HOK.out;omega);rw [wo_n hk4 (HFN.out hk4),ballV_ev (HN64.out (by omega))];exact ⟨⟨ax,cx,rfl,h9,K1⟩,inR_0⟩
   | true =>
    have fb15:=hb15;clear hb15
    simp only [dd_] at fb15
    refine wp_cond_true (x:=cB21) (y:=Code.skip) (eval_slot h17) ?_
    refine wp_seq (x:=cB22) (y:=Code.ret) ?_
    change (Code.region 7 OB7 false).wp _ _ _ _
    refine reg_in (l:=[0,1,2,3,4,5,6,7,8]) rfl ?_
    have F:=fe_ R;clear R
    refine sv_ gB7_0 (yf1_ rfl (F.of h1)) fun a48 e=>?_
    have h19:=pt_ F e;replace F:=pu_ F e;clear e
    refine sv_ gB7_1 (yk1_ rfl h19 B1) fun a49 e=>?_
    clear h19;have h20:=pt_ F e;replace F:=pu_ F e;clear e
    refine st_call gB7_2 rfl (wanted_free rfl) (yc1_ enA12_20 rfl h20) ((refA_any _ t.nm).mono ?_)
    rintro e9 w50 ⟨rfl,kk⟩
    replace K1:=keep_onto K1 kk
    replace B1:=blk_on B1 kk
    replace B4:=blk_on B4 kk
    clear kk
    refine ⟨_,rfl,fun a51 e=>?_⟩
    clear h20;have h21:=pt_ F e;replace F:=pu_ F e;clear e
    have Y:(execOp a51.eval oB7_3).run Try.prog w50=.ok (.enter 16 #[.int .i64 0]) w50:=by unfold oB7_3;go_simp
    refine st_call gB7_3 rfl (wanted_free rfl) Y ((refN_any _ 0).mono ?_);clear Y
    rintro e9 w52 ⟨rfl,kk⟩
    replace K1:=keep_onto K1 kk
    replace B1:=blk_on B1 kk
    replace B4:=blk_on B4 kk
    clear kk
    refine ⟨_,rfl,fun a53 e=>?_⟩
    have h22:=pt_ F e;replace F:=pu_ F e;replace h21:=so_ e h21;clear e
    have Y:(execOp a53.eval oB7_4).run Try.prog w52=.ok (.value (.slice (some ⟨w52.heap.size,0,none⟩) 2 2)) (w52.alloc (.cells #[.int .i64 ((Tm.node 3 t.nm 0 []).k),.string (str (Tm.node 3 t.nm 0 []).nm),.int .i64 ((Tm.node 3 t.nm 0 []).i),.slice none (Tm.node 3 t.nm 0 []).args.length 0,.int .i64 ((Tm.node 2 [] 0 []).k),.string (str (Tm.node 2 [] 0 []).nm),.int .i64 ((Tm.node 2 [] 0 []).i),.slice none (Tm.node 2 [] 0 []).args.length 0] 24)):=by unfold oB7_4;go_simp
    have B54:=Blk.new w52 24 #[.int .i64 ((Tm.node 3 t.nm 0 []).k),.string (str (Tm.node 3 t.nm 0 []).nm),.int .i64 ((Tm.node 3 t.nm 0 []).i),.slice none (Tm.node 3 t.nm 0 []).args.length 0,.int .i64 ((Tm.node 2 [] 0 []).k),.string (str (Tm.node 2 [] 0 []).nm),.int .i64 ((Tm.node 2 [] 0 []).i),.slice none (Tm.node 2 [] 0 []).args.length 0]
    obtain ⟨w55,hw⟩:∃ x,x=w52.alloc (.cells #[.int .i64 ((Tm.node 3 t.nm 0 []).k),.string (str (Tm.node 3 t.nm 0 []).nm),.int .i64 ((Tm.node 3 t.nm 0 []).i),.slice none (Tm.node 3 t.nm 0 []).args.length 0,.int .i64 ((Tm.node 2 [] 0 []).k),.string (str (Tm.node 2 [] 0 []).nm),.int .i64 ((Tm.node 2 [] 0 []).i),.slice none (Tm.node 2 [] 0 []).args.length 0] 24):=⟨_,rfl⟩;rw [← hw] at Y B54
    obtain ⟨b54,hb⟩:∃ x,x=w52.heap.size:=⟨_,rfl⟩;rw [← hb] at Y B54
    have Nb1_b54:=nb_ hb B1;replace B1:=ba_ hw B1;have Nb4_b54:=nb_ hb B4;replace B4:=ba_ hw B4;have LK1_b54:=lk_ hb K1;replace K1:=ka_ hw K1;clear hw hb
    refine sw_ gB7_4 Y F fun a56 F h23=>?_;clear Y h21 h22
    have Y:(execOp a56.eval oB7_5).run Try.prog w55=.ok (.enter 15 #[.string (⟨#[47]⟩),.slice (some ⟨b54,0,none⟩) 2 2]) w55:=by unfold oB7_5;go_simp
    refine st_call gB7_5 rfl (wanted_free rfl) Y ((refC_any _ [47] [Tm.node 3 t.nm 0 [],Tm.node 2 [] 0 []] (some ⟨b54,0,none⟩) 2).mono ?_);clear Y
    rintro e9 w57 ⟨rfl,kk⟩
    replace K1:=keep_onto K1 kk
    replace B1:=blk_on B1 kk
    replace B4:=blk_on B4 kk
    replace B54:=blk_on B54 kk
    clear kk
    refine ⟨_,rfl,fun a58 e=>?_⟩
    clear h23;have h24:=pt_ F e;replace F:=pu_ F e;clear e
    have Y:(execOp a58.eval oB7_6).run Try.prog w57=.ok (.enter 25 #[.string (⟨#[101,118,97,108,117,97,98,108,101]⟩),.agg #[.int .i64 ((Tm.node 4 [47] 0 [Tm.node 3 t.nm 0 [],Tm.node 2 [] 0 []]).k),.string (str (Tm.node 4 [47] 0 [Tm.node 3 t.nm 0 [],Tm.node 2 [] 0 []]).nm),.int .i64 ((Tm.node 4 [47] 0 [Tm.node 3 t.nm 0 [],Tm.node 2 [] 0 []]).i),.slice (some ⟨b54,0,none⟩) (Tm.node 4 [47] 0 [Tm.node 3 t.nm 0 [],Tm.node 2 [] 0 []]).args.length 2]]) w57:=by unfold oB7_6;go_simp
    have ho:OwnP (fun g=>g=b54) w57 (Tm.node 4 [47] 0 [Tm.node 3 t.nm 0 [],Tm.node 2 [] 0 []]) (some ⟨b54,0,none⟩) 2:=OwnP.comp (ps:=[(Tm.node 3 t.nm 0 [],none,0),(Tm.node 2 [] 0 [],none,0)]) B54 rfl (fun p hp=>by rcases List.mem_cons.1 hp with rfl | hp;exact .leaf (by decide) (by decide) HNM.out;rw [List.mem_singleton.1 hp];exact .leaf (by decide) (by decide) (by decide)) (by decide) (Nat.le_of_ble_eq_true rfl)
    have hca:=refType_any (nm:=[101,118,97,108,117,97,98,108,101]) ho (by decide);clear ho;rw [show tyF [101,118,97,108,117,97,98,108,101] (Tm.node 4 [47] 0 [Tm.node 3 t.nm 0 [],Tm.node 2 [] 0 []])=evF t.nm 0 from rfl] at hca
    have U9:=B4.lt;have HWX:=K1.size
    refine st_call gB7_6 rfl (wanted_free rfl) Y ((hca).mono ?_);clear Y
    rintro e9 w59 ⟨ax,cx,rfl,hx,kk⟩
    replace K1:=keep_onto K1 kk
    replace B1:=blk_on B1 kk
    replace B4:=blk_on B4 kk
    replace B54:=blk_on B54 kk
    clear kk
    clear hca;have HX:=Lib.hid hx;clear hx
    have KX:=Keep.refl (fun g=>(g=b54∨w57.heap.size ≤ g)∧g < w59.heap.size) w59
    refine ⟨_,rfl,fun a60 e=>?_⟩
    clear h24;have h25:=pt_ F e;replace F:=pu_ F e;clear e
    have Y:(execOp a60.eval oB7_7).run Try.prog w59=.ok (.value (.agg #[.int .i64 0,.int .i64 ((ballT (evF t.nm 0)).k),.string (str (ballT (evF t.nm 0)).nm),.int .i64 ((ballT (evF t.nm 0)).i),.slice ax (ballT (evF t.nm 0)).args.length cx,.bool false])) w59:=by unfold oB7_7;go_simp
    refine sw_ gB7_7 Y F fun a61 F h26=>?_;clear Y h25
    obtain ⟨w62,Y,hk,hB⟩:=ys6_ (o:=oB7_8) rfl (F.of h2) h26 B4
    replace K1:=kx_ hk K1 (Nat.not_lt.2 LK1_b4);replace KX:=kx_ hk KX (fun hx=>by rcases hx.1 with h | h;exact Nb4_b54 h;exact absurd U9 (Nat.not_lt.2 h));replace B1:=bx_ hk B1 Nb1_b4;replace B54:=bx_ hk B54 (Ne.symm Nb4_b54);clear B4;have B4:=hB;clear hB hk
    refine st_skip gB7_8 rfl (wanted_free rfl) Y ?_;clear Y
    refine st_end ?_
    replace h1:=F.of h1;replace h2:=F.of h2;clear h17;clear h26;have R:=F.r;clear F
    change (Code.ret).wp _ _ _ _
    refine wp_ret ?_
    change bodyPost Try.prog Try.f12 (fun e w'=>WA (wo t) W e w'∧inR (wo t).v) .ret a61 w62
    refine ret_cell6 (fn:=Try.f12) rfl R h2 B4 ?_
    have h9:OwnP (fun g=>W.heap.size ≤ g) _ _ ax cx:=(HX.out.on KX).up (fun g _ h=>by rcases h with h | h;exact h ▸ LK1_b54;exact Nat.le_trans HWX h)
    rw [wo_3 (by assumption),ballV_ev (HN64.out (by omega))];exact ⟨⟨ax,cx,rfl,h9,K1⟩,inR_0⟩
  | true =>
   have fb12:=hb12;clear hb12
   simp only [dd_] at fb12
   refine wp_cond_true (x:=cB15) (y:=cB18) (eval_slot h12) ?_
   refine wp_seq (x:=cB16) (y:=Code.ret) ?_
   change (Code.region 5 OB5 false).wp _ _ _ _
   refine reg_in (l:=[0,1,2,3]) rfl ?_
   have F:=fe_ R;clear R
   have Y:(execOp a14.eval oB5_0).run Try.prog w5=.ok (.enter 20 #[.string (⟨#[105,110,115,116,97,110,116,105,97,116,105,111,110,95,101,114,114,111,114]⟩)]) w5:=by unfold oB5_0;go_simp
   refine st_call gB5_0 rfl (wanted_free rfl) Y ((refA_any _ [105,110,115,116,97,110,116,105,97,116,105,111,110,95,101,114,114,111,114]).mono ?_);clear Y
   rintro e9 w63 ⟨rfl,kk⟩
   replace K1:=keep_onto K1 kk
   replace B1:=blk_on B1 kk
   replace B4:=blk_on B4 kk
   clear kk
   refine ⟨_,rfl,fun a64 e=>?_⟩
   have h14:=pt_ F e;replace F:=pu_ F e;clear e
   have hca:=refBall_any (W:=w63) (P:=fun _=>False) (t:=instF) (a:=none) (c:=0) (.leaf (by decide) (by decide) (by decide))
   have UKX_b1:=B1.lt
   have UKX_b4:=B4.lt
   have HWKX:W.heap.size ≤ w63.heap.size:=K1.size
   refine st_call gB5_1 rfl (wanted_free rfl) (yc1_ enA12_23 rfl h14) ((hca).mono ?_)
   rintro e9 w65 ⟨ax,cx,rfl,hx,kk⟩
   replace K1:=keep_onto K1 kk
   replace B1:=blk_on B1 kk
   replace B4:=blk_on B4 kk
   clear kk
   clear hca;replace hx:=hx.up (fun g _ h=>h.elim False.elim id)
   have HX:=Lib.hid hx;clear hx
   have KX:=Keep.refl (fun g=>w63.heap.size ≤ g∧g < w65.heap.size) w65
   refine ⟨_,rfl,fun a66 e=>?_⟩
   clear h14;have h15:=pt_ F e;replace F:=pu_ F e;clear e
   have Y:(execOp a66.eval oB5_2).run Try.prog w65=.ok (.value (.agg #[.int .i64 0,.int .i64 ((ballT instF).k),.string (str (ballT instF).nm),.int .i64 ((ballT instF).i),.slice ax (ballT instF).args.length cx,.bool false])) w65:=by unfold oB5_2;go_simp
   refine sw_ gB5_2 Y F fun a67 F h16=>?_;clear Y h15
   obtain ⟨w68,Y,hk,hB⟩:=ys6_ (o:=oB5_3) rfl (F.of h2) h16 B4
   replace K1:=kx_ hk K1 (Nat.not_lt.2 LK1_b4);replace KX:=kx_ hk KX (fun hx=>absurd hx.1 (Nat.not_le.2 UKX_b4));replace B1:=bx_ hk B1 Nb1_b4;clear B4;have B4:=hB;clear hB hk
   refine st_skip gB5_3 rfl (wanted_free rfl) Y ?_;clear Y
   refine st_end ?_
   replace h1:=F.of h1;replace h2:=F.of h2;replace h6:=F.of h6;clear h12;clear h16;have R:=F.r;clear F
   change (Code.ret).wp _ _ _ _
   refine wp_ret ?_
   change bodyPost Try.prog Try.f12 (fun e w'=>WA (wo t) W e w'∧inR (wo t).v) .ret a67 w68
   refine ret_cell6 (fn:=Try.f12) rfl R h2 B4 ?_
   rw [wo_1 (by assumption),ballV_inst];exact ⟨⟨ax,cx,rfl,(HX.out.on KX).up (fun g _ h=>Nat.le_trans HWKX h),K1⟩,inR_0⟩
 | true =>
  have fb9:=hb9;clear hb9
  simp only [dd_] at fb9
  refine wp_cond_true (x:=cB9) (y:=cB12) (eval_slot h7) ?_
  refine wp_seq (x:=cB10) (y:=Code.ret) ?_
  change (Code.region 3 OB3 false).wp _ _ _ _
  refine reg_in (l:=[0,1,2,3]) rfl ?_
  have F:=fe_ R;clear R
  refine sv_ gB3_0 (yf2_ rfl (F.of h1)) fun a69 e=>?_
  have h9:=pt_ F e;replace F:=pu_ F e;clear e
  refine sv_ gB3_1 (yk2_ rfl h9 B1) fun a70 e=>?_
  clear h9;have h10:=pt_ F e;replace F:=pu_ F e;clear e
  refine st_call gB3_2 rfl (wanted_free rfl) (yc1_ enA12_31 rfl h10) ((of_any _ (t.i)).mono ?_)
  rintro e9 w71 ⟨rfl,kk⟩
  replace K1:=keep_onto K1 kk
  replace B1:=blk_on B1 kk
  replace B4:=blk_on B4 kk
  clear kk
  refine ⟨_,rfl,fun a72 e=>?_⟩
  clear h10;have h11:=pt_ F e;replace F:=pu_ F e;clear e
  obtain ⟨w73,Y,hk,hB⟩:=ys6_ (o:=oB3_3) rfl (F.of h2) h11 B4
  replace K1:=kx_ hk K1 (Nat.not_lt.2 LK1_b4);replace B1:=bx_ hk B1 Nb1_b4;clear B4;have B4:=hB;clear hB hk
  refine st_skip gB3_3 rfl (wanted_free rfl) Y ?_;clear Y
  refine st_end ?_
  replace h1:=F.of h1;replace h2:=F.of h2;replace h6:=F.of h6;clear h7;clear h11;have R:=F.r;clear F
  change (Code.ret).wp _ _ _ _
  refine wp_ret ?_
  change bodyPost Try.prog Try.f12 (fun e w'=>WA (wo t) W e w'∧inR (wo t).v) .ret a72 w73
  refine ret_cell6 (fn:=Try.f12) rfl R h2 B4 ?_
  rw [wo_2 (by assumption)];exact ⟨⟨none,0,rfl,own_zero,K1⟩,inR_of HI.out⟩
set_option maxRecDepth 100000 in
set_option maxHeartbeats 4000000 in
theorem reval_b {W:World} {t y0:Tm} {a:Option Addr} {c:Nat} {f0:Act} {w0:World} (R:FrS 79 f0) (h0:f0.tmps[0]? = some (.agg #[.int .i64 t.k,.string (str t.nm),.int .i64 t.i,.slice a t.args.length c])) (K1:Keep (fun g=>g < W.heap.size) W w0)  (HT:Hid (TmAt W.heap.size W t a c)) (HOK:Hid (t.ok=true)) (HNM:Hid (t.nm.length ≤ maxLen)) (HLN:Hid (t.args.length ≤ maxLen)) (HI:Hid ((Lit.int .i64 t.i).wf=true)) (HN64:Hid (t.k=3∨t.k=4→t.nm.length ≤ 64)) (HK:Hid (t.k=4)) (HFN:Hid (isFn t.nm t.args.length=true)) (HAR:Hid (t.args=[y0])) (HLEN:Hid (t.args.length=1)) (HIH:Hid (∀ u ∈ t.args,EvC u)):cB0.wp Try.prog (bodyPost Try.prog Try.f12 (fun e w'=>WA (wo t) W e w'∧inR (wo t).v)) f0 w0:=by
 refine wp_seq (x:=cB1) (y:=cB2) ?_
 change (Code.region 0 OB0 false).wp _ _ _ _
 refine reg_in (l:=[0,1]) rfl ?_
 have F:=fe_ R;clear R
 have Y:(execOp f0.eval oB0_0).run Try.prog w0=.ok (.value (.pointer (some ⟨w0.heap.size,0,none⟩))) (w0.alloc (.cells #[.int .i64 t.k,.string (str t.nm),.int .i64 t.i,.slice a t.args.length c] 24)):=by have r0:=F.of h0;unfold oB0_0;go_simp
 have B74:=Blk.new w0 24 #[.int .i64 t.k,.string (str t.nm),.int .i64 t.i,.slice a t.args.length c]
 obtain ⟨w75,hw⟩:∃ x,x=w0.alloc (.cells #[.int .i64 t.k,.string (str t.nm),.int .i64 t.i,.slice a t.args.length c] 24):=⟨_,rfl⟩;rw [← hw] at Y B74
 obtain ⟨b74,hb⟩:∃ x,x=w0.heap.size:=⟨_,rfl⟩;rw [← hb] at Y B74
 have LK1_b74:=lk_ hb K1;replace K1:=ka_ hw K1;clear hw hb
 refine sw_ gB0_0 Y F fun a76 F h1=>?_;clear Y
 have Y:(execOp a76.eval oB0_1).run Try.prog w75=.ok (.value (.pointer (some ⟨w75.heap.size,0,none⟩))) (w75.alloc (.cells #[.int .i64 0,.int .i64 0,.string (⟨#[]⟩),.int .i64 0,.slice none 0 0,.bool false] 30)):=by unfold oB0_1;go_simp
 have B77:=Blk.new w75 30 #[.int .i64 0,.int .i64 0,.string (⟨#[]⟩),.int .i64 0,.slice none 0 0,.bool false]
 obtain ⟨w78,hw⟩:∃ x,x=w75.alloc (.cells #[.int .i64 0,.int .i64 0,.string (⟨#[]⟩),.int .i64 0,.slice none 0 0,.bool false] 30):=⟨_,rfl⟩;rw [← hw] at Y B77
 obtain ⟨b77,hb⟩:∃ x,x=w75.heap.size:=⟨_,rfl⟩;rw [← hb] at Y B77
 have Nb74_b77:=nb_ hb B74;replace B74:=ba_ hw B74;have LK1_b77:=lk_ hb K1;replace K1:=ka_ hw K1;clear hw hb
 refine sv_ gB0_1 Y fun a79 e=>?_;clear Y
 have h2:=pt_ F e;replace F:=pu_ F e;replace h1:=so_ e h1;clear e
 refine st_end ?_
 clear h0;have R:=F.r;clear F
 change (cB2).wp _ _ _ _
 refine wp_seq (x:=cB3) (y:=cB25) ?_
 refine wp_seq (x:=cB4) (y:=cB5) ?_
 change (Code.region 1 OB1 false).wp _ _ _ _
 refine reg_in (l:=[0,1]) rfl ?_
 have F:=fe_ R;clear R
 refine sv_ gB1_0 (yf0_ rfl (F.of h1)) fun a80 e=>?_
 have h5:=pt_ F e;replace F:=pu_ F e;clear e
 refine sv_ gB1_1 (yk0_ rfl h5 B74) fun a81 e=>?_
 clear h5;have h6:=pt_ F e;replace F:=pu_ F e;clear e
 refine st_end ?_
 replace h1:=F.of h1;replace h2:=F.of h2;have R:=F.r;clear F
 change (cB5).wp _ _ _ _
 refine wp_block (id:=0) (c:=cB6) ?_
 refine wp_seq (x:=cB7) (y:=cB8) ?_
 change (Code.region 2 OB2 false).wp _ _ _ _
 refine reg_in (l:=[0,1]) rfl ?_
 have F:=fe_ R;clear R
 have Y:(execOp a81.eval oB2_0).run Try.prog w78=.ok (.value (.bool false)) w78:=by have r6:=F.of h6;have hk:=HK.out;unfold oB2_0;go_simp
 refine sw_ gB2_0 Y F fun a82 F h8=>?_;clear Y
 refine sv_ gB2_1 (ya_ rfl h8) fun a83 e=>?_
 clear h8;have h7:=pt_ F e;replace F:=pu_ F e;clear e
 refine st_end ?_
 replace h1:=F.of h1;replace h2:=F.of h2;replace h6:=F.of h6;have R:=F.r;clear F
 change (cB8).wp _ _ _ _
 refine wp_cond_false (x:=cB9) (y:=cB12) (eval_slot h7) ?_
 refine wp_seq (x:=cB13) (y:=cB14) ?_
 change (Code.region 4 OB4 false).wp _ _ _ _
 refine reg_in (l:=[0,1]) rfl ?_
 have F:=fe_ R;clear R
 have Y:(execOp a83.eval oB4_0).run Try.prog w78=.ok (.value (.bool false)) w78:=by have r6:=F.of h6;have hk:=HK.out;unfold oB4_0;go_simp
 refine sw_ gB4_0 Y F fun a84 F h13=>?_;clear Y
 refine sv_ gB4_1 (ya_ rfl h13) fun a85 e=>?_
 clear h13;have h12:=pt_ F e;replace F:=pu_ F e;clear e
 refine st_end ?_
 replace h1:=F.of h1;replace h2:=F.of h2;replace h6:=F.of h6;clear h7;have R:=F.r;clear F
 change (cB14).wp _ _ _ _
 refine wp_cond_false (x:=cB15) (y:=cB18) (eval_slot h12) ?_
 refine wp_seq (x:=cB19) (y:=cB20) ?_
 change (Code.region 6 OB6 false).wp _ _ _ _
 refine reg_in (l:=[0,1]) rfl ?_
 have F:=fe_ R;clear R
 have Y:(execOp a85.eval oB6_0).run Try.prog w78=.ok (.value (.bool false)) w78:=by have r6:=F.of h6;have hk:=HK.out;unfold oB6_0;go_simp
 refine sw_ gB6_0 Y F fun a86 F h18=>?_;clear Y
 refine sv_ gB6_1 (ya_ rfl h18) fun a87 e=>?_
 clear h18;have h17:=pt_ F e;replace F:=pu_ F e;clear e
 refine st_end ?_
 replace h1:=F.of h1;replace h2:=F.of h2;clear h6;clear h12;have R:=F.r;clear F
 change (cB20).wp _ _ _ _
 refine wp_cond_false (x:=cB21) (y:=Code.skip) (eval_slot h17) ?_
 refine wp_skip ?_
 change (cB25).wp _ _ _ _
 refine wp_seq (x:=cB26) (y:=cB33) ?_
 refine wp_seq (x:=cB27) (y:=cB28) ?_
 change (Code.region 8 OB8 false).wp _ _ _ _
 refine reg_in (l:=[0,1,2,3,4,5,6]) rfl ?_
 have F:=fe_ R;clear R
 refine sv_ gB8_0 (yf1_ rfl (F.of h1)) fun a88 e=>?_
 have h27:=pt_ F e;replace F:=pu_ F e;clear e
 refine sv_ gB8_1 (yk1_ rfl h27 B74) fun a89 e=>?_
 clear h27;have h28:=pt_ F e;replace F:=pu_ F e;clear e
 refine sv_ gB8_2 (yf3_ rfl (F.of h1)) fun a90 e=>?_
 have h29:=pt_ F e;replace F:=pu_ F e;replace h28:=so_ e h28;clear e
 refine sv_ gB8_3 (yk3_ rfl h29 B74) fun a91 e=>?_
 clear h29;have h30:=pt_ F e;replace F:=pu_ F e;replace h28:=so_ e h28;clear e
 have Y:(execOp a91.eval oB8_4).run Try.prog w78=.ok (.value (.int .i64 t.args.length)) w78:=by unfold oB8_4;go_simp
 refine sv_ gB8_4 Y fun a92 e=>?_;clear Y
 clear h30;have h31:=pt_ F e;replace F:=pu_ F e;replace h28:=so_ e h28;clear e
 refine st_call gB8_5 rfl (wanted_free rfl) (yc2_ enA12_32 rfl h28 h31) ((has_sx HFN.out).mono ?_)
 rintro e9 w93 ⟨rfl,kk⟩
 replace K1:=keep_onto K1 kk
 replace B74:=blk_on B74 kk
 replace B77:=blk_on B77 kk
 clear kk
 refine ⟨_,rfl,fun a94 e=>?_⟩
 clear h28 h31;have h32:=pt_ F e;replace F:=pu_ F e;clear e
 have Y:(execOp a94.eval oB8_6).run Try.prog w93=.ok (.value (.bool false)) w93:=by unfold oB8_6;go_simp
 refine sw_ gB8_6 Y F fun a95 F h33=>?_;clear Y h32
 refine st_end ?_
 replace h1:=F.of h1;replace h2:=F.of h2;clear h17;have R:=F.r;clear F
 change (cB28).wp _ _ _ _
 refine wp_cond_false (x:=cB29) (y:=Code.skip) (eval_slot h33) ?_
 refine wp_skip ?_
 change (cB33).wp _ _ _ _
 refine wp_seq (x:=cB34) (y:=cB35) ?_
 change (Code.region 10 OB10 false).wp _ _ _ _
 refine reg_in (l:=[0,1,2,3,4,5,6]) rfl ?_
 have F:=fe_ R;clear R
 refine sv_ gB10_0 (yf3_ rfl (F.of h1)) fun a96 e=>?_
 have h45:=pt_ F e;replace F:=pu_ F e;clear e
 refine sv_ gB10_1 (yk3_ rfl h45 B74) fun a97 e=>?_
 clear h45;have h46:=pt_ F e;replace F:=pu_ F e;clear e
 have hxy0:t.args[0]? = some y0:=by rw [HAR.out];rfl
 obtain ⟨by0,oy0,ay,cy,hA,hbA,hTx,u0,u1,u2,u3⟩:=(HT.out.on K1).arg hxy0
 simp only [← Nat.add_assoc] at u0 u1 u2 u3
 have HUy0:=Lib.hid (And.intro u0 (And.intro u1 (And.intro u2 u3)));clear u0 u1 u2 u3 hxy0 hbA
 have HTXy0:=Lib.hid hTx;clear hTx;have HAy0:=Lib.hid hA;clear hA
 have KY:=Keep.refl (fun g=>g < w93.heap.size) w93
 have Y:(execOp a97.eval oB10_2).run Try.prog w93=.ok (.value (.pointer (some ⟨by0,oy0 + 0 * 4,none⟩))) w93:=by have hA:=HAy0.out;have hln:=HLEN.out;unfold oB10_2;go_simp
 refine sw_ gB10_2 Y F fun a98 F h47=>?_;clear Y h46
 have Y:(execOp a98.eval oB10_3).run Try.prog w93=.ok (.value (.agg #[.int .i64 y0.k,.string (str y0.nm),.int .i64 y0.i,.slice ay y0.args.length cy])) w93:=by obtain ⟨u0,u1,u2,u3⟩:=HUy0.out;simp at u0 u1 u2 u3;unfold oB10_3;go_simp
 refine sw_ gB10_3 Y F fun a99 F h48=>?_;clear Y h47
 have hmem:y0 ∈ t.args:=by rw [HAR.out];simp
 obtain ⟨k0,hk0⟩:∃ q,(wo y0).k=q:=⟨_,rfl⟩
 have hca:=HIH.out y0 hmem w93 ay cy (HTXy0.out.on KY) ((Tm.ok_args HOK.out HK.out).2.2.1 y0 hmem);clear hmem
 unfold WA wv at hca;rw [hk0] at hca;have HK0:=Lib.hid hk0;clear hk0
 have UKXp_b74:=B74.lt
 have UKXp_b77:=B77.lt
 have HWKXp:W.heap.size ≤ w93.heap.size:=K1.size
 refine st_call gB10_4 rfl (wanted_free rfl) (yc1_ enA12_12 rfl h48) ((hca).mono ?_)
 rintro e9 w100 ⟨⟨axp,cxp,rfl,hx,kk⟩,hin⟩
 replace K1:=keep_onto K1 kk
 replace KY:=keep_onto KY kk
 replace B74:=blk_on B74 kk
 replace B77:=blk_on B77 kk
 clear kk
 clear hca;have HIp:=Lib.hid hin;clear hin
 have HXp:=Lib.hid hx;clear hx
 have KXp:=Keep.refl (fun g=>w93.heap.size ≤ g∧g < w100.heap.size) w100
 refine ⟨_,rfl,fun a101 e=>?_⟩
 clear h48;have h49:=pt_ F e;replace F:=pu_ F e;clear e
 have Y:(execOp a101.eval oB10_5).run Try.prog w100=.ok (.value (.pointer (some ⟨w100.heap.size,0,none⟩))) (w100.alloc (.cells #[.int .i64 0,.int .i64 0,.string (⟨#[]⟩),.int .i64 0,.slice none 0 0,.bool false] 30)):=by unfold oB10_5;go_simp
 have B102:=Blk.new w100 30 #[.int .i64 0,.int .i64 0,.string (⟨#[]⟩),.int .i64 0,.slice none 0 0,.bool false]
 obtain ⟨w103,hw⟩:∃ x,x=w100.alloc (.cells #[.int .i64 0,.int .i64 0,.string (⟨#[]⟩),.int .i64 0,.slice none 0 0,.bool false] 30):=⟨_,rfl⟩;rw [← hw] at Y B102
 obtain ⟨b102,hb⟩:∃ x,x=w100.heap.size:=⟨_,rfl⟩;rw [← hb] at Y B102
 have Nb74_b102:=nb_ hb B74;replace B74:=ba_ hw B74;have Nb77_b102:=nb_ hb B77;replace B77:=ba_ hw B77;have LK1_b102:=lk_ hb K1;replace K1:=ka_ hw K1;have LKY_b102:=lk_ hb KY;replace KY:=ka_ hw KY;have LKXp_b102:=lk_ hb KXp;replace KXp:=ka_ hw KXp;clear hw hb
 refine sv_ gB10_5 Y fun a104 e=>?_;clear Y
 have h3:=pt_ F e;replace F:=pu_ F e;replace h49:=so_ e h49;clear e
 obtain ⟨w105,Y,hk,hB⟩:=ys6_ (o:=oB10_6) rfl h3 h49 B102
 replace K1:=kx_ hk K1 (Nat.not_lt.2 LK1_b102);replace KY:=kx_ hk KY (Nat.not_lt.2 LKY_b102);replace KXp:=kx_ hk KXp (fun hx=>absurd hx.2 (Nat.not_lt.2 LKXp_b102));replace B74:=bx_ hk B74 Nb74_b102;replace B77:=bx_ hk B77 Nb77_b102;clear B102;have B102:=hB;clear hB hk
 refine st_skip gB10_6 rfl (wanted_free rfl) Y ?_;clear Y
 refine st_end ?_
 replace h1:=F.of h1;replace h2:=F.of h2;clear h33;clear h49;have R:=F.r;clear F
 change (cB35).wp _ _ _ _
 refine wp_seq (x:=cB36) (y:=cB43) ?_
 refine wp_seq (x:=cB37) (y:=cB38) ?_
 change (Code.region 11 OB11 false).wp _ _ _ _
 refine reg_in (l:=[0,1,2]) rfl ?_
 have F:=fe_ R;clear R
 have Y:(execOp a104.eval oB11_0).run Try.prog w105=.ok (.value (.pointer (some ⟨b102,5,none⟩))) w105:=by have r3:=F.of h3;unfold oB11_0;go_simp
 refine sw_ gB11_0 Y F fun a106 F h50=>?_;clear Y
 have Y:(execOp a106.eval oB11_1).run Try.prog w105=.ok (.value (.bool k0)) w105:=by have qq0:w105.cell? ⟨b102,0,none⟩=some (.int .i64 ((wo y0).v)):=B102.cell 0;have qq1:w105.cell? ⟨b102,1,none⟩=some (.int .i64 ((wo y0).b.k)):=B102.cell 1;have qq2:w105.cell? ⟨b102,2,none⟩=some (.string (str (wo y0).b.nm)):=B102.cell 2;have qq3:w105.cell? ⟨b102,3,none⟩=some (.int .i64 ((wo y0).b.i)):=B102.cell 3;have qq4:w105.cell? ⟨b102,4,none⟩=some (.slice axp (wo y0).b.args.length cxp):=B102.cell 4;have qq5:w105.cell? ⟨b102,5,none⟩=some (.bool k0):=B102.cell 5;unfold oB11_1;go_simp
 refine sw_ gB11_1 Y F fun a107 F h51=>?_;clear Y h50
 cases k0 with
 | false =>
  have Y:(execOp a107.eval oB11_2).run Try.prog w105=.ok (.value (.bool true)) w105:=by unfold oB11_2;go_simp
  refine sw_ gB11_2 Y F fun a108 F h52=>?_;clear Y h51
  refine st_end ?_
  replace h1:=F.of h1;replace h2:=F.of h2;replace h3:=F.of h3;have R:=F.r;clear F
  change (cB38).wp _ _ _ _
  refine wp_cond_true (x:=cB39) (y:=Code.skip) (eval_slot h52) ?_
  refine wp_seq (x:=cB40) (y:=Code.ret) ?_
  change (Code.region 12 OB12 false).wp _ _ _ _
  refine reg_in (l:=[0,1]) rfl ?_
  have F:=fe_ R;clear R
  refine sv_ gB12_0 (yl6_ rfl (F.of h3) B102) fun a109 e=>?_
  have h53:=pt_ F e;replace F:=pu_ F e;clear e
  obtain ⟨w110,Y,hk,hB⟩:=ys6_ (o:=oB12_1) rfl (F.of h2) h53 B77
  replace K1:=kx_ hk K1 (Nat.not_lt.2 LK1_b77);clear KY;replace KXp:=kx_ hk KXp (fun hx=>absurd hx.1 (Nat.not_le.2 UKXp_b77));replace B74:=bx_ hk B74 Nb74_b77;replace B102:=bx_ hk B102 (Ne.symm Nb77_b102);clear B77;have B77:=hB;clear hB hk
  refine st_skip gB12_1 rfl (wanted_free rfl) Y ?_;clear Y
  refine st_end ?_
  replace h1:=F.of h1;replace h2:=F.of h2;replace h3:=F.of h3;clear h52;clear h53;have R:=F.r;clear F
  change (Code.ret).wp _ _ _ _
  refine wp_ret ?_
  change bodyPost Try.prog Try.f12 (fun e w'=>WA (wo t) W e w'∧inR (wo t).v) .ret a109 w110
  refine ret_cell6 (fn:=Try.f12) rfl R h2 B77 ?_
  rw [wo_a0 HK.out HFN.out HAR.out HK0.out];exact ⟨⟨axp,cxp,by unfold wv;rw [HK0.out],(HXp.out.on KXp).up HWKXp,K1⟩,HIp.out⟩
 | true =>
  have Y:(execOp a107.eval oB11_2).run Try.prog w105=.ok (.value (.bool false)) w105:=by unfold oB11_2;go_simp
  refine sw_ gB11_2 Y F fun a111 F h52=>?_;clear Y h51
  refine st_end ?_
  replace h1:=F.of h1;replace h2:=F.of h2;replace h3:=F.of h3;have R:=F.r;clear F
  change (cB38).wp _ _ _ _
  refine wp_cond_false (x:=cB39) (y:=Code.skip) (eval_slot h52) ?_
  refine wp_skip ?_
  change (cB43).wp _ _ _ _
  refine wp_seq (x:=cB44) (y:=cB51) ?_
  refine wp_seq (x:=cB45) (y:=cB46) ?_
  change (Code.region 13 OB13 false).wp _ _ _ _
  refine reg_in (l:=[0,1,2,3]) rfl ?_
  have F:=fe_ R;clear R
  refine sv_ gB13_0 (yf3_ rfl (F.of h1)) fun a112 e=>?_
  have h54:=pt_ F e;replace F:=pu_ F e;clear e
  refine sv_ gB13_1 (yk3_ rfl h54 B74) fun a113 e=>?_
  clear h54;have h55:=pt_ F e;replace F:=pu_ F e;clear e
  have Y:(execOp a113.eval oB13_2).run Try.prog w105=.ok (.value (.int .i64 t.args.length)) w105:=by unfold oB13_2;go_simp
  refine sw_ gB13_2 Y F fun a114 F h56=>?_;clear Y h55
  have Y:(execOp a114.eval oB13_3).run Try.prog w105=.ok (.value (.bool true)) w105:=by have hln:=HLEN.out;unfold oB13_3;go_simp
  refine sw_ gB13_3 Y F fun a115 F h57=>?_;clear Y h56
  refine st_end ?_
  replace h1:=F.of h1;replace h2:=F.of h2;replace h3:=F.of h3;clear h52;have R:=F.r;clear F
  change (cB46).wp _ _ _ _
  refine wp_cond_true (x:=cB47) (y:=Code.skip) (eval_slot h57) ?_
  refine wp_seq (x:=cB48) (y:=Code.ret) ?_
  change (Code.region 14 OB14 false).wp _ _ _ _
  refine reg_in (l:=[0,1,2,3,4,5]) rfl ?_
  have F:=fe_ R;clear R
  refine sv_ gB14_0 (yf1_ rfl (F.of h1)) fun a116 e=>?_
  have h58:=pt_ F e;replace F:=pu_ F e;clear e
  refine sv_ gB14_1 (yk1_ rfl h58 B74) fun a117 e=>?_
  clear h58;have h59:=pt_ F e;replace F:=pu_ F e;clear e
  have Y:(execOp a117.eval oB14_2).run Try.prog w105=.ok (.value (.pointer (some ⟨b102,0,none⟩))) w105:=by have r3:=F.of h3;unfold oB14_2;go_simp
  refine sv_ gB14_2 Y fun a118 e=>?_;clear Y
  have h60:=pt_ F e;replace F:=pu_ F e;replace h59:=so_ e h59;clear e
  have Y:(execOp a118.eval oB14_3).run Try.prog w105=.ok (.value (.int .i64 ((wo y0).v))) w105:=by have qq0:w105.cell? ⟨b102,0,none⟩=some (.int .i64 ((wo y0).v)):=B102.cell 0;have qq1:w105.cell? ⟨b102,1,none⟩=some (.int .i64 ((wo y0).b.k)):=B102.cell 1;have qq2:w105.cell? ⟨b102,2,none⟩=some (.string (str (wo y0).b.nm)):=B102.cell 2;have qq3:w105.cell? ⟨b102,3,none⟩=some (.int .i64 ((wo y0).b.i)):=B102.cell 3;have qq4:w105.cell? ⟨b102,4,none⟩=some (.slice axp (wo y0).b.args.length cxp):=B102.cell 4;have qq5:w105.cell? ⟨b102,5,none⟩=some (.bool true):=B102.cell 5;unfold oB14_3;go_simp
  refine sv_ gB14_3 Y fun a119 e=>?_;clear Y
  clear h60;have h61:=pt_ F e;replace F:=pu_ F e;replace h59:=so_ e h59;clear e
  have hca:=rone_any w105 (nm:=t.nm) HIp.out (by have h:=HFN.out;rw [HLEN.out] at h;exact h)
  have UKXr_b74:=B74.lt
  have UKXr_b77:=B77.lt
  have UKXr_b102:=B102.lt
  have HWKXr:W.heap.size ≤ w105.heap.size:=K1.size
  refine st_call gB14_4 rfl (wanted_free rfl) (yc2_ enA12_33 rfl h59 h61) ((hca).mono ?_)
  rintro e9 w120 ⟨axr,cxr,rfl,hx,kk⟩
  replace K1:=keep_onto K1 kk
  replace KY:=keep_onto KY kk
  replace KXp:=KXp.trans kk.all
  replace B74:=blk_on B74 kk
  replace B77:=blk_on B77 kk
  replace B102:=blk_on B102 kk
  clear kk
  clear hca
  have HXr:=Lib.hid hx;clear hx
  have KXr:=Keep.refl (fun g=>w105.heap.size ≤ g∧g < w120.heap.size) w120
  refine ⟨_,rfl,fun a121 e=>?_⟩
  clear h59 h61;have h62:=pt_ F e;replace F:=pu_ F e;clear e
  obtain ⟨w122,Y,hk,hB⟩:=ys6_ (o:=oB14_5) rfl (F.of h2) h62 B77
  replace K1:=kx_ hk K1 (Nat.not_lt.2 LK1_b77);clear KY;replace KXp:=kx_ hk KXp (fun hx=>absurd hx.1 (Nat.not_le.2 UKXp_b77));replace KXr:=kx_ hk KXr (fun hx=>absurd hx.1 (Nat.not_le.2 UKXr_b77));replace B74:=bx_ hk B74 Nb74_b77;replace B102:=bx_ hk B102 (Ne.symm Nb77_b102);clear B77;have B77:=hB;clear hB hk
  refine st_skip gB14_5 rfl (wanted_free rfl) Y ?_;clear Y
  refine st_end ?_
  replace h1:=F.of h1;replace h2:=F.of h2;replace h3:=F.of h3;clear h57;clear h62;have R:=F.r;clear F
  change (Code.ret).wp _ _ _ _
  refine wp_ret ?_
  change bodyPost Try.prog Try.f12 (fun e w'=>WA (wo t) W e w'∧inR (wo t).v) .ret a121 w122
  refine ret_cell6 (fn:=Try.f12) rfl R h2 B77 ?_
  rw [wo_one HK.out HFN.out HAR.out HK0.out];exact ⟨⟨axr,cxr,rfl,(HXr.out.on KXr).up HWKXr,K1⟩,resW_in (one_in HIp.out)⟩
set_option maxRecDepth 100000 in
set_option maxHeartbeats 4000000 in
theorem reval_c {W:World} {t y0 y1:Tm} {a:Option Addr} {c:Nat} {f0:Act} {w0:World} (R:FrS 79 f0) (h0:f0.tmps[0]? = some (.agg #[.int .i64 t.k,.string (str t.nm),.int .i64 t.i,.slice a t.args.length c])) (K1:Keep (fun g=>g < W.heap.size) W w0)  (HT:Hid (TmAt W.heap.size W t a c)) (HOK:Hid (t.ok=true)) (HNM:Hid (t.nm.length ≤ maxLen)) (HLN:Hid (t.args.length ≤ maxLen)) (HI:Hid ((Lit.int .i64 t.i).wf=true)) (HN64:Hid (t.k=3∨t.k=4→t.nm.length ≤ 64)) (HK:Hid (t.k=4)) (HFN:Hid (isFn t.nm t.args.length=true)) (HAR:Hid (t.args=[y0,y1])) (HLEN:Hid (t.args.length=2)) (HIH:Hid (∀ u ∈ t.args,EvC u)):cB0.wp Try.prog (bodyPost Try.prog Try.f12 (fun e w'=>WA (wo t) W e w'∧inR (wo t).v)) f0 w0:=by
 refine wp_seq (x:=cB1) (y:=cB2) ?_
 change (Code.region 0 OB0 false).wp _ _ _ _
 refine reg_in (l:=[0,1]) rfl ?_
 have F:=fe_ R;clear R
 have Y:(execOp f0.eval oB0_0).run Try.prog w0=.ok (.value (.pointer (some ⟨w0.heap.size,0,none⟩))) (w0.alloc (.cells #[.int .i64 t.k,.string (str t.nm),.int .i64 t.i,.slice a t.args.length c] 24)):=by have r0:=F.of h0;unfold oB0_0;go_simp
 have B123:=Blk.new w0 24 #[.int .i64 t.k,.string (str t.nm),.int .i64 t.i,.slice a t.args.length c]
 obtain ⟨w124,hw⟩:∃ x,x=w0.alloc (.cells #[.int .i64 t.k,.string (str t.nm),.int .i64 t.i,.slice a t.args.length c] 24):=⟨_,rfl⟩;rw [← hw] at Y B123
 obtain ⟨b123,hb⟩:∃ x,x=w0.heap.size:=⟨_,rfl⟩;rw [← hb] at Y B123
 have LK1_b123:=lk_ hb K1;replace K1:=ka_ hw K1;clear hw hb
 refine sw_ gB0_0 Y F fun a125 F h1=>?_;clear Y
 have Y:(execOp a125.eval oB0_1).run Try.prog w124=.ok (.value (.pointer (some ⟨w124.heap.size,0,none⟩))) (w124.alloc (.cells #[.int .i64 0,.int .i64 0,.string (⟨#[]⟩),.int .i64 0,.slice none 0 0,.bool false] 30)):=by unfold oB0_1;go_simp
 have B126:=Blk.new w124 30 #[.int .i64 0,.int .i64 0,.string (⟨#[]⟩),.int .i64 0,.slice none 0 0,.bool false]
 obtain ⟨w127,hw⟩:∃ x,x=w124.alloc (.cells #[.int .i64 0,.int .i64 0,.string (⟨#[]⟩),.int .i64 0,.slice none 0 0,.bool false] 30):=⟨_,rfl⟩;rw [← hw] at Y B126
 obtain ⟨b126,hb⟩:∃ x,x=w124.heap.size:=⟨_,rfl⟩;rw [← hb] at Y B126
 have Nb123_b126:=nb_ hb B123;replace B123:=ba_ hw B123;have LK1_b126:=lk_ hb K1;replace K1:=ka_ hw K1;clear hw hb
 refine sv_ gB0_1 Y fun a128 e=>?_;clear Y
 have h2:=pt_ F e;replace F:=pu_ F e;replace h1:=so_ e h1;clear e
 refine st_end ?_
 clear h0;have R:=F.r;clear F
 change (cB2).wp _ _ _ _
 refine wp_seq (x:=cB3) (y:=cB25) ?_
 refine wp_seq (x:=cB4) (y:=cB5) ?_
 change (Code.region 1 OB1 false).wp _ _ _ _
 refine reg_in (l:=[0,1]) rfl ?_
 have F:=fe_ R;clear R
 refine sv_ gB1_0 (yf0_ rfl (F.of h1)) fun a129 e=>?_
 have h5:=pt_ F e;replace F:=pu_ F e;clear e
 refine sv_ gB1_1 (yk0_ rfl h5 B123) fun a130 e=>?_
 clear h5;have h6:=pt_ F e;replace F:=pu_ F e;clear e
 refine st_end ?_
 replace h1:=F.of h1;replace h2:=F.of h2;have R:=F.r;clear F
 change (cB5).wp _ _ _ _
 refine wp_block (id:=0) (c:=cB6) ?_
 refine wp_seq (x:=cB7) (y:=cB8) ?_
 change (Code.region 2 OB2 false).wp _ _ _ _
 refine reg_in (l:=[0,1]) rfl ?_
 have F:=fe_ R;clear R
 have Y:(execOp a130.eval oB2_0).run Try.prog w127=.ok (.value (.bool false)) w127:=by have r6:=F.of h6;have hk:=HK.out;unfold oB2_0;go_simp
 refine sw_ gB2_0 Y F fun a131 F h8=>?_;clear Y
 refine sv_ gB2_1 (ya_ rfl h8) fun a132 e=>?_
 clear h8;have h7:=pt_ F e;replace F:=pu_ F e;clear e
 refine st_end ?_
 replace h1:=F.of h1;replace h2:=F.of h2;replace h6:=F.of h6;have R:=F.r;clear F
 change (cB8).wp _ _ _ _
 refine wp_cond_false (x:=cB9) (y:=cB12) (eval_slot h7) ?_
 refine wp_seq (x:=cB13) (y:=cB14) ?_
 change (Code.region 4 OB4 false).wp _ _ _ _
 refine reg_in (l:=[0,1]) rfl ?_
 have F:=fe_ R;clear R
 have Y:(execOp a132.eval oB4_0).run Try.prog w127=.ok (.value (.bool false)) w127:=by have r6:=F.of h6;have hk:=HK.out;unfold oB4_0;go_simp
 refine sw_ gB4_0 Y F fun a133 F h13=>?_;clear Y
 refine sv_ gB4_1 (ya_ rfl h13) fun a134 e=>?_
 clear h13;have h12:=pt_ F e;replace F:=pu_ F e;clear e
 refine st_end ?_
 replace h1:=F.of h1;replace h2:=F.of h2;replace h6:=F.of h6;clear h7;have R:=F.r;clear F
 change (cB14).wp _ _ _ _
 refine wp_cond_false (x:=cB15) (y:=cB18) (eval_slot h12) ?_
 refine wp_seq (x:=cB19) (y:=cB20) ?_
 change (Code.region 6 OB6 false).wp _ _ _ _
 refine reg_in (l:=[0,1]) rfl ?_
 have F:=fe_ R;clear R
 have Y:(execOp a134.eval oB6_0).run Try.prog w127=.ok (.value (.bool false)) w127:=by have r6:=F.of h6;have hk:=HK.out;unfold oB6_0;go_simp
 refine sw_ gB6_0 Y F fun a135 F h18=>?_;clear Y
 refine sv_ gB6_1 (ya_ rfl h18) fun a136 e=>?_
 clear h18;have h17:=pt_ F e;replace F:=pu_ F e;clear e
 refine st_end ?_
 replace h1:=F.of h1;replace h2:=F.of h2;clear h6;clear h12;have R:=F.r;clear F
 change (cB20).wp _ _ _ _
 refine wp_cond_false (x:=cB21) (y:=Code.skip) (eval_slot h17) ?_
 refine wp_skip ?_
 change (cB25).wp _ _ _ _
 refine wp_seq (x:=cB26) (y:=cB33) ?_
 refine wp_seq (x:=cB27) (y:=cB28) ?_
 change (Code.region 8 OB8 false).wp _ _ _ _
 refine reg_in (l:=[0,1,2,3,4,5,6]) rfl ?_
 have F:=fe_ R;clear R
 refine sv_ gB8_0 (yf1_ rfl (F.of h1)) fun a137 e=>?_
 have h27:=pt_ F e;replace F:=pu_ F e;clear e
 refine sv_ gB8_1 (yk1_ rfl h27 B123) fun a138 e=>?_
 clear h27;have h28:=pt_ F e;replace F:=pu_ F e;clear e
 refine sv_ gB8_2 (yf3_ rfl (F.of h1)) fun a139 e=>?_
 have h29:=pt_ F e;replace F:=pu_ F e;replace h28:=so_ e h28;clear e
 refine sv_ gB8_3 (yk3_ rfl h29 B123) fun a140 e=>?_
 clear h29;have h30:=pt_ F e;replace F:=pu_ F e;replace h28:=so_ e h28;clear e
 have Y:(execOp a140.eval oB8_4).run Try.prog w127=.ok (.value (.int .i64 t.args.length)) w127:=by unfold oB8_4;go_simp
 refine sv_ gB8_4 Y fun a141 e=>?_;clear Y
 clear h30;have h31:=pt_ F e;replace F:=pu_ F e;replace h28:=so_ e h28;clear e
 refine st_call gB8_5 rfl (wanted_free rfl) (yc2_ enA12_32 rfl h28 h31) ((has_sx HFN.out).mono ?_)
 rintro e9 w142 ⟨rfl,kk⟩
 replace K1:=keep_onto K1 kk
 replace B123:=blk_on B123 kk
 replace B126:=blk_on B126 kk
 clear kk
 refine ⟨_,rfl,fun a143 e=>?_⟩
 clear h28 h31;have h32:=pt_ F e;replace F:=pu_ F e;clear e
 have Y:(execOp a143.eval oB8_6).run Try.prog w142=.ok (.value (.bool false)) w142:=by unfold oB8_6;go_simp
 refine sw_ gB8_6 Y F fun a144 F h33=>?_;clear Y h32
 refine st_end ?_
 replace h1:=F.of h1;replace h2:=F.of h2;clear h17;have R:=F.r;clear F
 change (cB28).wp _ _ _ _
 refine wp_cond_false (x:=cB29) (y:=Code.skip) (eval_slot h33) ?_
 refine wp_skip ?_
 change (cB33).wp _ _ _ _
 refine wp_seq (x:=cB34) (y:=cB35) ?_
 change (Code.region 10 OB10 false).wp _ _ _ _
 refine reg_in (l:=[0,1,2,3,4,5,6]) rfl ?_
 have F:=fe_ R;clear R
 refine sv_ gB10_0 (yf3_ rfl (F.of h1)) fun a145 e=>?_
 have h45:=pt_ F e;replace F:=pu_ F e;clear e
 refine sv_ gB10_1 (yk3_ rfl h45 B123) fun a146 e=>?_
 clear h45;have h46:=pt_ F e;replace F:=pu_ F e;clear e
 have hxy0:t.args[0]? = some y0:=by rw [HAR.out];rfl
 obtain ⟨by0,oy0,ay,cy,hA,hbA,hTx,u0,u1,u2,u3⟩:=(HT.out.on K1).arg hxy0
 simp only [← Nat.add_assoc] at u0 u1 u2 u3
 have HUy0:=Lib.hid (And.intro u0 (And.intro u1 (And.intro u2 u3)));clear u0 u1 u2 u3 hxy0 hbA
 have HTXy0:=Lib.hid hTx;clear hTx;have HAy0:=Lib.hid hA;clear hA
 have KY:=Keep.refl (fun g=>g < w142.heap.size) w142
 have Y:(execOp a146.eval oB10_2).run Try.prog w142=.ok (.value (.pointer (some ⟨by0,oy0 + 0 * 4,none⟩))) w142:=by have hA:=HAy0.out;have hln:=HLEN.out;unfold oB10_2;go_simp
 refine sw_ gB10_2 Y F fun a147 F h47=>?_;clear Y h46
 have Y:(execOp a147.eval oB10_3).run Try.prog w142=.ok (.value (.agg #[.int .i64 y0.k,.string (str y0.nm),.int .i64 y0.i,.slice ay y0.args.length cy])) w142:=by obtain ⟨u0,u1,u2,u3⟩:=HUy0.out;simp at u0 u1 u2 u3;unfold oB10_3;go_simp
 refine sw_ gB10_3 Y F fun a148 F h48=>?_;clear Y h47
 have hmem:y0 ∈ t.args:=by rw [HAR.out];simp
 obtain ⟨k0,hk0⟩:∃ q,(wo y0).k=q:=⟨_,rfl⟩
 have hca:=HIH.out y0 hmem w142 ay cy (HTXy0.out.on KY) ((Tm.ok_args HOK.out HK.out).2.2.1 y0 hmem);clear hmem
 unfold WA wv at hca;rw [hk0] at hca;have HK0:=Lib.hid hk0;clear hk0
 have UKXp_b123:=B123.lt
 have UKXp_b126:=B126.lt
 have HWKXp:W.heap.size ≤ w142.heap.size:=K1.size
 refine st_call gB10_4 rfl (wanted_free rfl) (yc1_ enA12_12 rfl h48) ((hca).mono ?_)
 rintro e9 w149 ⟨⟨axp,cxp,rfl,hx,kk⟩,hin⟩
 replace K1:=keep_onto K1 kk
 replace KY:=keep_onto KY kk
 replace B123:=blk_on B123 kk
 replace B126:=blk_on B126 kk
 clear kk
 clear hca;have HIp:=Lib.hid hin;clear hin
 have HXp:=Lib.hid hx;clear hx
 have KXp:=Keep.refl (fun g=>w142.heap.size ≤ g∧g < w149.heap.size) w149
 refine ⟨_,rfl,fun a150 e=>?_⟩
 clear h48;have h49:=pt_ F e;replace F:=pu_ F e;clear e
 have Y:(execOp a150.eval oB10_5).run Try.prog w149=.ok (.value (.pointer (some ⟨w149.heap.size,0,none⟩))) (w149.alloc (.cells #[.int .i64 0,.int .i64 0,.string (⟨#[]⟩),.int .i64 0,.slice none 0 0,.bool false] 30)):=by unfold oB10_5;go_simp
 have B151:=Blk.new w149 30 #[.int .i64 0,.int .i64 0,.string (⟨#[]⟩),.int .i64 0,.slice none 0 0,.bool false]
 obtain ⟨w152,hw⟩:∃ x,x=w149.alloc (.cells #[.int .i64 0,.int .i64 0,.string (⟨#[]⟩),.int .i64 0,.slice none 0 0,.bool false] 30):=⟨_,rfl⟩;rw [← hw] at Y B151
 obtain ⟨b151,hb⟩:∃ x,x=w149.heap.size:=⟨_,rfl⟩;rw [← hb] at Y B151
 have Nb123_b151:=nb_ hb B123;replace B123:=ba_ hw B123;have Nb126_b151:=nb_ hb B126;replace B126:=ba_ hw B126;have LK1_b151:=lk_ hb K1;replace K1:=ka_ hw K1;have LKY_b151:=lk_ hb KY;replace KY:=ka_ hw KY;have LKXp_b151:=lk_ hb KXp;replace KXp:=ka_ hw KXp;clear hw hb
 refine sv_ gB10_5 Y fun a153 e=>?_;clear Y
 have h3:=pt_ F e;replace F:=pu_ F e;replace h49:=so_ e h49;clear e
 obtain ⟨w154,Y,hk,hB⟩:=ys6_ (o:=oB10_6) rfl h3 h49 B151
 replace K1:=kx_ hk K1 (Nat.not_lt.2 LK1_b151);replace KY:=kx_ hk KY (Nat.not_lt.2 LKY_b151);replace KXp:=kx_ hk KXp (fun hx=>absurd hx.2 (Nat.not_lt.2 LKXp_b151));replace B123:=bx_ hk B123 Nb123_b151;replace B126:=bx_ hk B126 Nb126_b151;clear B151;have B151:=hB;clear hB hk
 refine st_skip gB10_6 rfl (wanted_free rfl) Y ?_;clear Y
 refine st_end ?_
 replace h1:=F.of h1;replace h2:=F.of h2;clear h33;clear h49;have R:=F.r;clear F
 change (cB35).wp _ _ _ _
 refine wp_seq (x:=cB36) (y:=cB43) ?_
 refine wp_seq (x:=cB37) (y:=cB38) ?_
 change (Code.region 11 OB11 false).wp _ _ _ _
 refine reg_in (l:=[0,1,2]) rfl ?_
 have F:=fe_ R;clear R
 have Y:(execOp a153.eval oB11_0).run Try.prog w154=.ok (.value (.pointer (some ⟨b151,5,none⟩))) w154:=by have r3:=F.of h3;unfold oB11_0;go_simp
 refine sw_ gB11_0 Y F fun a155 F h50=>?_;clear Y
 have Y:(execOp a155.eval oB11_1).run Try.prog w154=.ok (.value (.bool k0)) w154:=by have qq0:w154.cell? ⟨b151,0,none⟩=some (.int .i64 ((wo y0).v)):=B151.cell 0;have qq1:w154.cell? ⟨b151,1,none⟩=some (.int .i64 ((wo y0).b.k)):=B151.cell 1;have qq2:w154.cell? ⟨b151,2,none⟩=some (.string (str (wo y0).b.nm)):=B151.cell 2;have qq3:w154.cell? ⟨b151,3,none⟩=some (.int .i64 ((wo y0).b.i)):=B151.cell 3;have qq4:w154.cell? ⟨b151,4,none⟩=some (.slice axp (wo y0).b.args.length cxp):=B151.cell 4;have qq5:w154.cell? ⟨b151,5,none⟩=some (.bool k0):=B151.cell 5;unfold oB11_1;go_simp
 refine sw_ gB11_1 Y F fun a156 F h51=>?_;clear Y h50
 cases k0 with
 | false =>
  have Y:(execOp a156.eval oB11_2).run Try.prog w154=.ok (.value (.bool true)) w154:=by unfold oB11_2;go_simp
  refine sw_ gB11_2 Y F fun a157 F h52=>?_;clear Y h51
  refine st_end ?_
  replace h1:=F.of h1;replace h2:=F.of h2;replace h3:=F.of h3;have R:=F.r;clear F
  change (cB38).wp _ _ _ _
  refine wp_cond_true (x:=cB39) (y:=Code.skip) (eval_slot h52) ?_
  refine wp_seq (x:=cB40) (y:=Code.ret) ?_
  change (Code.region 12 OB12 false).wp _ _ _ _
  refine reg_in (l:=[0,1]) rfl ?_
  have F:=fe_ R;clear R
  refine sv_ gB12_0 (yl6_ rfl (F.of h3) B151) fun a158 e=>?_
  have h53:=pt_ F e;replace F:=pu_ F e;clear e
  obtain ⟨w159,Y,hk,hB⟩:=ys6_ (o:=oB12_1) rfl (F.of h2) h53 B126
  replace K1:=kx_ hk K1 (Nat.not_lt.2 LK1_b126);clear KY;replace KXp:=kx_ hk KXp (fun hx=>absurd hx.1 (Nat.not_le.2 UKXp_b126));replace B123:=bx_ hk B123 Nb123_b126;replace B151:=bx_ hk B151 (Ne.symm Nb126_b151);clear B126;have B126:=hB;clear hB hk
  refine st_skip gB12_1 rfl (wanted_free rfl) Y ?_;clear Y
  refine st_end ?_
  replace h1:=F.of h1;replace h2:=F.of h2;replace h3:=F.of h3;clear h52;clear h53;have R:=F.r;clear F
  change (Code.ret).wp _ _ _ _
  refine wp_ret ?_
  change bodyPost Try.prog Try.f12 (fun e w'=>WA (wo t) W e w'∧inR (wo t).v) .ret a158 w159
  refine ret_cell6 (fn:=Try.f12) rfl R h2 B126 ?_
  rw [wo_a0 HK.out HFN.out HAR.out HK0.out];exact ⟨⟨axp,cxp,by unfold wv;rw [HK0.out],(HXp.out.on KXp).up HWKXp,K1⟩,HIp.out⟩
 | true =>
  have Y:(execOp a156.eval oB11_2).run Try.prog w154=.ok (.value (.bool false)) w154:=by unfold oB11_2;go_simp
  refine sw_ gB11_2 Y F fun a160 F h52=>?_;clear Y h51
  refine st_end ?_
  replace h1:=F.of h1;replace h2:=F.of h2;replace h3:=F.of h3;have R:=F.r;clear F
  change (cB38).wp _ _ _ _
  refine wp_cond_false (x:=cB39) (y:=Code.skip) (eval_slot h52) ?_
  refine wp_skip ?_
  change (cB43).wp _ _ _ _
  refine wp_seq (x:=cB44) (y:=cB51) ?_
  refine wp_seq (x:=cB45) (y:=cB46) ?_
  change (Code.region 13 OB13 false).wp _ _ _ _
  refine reg_in (l:=[0,1,2,3]) rfl ?_
  have F:=fe_ R;clear R
  refine sv_ gB13_0 (yf3_ rfl (F.of h1)) fun a161 e=>?_
  have h54:=pt_ F e;replace F:=pu_ F e;clear e
  refine sv_ gB13_1 (yk3_ rfl h54 B123) fun a162 e=>?_
  clear h54;have h55:=pt_ F e;replace F:=pu_ F e;clear e
  have Y:(execOp a162.eval oB13_2).run Try.prog w154=.ok (.value (.int .i64 t.args.length)) w154:=by unfold oB13_2;go_simp
  refine sw_ gB13_2 Y F fun a163 F h56=>?_;clear Y h55
  have Y:(execOp a163.eval oB13_3).run Try.prog w154=.ok (.value (.bool false)) w154:=by have hln:=HLEN.out;unfold oB13_3;go_simp
  refine sw_ gB13_3 Y F fun a164 F h57=>?_;clear Y h56
  refine st_end ?_
  replace h1:=F.of h1;replace h2:=F.of h2;replace h3:=F.of h3;clear h52;have R:=F.r;clear F
  change (cB46).wp _ _ _ _
  refine wp_cond_false (x:=cB47) (y:=Code.skip) (eval_slot h57) ?_
  refine wp_skip ?_
  change (cB51).wp _ _ _ _
  refine wp_seq (x:=cB52) (y:=cB53) ?_
  change (Code.region 15 OB15 false).wp _ _ _ _
  refine reg_in (l:=[0,1,2,3,4,5,6]) rfl ?_
  have F:=fe_ R;clear R
  refine sv_ gB15_0 (yf3_ rfl (F.of h1)) fun a165 e=>?_
  have h63:=pt_ F e;replace F:=pu_ F e;clear e
  refine sv_ gB15_1 (yk3_ rfl h63 B123) fun a166 e=>?_
  clear h63;have h64:=pt_ F e;replace F:=pu_ F e;clear e
  have hxy1:t.args[1]? = some y1:=by rw [HAR.out];rfl
  obtain ⟨by1,oy1,az,cz,hA,hbA,hTx,u0,u1,u2,u3⟩:=(HT.out.on K1).arg hxy1
  simp only [← Nat.add_assoc] at u0 u1 u2 u3
  have HUy1:=Lib.hid (And.intro u0 (And.intro u1 (And.intro u2 u3)));clear u0 u1 u2 u3 hxy1 hbA
  have HTXy1:=Lib.hid hTx;clear hTx;have HAy1:=Lib.hid hA;clear hA
  have KZ:=Keep.refl (fun g=>g < w154.heap.size) w154
  have Y:(execOp a166.eval oB15_2).run Try.prog w154=.ok (.value (.pointer (some ⟨by1,oy1 + 1 * 4,none⟩))) w154:=by have hA:=HAy1.out;have hln:=HLEN.out;unfold oB15_2;go_simp
  refine sw_ gB15_2 Y F fun a167 F h65=>?_;clear Y h64
  have Y:(execOp a167.eval oB15_3).run Try.prog w154=.ok (.value (.agg #[.int .i64 y1.k,.string (str y1.nm),.int .i64 y1.i,.slice az y1.args.length cz])) w154:=by obtain ⟨u0,u1,u2,u3⟩:=HUy1.out;simp at u0 u1 u2 u3;unfold oB15_3;go_simp
  refine sw_ gB15_3 Y F fun a168 F h66=>?_;clear Y h65
  have hmem:y1 ∈ t.args:=by rw [HAR.out];simp
  obtain ⟨k1,hk1⟩:∃ q,(wo y1).k=q:=⟨_,rfl⟩
  have hca:=HIH.out y1 hmem w154 az cz (HTXy1.out.on KZ) ((Tm.ok_args HOK.out HK.out).2.2.1 y1 hmem);clear hmem
  unfold WA wv at hca;rw [hk1] at hca;have HK1:=Lib.hid hk1;clear hk1
  have UKXq_b123:=B123.lt
  have UKXq_b126:=B126.lt
  have UKXq_b151:=B151.lt
  have HWKXq:W.heap.size ≤ w154.heap.size:=K1.size
  refine st_call gB15_4 rfl (wanted_free rfl) (yc1_ enA12_12 rfl h66) ((hca).mono ?_)
  rintro e9 w169 ⟨⟨axq,cxq,rfl,hx,kk⟩,hin⟩
  replace K1:=keep_onto K1 kk
  replace KY:=keep_onto KY kk
  replace KXp:=KXp.trans kk.all
  replace KZ:=keep_onto KZ kk
  replace B123:=blk_on B123 kk
  replace B126:=blk_on B126 kk
  replace B151:=blk_on B151 kk
  clear kk
  clear hca;have HIq:=Lib.hid hin;clear hin
  have HXq:=Lib.hid hx;clear hx
  have KXq:=Keep.refl (fun g=>w154.heap.size ≤ g∧g < w169.heap.size) w169
  refine ⟨_,rfl,fun a170 e=>?_⟩
  clear h66;have h67:=pt_ F e;replace F:=pu_ F e;clear e
  have Y:(execOp a170.eval oB15_5).run Try.prog w169=.ok (.value (.pointer (some ⟨w169.heap.size,0,none⟩))) (w169.alloc (.cells #[.int .i64 0,.int .i64 0,.string (⟨#[]⟩),.int .i64 0,.slice none 0 0,.bool false] 30)):=by unfold oB15_5;go_simp
  have B171:=Blk.new w169 30 #[.int .i64 0,.int .i64 0,.string (⟨#[]⟩),.int .i64 0,.slice none 0 0,.bool false]
  obtain ⟨w172,hw⟩:∃ x,x=w169.alloc (.cells #[.int .i64 0,.int .i64 0,.string (⟨#[]⟩),.int .i64 0,.slice none 0 0,.bool false] 30):=⟨_,rfl⟩;rw [← hw] at Y B171
  obtain ⟨b171,hb⟩:∃ x,x=w169.heap.size:=⟨_,rfl⟩;rw [← hb] at Y B171
  have Nb123_b171:=nb_ hb B123;replace B123:=ba_ hw B123;have Nb126_b171:=nb_ hb B126;replace B126:=ba_ hw B126;have Nb151_b171:=nb_ hb B151;replace B151:=ba_ hw B151;have LK1_b171:=lk_ hb K1;replace K1:=ka_ hw K1;have LKY_b171:=lk_ hb KY;replace KY:=ka_ hw KY;have LKXp_b171:=lk_ hb KXp;replace KXp:=ka_ hw KXp;have LKZ_b171:=lk_ hb KZ;replace KZ:=ka_ hw KZ;have LKXq_b171:=lk_ hb KXq;replace KXq:=ka_ hw KXq;clear hw hb
  refine sv_ gB15_5 Y fun a173 e=>?_;clear Y
  have h4:=pt_ F e;replace F:=pu_ F e;replace h67:=so_ e h67;clear e
  obtain ⟨w174,Y,hk,hB⟩:=ys6_ (o:=oB15_6) rfl h4 h67 B171
  replace K1:=kx_ hk K1 (Nat.not_lt.2 LK1_b171);replace KY:=kx_ hk KY (Nat.not_lt.2 LKY_b171);replace KXp:=kx_ hk KXp (fun hx=>absurd hx.2 (Nat.not_lt.2 LKXp_b171));replace KZ:=kx_ hk KZ (Nat.not_lt.2 LKZ_b171);replace KXq:=kx_ hk KXq (fun hx=>absurd hx.2 (Nat.not_lt.2 LKXq_b171));replace B123:=bx_ hk B123 Nb123_b171;replace B126:=bx_ hk B126 Nb126_b171;replace B151:=bx_ hk B151 Nb151_b171;clear B171;have B171:=hB;clear hB hk
  refine st_skip gB15_6 rfl (wanted_free rfl) Y ?_;clear Y
  refine st_end ?_
  replace h1:=F.of h1;replace h2:=F.of h2;replace h3:=F.of h3;clear h57;clear h67;have R:=F.r;clear F
  change (cB53).wp _ _ _ _
  refine wp_seq (x:=cB54) (y:=cB61) ?_
  refine wp_seq (x:=cB55) (y:=cB56) ?_
  change (Code.region 16 OB16 false).wp _ _ _ _
  refine reg_in (l:=[0,1,2]) rfl ?_
  have F:=fe_ R;clear R
  have Y:(execOp a173.eval oB16_0).run Try.prog w174=.ok (.value (.pointer (some ⟨b171,5,none⟩))) w174:=by have r4:=F.of h4;unfold oB16_0;go_simp
  refine sw_ gB16_0 Y F fun a175 F h68=>?_;clear Y
  have Y:(execOp a175.eval oB16_1).run Try.prog w174=.ok (.value (.bool k1)) w174:=by have qq0:w174.cell? ⟨b171,0,none⟩=some (.int .i64 ((wo y1).v)):=B171.cell 0;have qq1:w174.cell? ⟨b171,1,none⟩=some (.int .i64 ((wo y1).b.k)):=B171.cell 1;have qq2:w174.cell? ⟨b171,2,none⟩=some (.string (str (wo y1).b.nm)):=B171.cell 2;have qq3:w174.cell? ⟨b171,3,none⟩=some (.int .i64 ((wo y1).b.i)):=B171.cell 3;have qq4:w174.cell? ⟨b171,4,none⟩=some (.slice axq (wo y1).b.args.length cxq):=B171.cell 4;have qq5:w174.cell? ⟨b171,5,none⟩=some (.bool k1):=B171.cell 5;unfold oB16_1;go_simp
  refine sw_ gB16_1 Y F fun a176 F h69=>?_;clear Y h68
  cases k1 with
  | false =>
   have Y:(execOp a176.eval oB16_2).run Try.prog w174=.ok (.value (.bool true)) w174:=by unfold oB16_2;go_simp
   refine sw_ gB16_2 Y F fun a177 F h70=>?_;clear Y h69
   refine st_end ?_
   replace h1:=F.of h1;replace h2:=F.of h2;replace h3:=F.of h3;replace h4:=F.of h4;have R:=F.r;clear F
   change (cB56).wp _ _ _ _
   refine wp_cond_true (x:=cB57) (y:=Code.skip) (eval_slot h70) ?_
   refine wp_seq (x:=cB58) (y:=Code.ret) ?_
   change (Code.region 17 OB17 false).wp _ _ _ _
   refine reg_in (l:=[0,1]) rfl ?_
   have F:=fe_ R;clear R
   refine sv_ gB17_0 (yl6_ rfl (F.of h4) B171) fun a178 e=>?_
   have h71:=pt_ F e;replace F:=pu_ F e;clear e
   obtain ⟨w179,Y,hk,hB⟩:=ys6_ (o:=oB17_1) rfl (F.of h2) h71 B126
   replace K1:=kx_ hk K1 (Nat.not_lt.2 LK1_b126);clear KY;replace KXp:=kx_ hk KXp (fun hx=>absurd hx.1 (Nat.not_le.2 UKXp_b126));clear KZ;replace KXq:=kx_ hk KXq (fun hx=>absurd hx.1 (Nat.not_le.2 UKXq_b126));replace B123:=bx_ hk B123 Nb123_b126;replace B151:=bx_ hk B151 (Ne.symm Nb126_b151);replace B171:=bx_ hk B171 (Ne.symm Nb126_b171);clear B126;have B126:=hB;clear hB hk
   refine st_skip gB17_1 rfl (wanted_free rfl) Y ?_;clear Y
   refine st_end ?_
   replace h1:=F.of h1;replace h2:=F.of h2;replace h3:=F.of h3;replace h4:=F.of h4;clear h70;clear h71;have R:=F.r;clear F
   change (Code.ret).wp _ _ _ _
   refine wp_ret ?_
   change bodyPost Try.prog Try.f12 (fun e w'=>WA (wo t) W e w'∧inR (wo t).v) .ret a178 w179
   refine ret_cell6 (fn:=Try.f12) rfl R h2 B126 ?_
   rw [wo_a1 HK.out HFN.out HAR.out HK0.out HK1.out];exact ⟨⟨axq,cxq,by unfold wv;rw [HK1.out],(HXq.out.on KXq).up HWKXq,K1⟩,HIq.out⟩
  | true =>
   have Y:(execOp a176.eval oB16_2).run Try.prog w174=.ok (.value (.bool false)) w174:=by unfold oB16_2;go_simp
   refine sw_ gB16_2 Y F fun a180 F h70=>?_;clear Y h69
   refine st_end ?_
   replace h1:=F.of h1;replace h2:=F.of h2;replace h3:=F.of h3;replace h4:=F.of h4;have R:=F.r;clear F
   change (cB56).wp _ _ _ _
   refine wp_cond_false (x:=cB57) (y:=Code.skip) (eval_slot h70) ?_
   refine wp_skip ?_
   change (cB61).wp _ _ _ _
   refine wp_seq (x:=cB62) (y:=Code.ret) ?_
   change (Code.region 18 OB18 false).wp _ _ _ _
   refine reg_in (l:=[0,1,2,3,4,5,6,7]) rfl ?_
   have F:=fe_ R;clear R
   refine sv_ gB18_0 (yf1_ rfl (F.of h1)) fun a181 e=>?_
   have h72:=pt_ F e;replace F:=pu_ F e;clear e
   refine sv_ gB18_1 (yk1_ rfl h72 B123) fun a182 e=>?_
   clear h72;have h73:=pt_ F e;replace F:=pu_ F e;clear e
   have Y:(execOp a182.eval oB18_2).run Try.prog w174=.ok (.value (.pointer (some ⟨b151,0,none⟩))) w174:=by have r3:=F.of h3;unfold oB18_2;go_simp
   refine sv_ gB18_2 Y fun a183 e=>?_;clear Y
   have h74:=pt_ F e;replace F:=pu_ F e;replace h73:=so_ e h73;clear e
   have Y:(execOp a183.eval oB18_3).run Try.prog w174=.ok (.value (.int .i64 ((wo y0).v))) w174:=by have qq0:w174.cell? ⟨b151,0,none⟩=some (.int .i64 ((wo y0).v)):=B151.cell 0;have qq1:w174.cell? ⟨b151,1,none⟩=some (.int .i64 ((wo y0).b.k)):=B151.cell 1;have qq2:w174.cell? ⟨b151,2,none⟩=some (.string (str (wo y0).b.nm)):=B151.cell 2;have qq3:w174.cell? ⟨b151,3,none⟩=some (.int .i64 ((wo y0).b.i)):=B151.cell 3;have qq4:w174.cell? ⟨b151,4,none⟩=some (.slice axp (wo y0).b.args.length cxp):=B151.cell 4;have qq5:w174.cell? ⟨b151,5,none⟩=some (.bool true):=B151.cell 5;unfold oB18_3;go_simp
   refine sv_ gB18_3 Y fun a184 e=>?_;clear Y
   clear h74;have h75:=pt_ F e;replace F:=pu_ F e;replace h73:=so_ e h73;clear e
   have Y:(execOp a184.eval oB18_4).run Try.prog w174=.ok (.value (.pointer (some ⟨b171,0,none⟩))) w174:=by have r4:=F.of h4;unfold oB18_4;go_simp
   refine sv_ gB18_4 Y fun a185 e=>?_;clear Y
   have h76:=pt_ F e;replace F:=pu_ F e;replace h73:=so_ e h73;replace h75:=so_ e h75;clear e
   have Y:(execOp a185.eval oB18_5).run Try.prog w174=.ok (.value (.int .i64 ((wo y1).v))) w174:=by have qq0:w174.cell? ⟨b171,0,none⟩=some (.int .i64 ((wo y1).v)):=B171.cell 0;have qq1:w174.cell? ⟨b171,1,none⟩=some (.int .i64 ((wo y1).b.k)):=B171.cell 1;have qq2:w174.cell? ⟨b171,2,none⟩=some (.string (str (wo y1).b.nm)):=B171.cell 2;have qq3:w174.cell? ⟨b171,3,none⟩=some (.int .i64 ((wo y1).b.i)):=B171.cell 3;have qq4:w174.cell? ⟨b171,4,none⟩=some (.slice axq (wo y1).b.args.length cxq):=B171.cell 4;have qq5:w174.cell? ⟨b171,5,none⟩=some (.bool true):=B171.cell 5;unfold oB18_5;go_simp
   refine sv_ gB18_5 Y fun a186 e=>?_;clear Y
   clear h76;have h77:=pt_ F e;replace F:=pu_ F e;replace h73:=so_ e h73;replace h75:=so_ e h75;clear e
   have Y:(execOp a186.eval oB18_6).run Try.prog w174=.ok (.enter 34 #[.string (str t.nm),.int .i64 ((wo y0).v),.int .i64 ((wo y1).v)]) w174:=by unfold oB18_6;go_simp
   have hca:=rtwo_any w174 (nm:=t.nm) HIp.out HIq.out
   have UKXr_b123:=B123.lt
   have UKXr_b126:=B126.lt
   have UKXr_b151:=B151.lt
   have UKXr_b171:=B171.lt
   have HWKXr:W.heap.size ≤ w174.heap.size:=K1.size
   refine st_call gB18_6 rfl (wanted_free rfl) Y ((hca).mono ?_);clear Y
   rintro e9 w187 ⟨axr,cxr,rfl,hx,kk⟩
   replace K1:=keep_onto K1 kk
   replace KY:=keep_onto KY kk
   replace KXp:=KXp.trans kk.all
   replace KZ:=keep_onto KZ kk
   replace KXq:=KXq.trans kk.all
   replace B123:=blk_on B123 kk
   replace B126:=blk_on B126 kk
   replace B151:=blk_on B151 kk
   replace B171:=blk_on B171 kk
   clear kk
   clear hca
   have HXr:=Lib.hid hx;clear hx
   have KXr:=Keep.refl (fun g=>w174.heap.size ≤ g∧g < w187.heap.size) w187
   refine ⟨_,rfl,fun a188 e=>?_⟩
   clear h73 h75 h77;have h78:=pt_ F e;replace F:=pu_ F e;clear e
   obtain ⟨w189,Y,hk,hB⟩:=ys6_ (o:=oB18_7) rfl (F.of h2) h78 B126
   replace K1:=kx_ hk K1 (Nat.not_lt.2 LK1_b126);clear KY;replace KXp:=kx_ hk KXp (fun hx=>absurd hx.1 (Nat.not_le.2 UKXp_b126));clear KZ;replace KXq:=kx_ hk KXq (fun hx=>absurd hx.1 (Nat.not_le.2 UKXq_b126));replace KXr:=kx_ hk KXr (fun hx=>absurd hx.1 (Nat.not_le.2 UKXr_b126));replace B123:=bx_ hk B123 Nb123_b126;replace B151:=bx_ hk B151 (Ne.symm Nb126_b151);replace B171:=bx_ hk B171 (Ne.symm Nb126_b171);clear B126;have B126:=hB;clear hB hk
   refine st_skip gB18_7 rfl (wanted_free rfl) Y ?_;clear Y
   refine st_end ?_
   clear h1;replace h2:=F.of h2;clear h3;clear h4;clear h70;clear h78;have R:=F.r;clear F
   change (Code.ret).wp _ _ _ _
   refine wp_ret ?_
   change bodyPost Try.prog Try.f12 (fun e w'=>WA (wo t) W e w'∧inR (wo t).v) .ret a188 w189
   refine ret_cell6 (fn:=Try.f12) rfl R h2 B126 ?_
   rw [wo_two HK.out HFN.out HAR.out HK0.out HK1.out];exact ⟨⟨axr,cxr,rfl,(HXr.out.on KXr).up HWKXr,K1⟩,resW_in (two_in HIp.out HIq.out)⟩
theorem refEval_any:∀ t:Tm,EvC t:=by
  intro t
  induction t using Tm.ind with
  | h k nm i args ih =>
    intro W a c hT hok
    obtain ⟨h1,h2,h3⟩:=tmAt_bounds hT
    have h64:(Tm.node k nm i args).k=3∨(Tm.node k nm i args).k=4→(Tm.node k nm i args).nm.length ≤ 64:=by
      rintro (h | h) <;> (simp only [Tm.k] at h;subst h;simp [Tm.ok] at hok;simp [Tm.nm];omega)
    refine enter_sx Try.func12 bodyA12 rfl (by show (1:Nat) ≤ 79;decide) fun f0 R hs=>?_
    by_cases hf:(Tm.node k nm i args).k=4∧isFn (Tm.node k nm i args).nm (Tm.node k nm i args).args.length=true
    · have hl:=isFn_two hf.2
      have ho:=(Tm.ok_args hok hf.1).1
      match args,hl,ho with
      | [y],_,_=>exact reval_b R (hs 0 _ rfl) (Keep.refl _ W) (Lib.hid hT) (Lib.hid hok) (Lib.hid h1) (Lib.hid h2) (Lib.hid h3) (Lib.hid h64) (Lib.hid hf.1) (Lib.hid hf.2) (Lib.hid rfl) (Lib.hid rfl) (Lib.hid ih)
      | [y,z],_,_=>exact reval_c R (hs 0 _ rfl) (Keep.refl _ W) (Lib.hid hT) (Lib.hid hok) (Lib.hid h1) (Lib.hid h2) (Lib.hid h3) (Lib.hid h64) (Lib.hid hf.1) (Lib.hid hf.2) (Lib.hid rfl) (Lib.hid rfl) (Lib.hid ih)
    · exact reval_a R (hs 0 _ rfl) (Keep.refl _ W) (Lib.hid hT) (Lib.hid hok) (Lib.hid h1) (Lib.hid h2) (Lib.hid h3) (Lib.hid h64) (Lib.hid fun h4=>by
        cases hq:isFn (Tm.node k nm i args).nm (Tm.node k nm i args).args.length with
        | false=>rfl
        | true=>exact absurd ⟨h4,hq⟩ hf)
end Go.Proofs.Ytmgephleogiaoaa
