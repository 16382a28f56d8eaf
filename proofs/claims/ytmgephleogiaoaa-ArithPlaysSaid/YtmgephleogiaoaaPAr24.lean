/-
  What the document's Eval answers. No condition but where the term lies.
-/
import Derived.Test.YtmgephleogiaoaaPAr23
import Derived.Test.YtmgephleogiaoaaPAr19
namespace Go.Proofs.Ytmgephleogiaoaa
open Go.RowKit Go.Maps
set_option linter.unusedVariables false
set_option linter.unusedSimpArgs false
theorem fn_other {nm:List UInt8} {n:Nat} (h1:¬ n=1) (h2:¬ n=2):isFn nm n=false:=by
  have a1:(n == 1)=false:=by rw [beq_eq_false_iff_ne];exact h1
  have a2:(n == 2)=false:=by rw [beq_eq_false_iff_ne];exact h2
  unfold isFn
  simp [a1,a2]
def TW:List (List UInt8):=[[43],[45],[42],[47,47],[114,101,109],[109,111,100],[109,105,110],[109,97,120],[47,92],[92,47],[120,111,114],[62,62],[60,60],[94],[42,42]]
theorem tw_cell:∀ j,j < 15→(#[.string ⟨#[43]⟩,.string ⟨#[45]⟩,.string ⟨#[42]⟩,.string ⟨#[47,47]⟩,.string ⟨#[114,101,109]⟩,.string ⟨#[109,111,100]⟩,.string ⟨#[109,105,110]⟩,.string ⟨#[109,97,120]⟩,.string ⟨#[47,92]⟩,.string ⟨#[92,47]⟩,.string ⟨#[120,111,114]⟩,.string ⟨#[62,62]⟩,.string ⟨#[60,60]⟩,.string ⟨#[94]⟩,.string ⟨#[42,42]⟩]:Array Value)[j]? = some (.string (str (TW.getD j []))):=by
  intro j hj
  match j,hj with
  | 0,_=>rfl
  | 1,_=>rfl
  | 2,_=>rfl
  | 3,_=>rfl
  | 4,_=>rfl
  | 5,_=>rfl
  | 6,_=>rfl
  | 7,_=>rfl
  | 8,_=>rfl
  | 9,_=>rfl
  | 10,_=>rfl
  | 11,_=>rfl
  | 12,_=>rfl
  | 13,_=>rfl
  | 14,_=>rfl
  | n + 15,h=>omega
theorem tw_fn:∀ j,j < 15→isFn (TW.getD j []) 2=true:=by
  intro j hj
  match j,hj with
  | 0,_=>rfl
  | 1,_=>rfl
  | 2,_=>rfl
  | 3,_=>rfl
  | 4,_=>rfl
  | 5,_=>rfl
  | 6,_=>rfl
  | 7,_=>rfl
  | 8,_=>rfl
  | 9,_=>rfl
  | 10,_=>rfl
  | 11,_=>rfl
  | 12,_=>rfl
  | 13,_=>rfl
  | 14,_=>rfl
  | n + 15,h=>omega
theorem tw_no' {nm:List UInt8} (h0:¬ nm=[43]) (h1:¬ nm=[45]) (h2:¬ nm=[42]) (h3:¬ nm=[47,47]) (h4:¬ nm=[114,101,109]) (h5:¬ nm=[109,111,100]) (h6:¬ nm=[109,105,110]) (h7:¬ nm=[109,97,120]) (h8:¬ nm=[47,92]) (h9:¬ nm=[92,47]) (h10:¬ nm=[120,111,114]) (h11:¬ nm=[62,62]) (h12:¬ nm=[60,60]) (h13:¬ nm=[94]) (h14:¬ nm=[42,42]):isFn nm 2=false:=by
  simp [isFn, *]
theorem tw_no {nm:List UInt8} (h:∀ i,i < 15→¬ TW.getD i []=nm):isFn nm 2=false :=
  have h':∀ i,i < 15→¬ nm=TW.getD i []:=fun i hi e=>h i hi e.symm
  tw_no' (h' 0 (by decide)) (h' 1 (by decide)) (h' 2 (by decide)) (h' 3 (by decide)) (h' 4 (by decide)) (h' 5 (by decide)) (h' 6 (by decide)) (h' 7 (by decide)) (h' 8 (by decide)) (h' 9 (by decide)) (h' 10 (by decide)) (h' 11 (by decide)) (h' 12 (by decide)) (h' 13 (by decide)) (h' 14 (by decide))
theorem rone_sign {a v:Int} (h:v=cmpZ a 0):resW (oneR [115,105,103,110] a)=.num v:=by subst h;rfl
def oA32_0_0:Oper:=⟨some 4,Op.assign (Operand.const (Value.bool false)),4, "ref.go:34",#[],none⟩
def OA32_0:Array Oper:=List.toArray (oA32_0_0::[])
theorem gA32_0_0:OA32_0[0]? = some oA32_0_0:=rfl
def cA32_1:Code:=Code.region 0 OA32_0 false
def oA32_1_0:Oper:=⟨some 7,Op.move (Operand.tmp 1),3, "ref.go:35",#[],none⟩
def oA32_1_1:Oper:=⟨some 8,Op.binOp Go.BinOp.eql 3 (Operand.tmp 7) (Operand.const (Value.int IntKind.i64 1)) 3,4, "ref.go:35",#[ed_ 0],none⟩
def OA32_1:Array Oper:=List.toArray (oA32_1_0::oA32_1_1::[])
theorem gA32_1_0:OA32_1[0]? = some oA32_1_0:=rfl
theorem gA32_1_1:OA32_1[1]? = some oA32_1_1:=rfl
def cA32_4:Code:=Code.region 1 OA32_1 false
def oA32_2_0:Oper:=⟨some 9,Op.move (Operand.tmp 0),9, "ref.go:36",#[],none⟩
def oA32_2_1:Oper:=⟨some 10,Op.binOp Go.BinOp.eql 9 (Operand.tmp 9) (Operand.const (Value.string { data:=#[43] })) 9,4, "ref.go:36",#[ed_ 0],none⟩
def oA32_2_2:Oper:=⟨some 11,Op.move (Operand.tmp 10),4, "ref.go:36",#[ed_ 1],none⟩
def oA32_2_3:Oper:=⟨some 12,Op.move (Operand.tmp 0),9, "ref.go:36",#[eg_ 2],some (2,false)⟩
def oA32_2_4:Oper:=⟨some 13,Op.binOp Go.BinOp.eql 9 (Operand.tmp 12) (Operand.const (Value.string { data:=#[45] })) 9,4, "ref.go:36",#[ed_ 3,eg_ 2],some (2,false)⟩
def oA32_2_5:Oper:=⟨some 14,Op.pick (Operand.tmp 11) (Operand.const (Value.bool true)) (Operand.tmp 13),4, "ref.go:36",#[ed_ 2,ed_ 4],none⟩
def oA32_2_6:Oper:=⟨some 15,Op.move (Operand.tmp 14),4, "ref.go:36",#[ed_ 5,ec_ 2],none⟩
def oA32_2_7:Oper:=⟨some 16,Op.move (Operand.tmp 0),9, "ref.go:36",#[eg_ 6],some (6,false)⟩
def oA32_2_8:Oper:=⟨some 17,Op.binOp Go.BinOp.eql 9 (Operand.tmp 16) (Operand.const (Value.string { data:=#[97,98,115] })) 9,4, "ref.go:36",#[ed_ 7,eg_ 6],some (6,false)⟩
def oA32_2_9:Oper:=⟨some 18,Op.pick (Operand.tmp 15) (Operand.const (Value.bool true)) (Operand.tmp 17),4, "ref.go:36",#[ed_ 6,ed_ 8],none⟩
def oA32_2_10:Oper:=⟨some 19,Op.move (Operand.tmp 18),4, "ref.go:36",#[ed_ 9,ec_ 6],none⟩
def oA32_2_11:Oper:=⟨some 20,Op.move (Operand.tmp 0),9, "ref.go:36",#[eg_ 10],some (10,false)⟩
def oA32_2_12:Oper:=⟨some 21,Op.binOp Go.BinOp.eql 9 (Operand.tmp 20) (Operand.const (Value.string { data:=#[115,105,103,110] })) 9,4, "ref.go:36",#[ed_ 11,eg_ 10],some (10,false)⟩
def oA32_2_13:Oper:=⟨some 22,Op.pick (Operand.tmp 19) (Operand.const (Value.bool true)) (Operand.tmp 21),4, "ref.go:36",#[ed_ 10,ed_ 12],none⟩
def oA32_2_14:Oper:=⟨some 23,Op.move (Operand.tmp 22),4, "ref.go:36",#[ed_ 13,ec_ 10],none⟩
def oA32_2_15:Oper:=⟨some 24,Op.move (Operand.tmp 0),9, "ref.go:36",#[eg_ 14],some (14,false)⟩
def oA32_2_16:Oper:=⟨some 25,Op.binOp Go.BinOp.eql 9 (Operand.tmp 24) (Operand.const (Value.string { data:=#[92] })) 9,4, "ref.go:36",#[ed_ 15,eg_ 14],some (14,false)⟩
def oA32_2_17:Oper:=⟨some 26,Op.pick (Operand.tmp 23) (Operand.const (Value.bool true)) (Operand.tmp 25),4, "ref.go:36",#[ed_ 14,ed_ 16],none⟩
def oA32_2_18:Oper:=⟨some 4,Op.assign (Operand.tmp 26),4, "ref.go:36",#[ed_ 17,ec_ 14,ep_ 0,ep_ 1,ep_ 2,ep_ 3,ep_ 4,ep_ 5,ep_ 6,ep_ 7,ep_ 8,ep_ 9,ep_ 10,ep_ 11,ep_ 12,ep_ 13,ep_ 14,ep_ 15,ep_ 16,ep_ 17],none⟩
def OA32_2:Array Oper:=List.toArray (oA32_2_0::oA32_2_1::oA32_2_2::oA32_2_3::oA32_2_4::oA32_2_5::oA32_2_6::oA32_2_7::oA32_2_8::oA32_2_9::oA32_2_10::oA32_2_11::oA32_2_12::oA32_2_13::oA32_2_14::oA32_2_15::oA32_2_16::oA32_2_17::oA32_2_18::[])
theorem gA32_2_0:OA32_2[0]? = some oA32_2_0:=rfl
theorem gA32_2_1:OA32_2[1]? = some oA32_2_1:=rfl
theorem gA32_2_2:OA32_2[2]? = some oA32_2_2:=rfl
theorem gA32_2_3:OA32_2[3]? = some oA32_2_3:=rfl
theorem gA32_2_4:OA32_2[4]? = some oA32_2_4:=rfl
theorem gA32_2_5:OA32_2[5]? = some oA32_2_5:=rfl
theorem gA32_2_6:OA32_2[6]? = some oA32_2_6:=rfl
theorem gA32_2_7:OA32_2[7]? = some oA32_2_7:=rfl
theorem gA32_2_8:OA32_2[8]? = some oA32_2_8:=rfl
theorem gA32_2_9:OA32_2[9]? = some oA32_2_9:=rfl
theorem gA32_2_10:OA32_2[10]? = some oA32_2_10:=rfl
theorem gA32_2_11:OA32_2[11]? = some oA32_2_11:=rfl
theorem gA32_2_12:OA32_2[12]? = some oA32_2_12:=rfl
theorem gA32_2_13:OA32_2[13]? = some oA32_2_13:=rfl
theorem gA32_2_14:OA32_2[14]? = some oA32_2_14:=rfl
theorem gA32_2_15:OA32_2[15]? = some oA32_2_15:=rfl
theorem gA32_2_16:OA32_2[16]? = some oA32_2_16:=rfl
theorem gA32_2_17:OA32_2[17]? = some oA32_2_17:=rfl
theorem gA32_2_18:OA32_2[18]? = some oA32_2_18:=rfl
def cA32_7:Code:=Code.region 2 OA32_2 false
def cA32_6:Code:=Code.seq cA32_7 Code.ret
def cA32_5:Code:=Code.cond (Operand.tmp 8) cA32_6 Code.skip
def cA32_3:Code:=Code.seq cA32_4 cA32_5
def oA32_3_0:Oper:=⟨some 27,Op.move (Operand.tmp 1),3, "ref.go:38",#[],none⟩
def oA32_3_1:Oper:=⟨some 28,Op.binOp Go.BinOp.neq 3 (Operand.tmp 27) (Operand.const (Value.int IntKind.i64 2)) 3,4, "ref.go:38",#[ed_ 0],none⟩
def OA32_3:Array Oper:=List.toArray (oA32_3_0::oA32_3_1::[])
theorem gA32_3_0:OA32_3[0]? = some oA32_3_0:=rfl
theorem gA32_3_1:OA32_3[1]? = some oA32_3_1:=rfl
def cA32_12:Code:=Code.region 3 OA32_3 false
def oA32_4_0:Oper:=⟨some 4,Op.assign (Operand.const (Value.bool false)),4, "ref.go:39",#[],none⟩
def OA32_4:Array Oper:=List.toArray (oA32_4_0::[])
theorem gA32_4_0:OA32_4[0]? = some oA32_4_0:=rfl
def cA32_15:Code:=Code.region 4 OA32_4 false
def cA32_14:Code:=Code.seq cA32_15 Code.ret
def cA32_13:Code:=Code.cond (Operand.tmp 28) cA32_14 Code.skip
def cA32_11:Code:=Code.seq cA32_12 cA32_13
def oA32_5_0:Oper:=⟨some 29,Op.buildSlice 63 15 #[(0,Operand.const (Value.string { data:=#[43] })),(1,Operand.const (Value.string { data:=#[45] })),(2,Operand.const (Value.string { data:=#[42] })),(3,Operand.const (Value.string { data:=#[47,47] })),(4,Operand.const (Value.string { data:=#[114,101,109] })),(5,Operand.const (Value.string { data:=#[109,111,100] })),(6,Operand.const (Value.string { data:=#[109,105,110] })),(7,Operand.const (Value.string { data:=#[109,97,120] })),(8,Operand.const (Value.string { data:=#[47,92] })),(9,Operand.const (Value.string { data:=#[92,47] })),(10,Operand.const (Value.string { data:=#[120,111,114] })),(11,Operand.const (Value.string { data:=#[62,62] })),(12,Operand.const (Value.string { data:=#[60,60] })),(13,Operand.const (Value.string { data:=#[94] })),(14,Operand.const (Value.string { data:=#[42,42] }))],63, "ref.go:41",#[],none⟩
def oA32_5_1:Oper:=⟨some 5,Op.assign (Operand.tmp 29),63, "ref.go:41",#[ed_ 0,ep_ 0],none⟩
def OA32_5:Array Oper:=List.toArray (oA32_5_0::oA32_5_1::[])
theorem gA32_5_0:OA32_5[0]? = some oA32_5_0:=rfl
theorem gA32_5_1:OA32_5[1]? = some oA32_5_1:=rfl
def cA32_19:Code:=Code.region 5 OA32_5 false
def oA32_6_0:Oper:=⟨some 6,Op.assign (Operand.const (Value.int IntKind.i64 0)),3, "ref.go:42",#[],none⟩
def OA32_6:Array Oper:=List.toArray (oA32_6_0::[])
theorem gA32_6_0:OA32_6[0]? = some oA32_6_0:=rfl
def cA32_22:Code:=Code.region 6 OA32_6 false
def oA32_7_0:Oper:=⟨some 30,Op.move (Operand.tmp 6),3, "ref.go:42",#[],none⟩
def oA32_7_1:Oper:=⟨some 31,Op.move (Operand.tmp 5),63, "ref.go:42",#[],none⟩
def oA32_7_2:Oper:=⟨some 32,Op.call { callee:=Callee.builtin Go.Builtin.len,args:=#[Operand.tmp 31],argTypes:=#[63] },3, "ref.go:42",#[ed_ 1],none⟩
def oA32_7_3:Oper:=⟨some 33,Op.binOp Go.BinOp.lss 3 (Operand.tmp 30) (Operand.tmp 32) 3,4, "ref.go:42",#[ed_ 0,ed_ 2],none⟩
def OA32_7:Array Oper:=List.toArray (oA32_7_0::oA32_7_1::oA32_7_2::oA32_7_3::[])
theorem gA32_7_0:OA32_7[0]? = some oA32_7_0:=rfl
theorem gA32_7_1:OA32_7[1]? = some oA32_7_1:=rfl
theorem gA32_7_2:OA32_7[2]? = some oA32_7_2:=rfl
theorem gA32_7_3:OA32_7[3]? = some oA32_7_3:=rfl
def cA32_27:Code:=Code.region 7 OA32_7 false
def cA32_30:Code:=Code.exit 0
def cA32_28:Code:=Code.cond (Operand.tmp 33) Code.skip cA32_30
def cA32_26:Code:=Code.seq cA32_27 cA32_28
def oA32_9_0:Oper:=⟨some 36,Op.move (Operand.tmp 5),63, "ref.go:43",#[],none⟩
def oA32_9_1:Oper:=⟨some 37,Op.move (Operand.tmp 6),3, "ref.go:43",#[],none⟩
def oA32_9_2:Oper:=⟨some 38,Op.indexAddr 63 (Operand.tmp 36) (Operand.tmp 37),0, "ref.go:43",#[ed_ 0,ed_ 1],none⟩
def oA32_9_3:Oper:=⟨some 39,Op.load 9 (Operand.tmp 38),9, "ref.go:43",#[ed_ 2],none⟩
def oA32_9_4:Oper:=⟨some 40,Op.move (Operand.tmp 0),9, "ref.go:43",#[],none⟩
def oA32_9_5:Oper:=⟨some 41,Op.binOp Go.BinOp.eql 9 (Operand.tmp 39) (Operand.tmp 40) 9,4, "ref.go:43",#[ed_ 3,ed_ 4],none⟩
def OA32_9:Array Oper:=List.toArray (oA32_9_0::oA32_9_1::oA32_9_2::oA32_9_3::oA32_9_4::oA32_9_5::[])
theorem gA32_9_0:OA32_9[0]? = some oA32_9_0:=rfl
theorem gA32_9_1:OA32_9[1]? = some oA32_9_1:=rfl
theorem gA32_9_2:OA32_9[2]? = some oA32_9_2:=rfl
theorem gA32_9_3:OA32_9[3]? = some oA32_9_3:=rfl
theorem gA32_9_4:OA32_9[4]? = some oA32_9_4:=rfl
theorem gA32_9_5:OA32_9[5]? = some oA32_9_5:=rfl
def cA32_34:Code:=Code.region 9 OA32_9 false
def oA32_10_0:Oper:=⟨some 4,Op.assign (Operand.const (Value.bool true)),4, "ref.go:44",#[],none⟩
def OA32_10:Array Oper:=List.toArray (oA32_10_0::[])
theorem gA32_10_0:OA32_10[0]? = some oA32_10_0:=rfl
def cA32_37:Code:=Code.region 10 OA32_10 false
def cA32_36:Code:=Code.seq cA32_37 Code.ret
def cA32_35:Code:=Code.cond (Operand.tmp 41) cA32_36 Code.skip
def cA32_33:Code:=Code.seq cA32_34 cA32_35
def cA32_32:Code:=Code.block 1 cA32_33
def oA32_8_0:Oper:=⟨some 34,Op.move (Operand.tmp 6),3, "ref.go:42",#[],none⟩
def oA32_8_1:Oper:=⟨some 35,Op.binOp Go.BinOp.add 3 (Operand.tmp 34) (Operand.const (Value.int IntKind.i64 1)) 3,3, "ref.go:42",#[ed_ 0],none⟩
def oA32_8_2:Oper:=⟨some 6,Op.assign (Operand.tmp 35),3, "ref.go:42",#[ed_ 1,ep_ 0,ep_ 1],none⟩
def OA32_8:Array Oper:=List.toArray (oA32_8_0::oA32_8_1::oA32_8_2::[])
theorem gA32_8_0:OA32_8[0]? = some oA32_8_0:=rfl
theorem gA32_8_1:OA32_8[1]? = some oA32_8_1:=rfl
theorem gA32_8_2:OA32_8[2]? = some oA32_8_2:=rfl
def cA32_40:Code:=Code.region 8 OA32_8 false
def cA32_31:Code:=Code.seq cA32_32 cA32_40
def cA32_25:Code:=Code.seq cA32_26 cA32_31
def cA32_24:Code:=Code.loop cA32_25
def cA32_23:Code:=Code.block 0 cA32_24
def cA32_21:Code:=Code.seq cA32_22 cA32_23
def oA32_11_0:Oper:=⟨some 4,Op.assign (Operand.const (Value.bool false)),4, "ref.go:47",#[],none⟩
def OA32_11:Array Oper:=List.toArray (oA32_11_0::[])
theorem gA32_11_0:OA32_11[0]? = some oA32_11_0:=rfl
def cA32_42:Code:=Code.region 11 OA32_11 false
def cA32_41:Code:=Code.seq cA32_42 Code.ret
def cA32_20:Code:=Code.seq cA32_21 cA32_41
def cA32_18:Code:=Code.seq cA32_19 cA32_20
def cA32_10:Code:=Code.seq cA32_11 cA32_18
def cA32_2:Code:=Code.seq cA32_3 cA32_10
def cA32_0:Code:=Code.seq cA32_1 cA32_2
theorem bodyA32:Try.f32.body=some cA32_0:=by kernel_rfl
set_option maxRecDepth 100000 in
set_option maxHeartbeats 4000000 in
theorem has_1 {W:World} {nm:List UInt8} {n:Nat} {f0:Act} {w0:World} (R:FrS 42 f0) (h0:f0.tmps[0]? = some (.string (str nm))) (h1:f0.tmps[1]? = some (.int .i64 (n:Int))) (K1:Keep (fun g=>g < W.heap.size) W w0)  (HC:Hid (n=1)):cA32_0.wp Try.prog (bodyPost Try.prog Try.f32 (fun e w'=>e=.returned (.bool (isFn nm n))∧Keep (fun g=>g < W.heap.size) W w')) f0 w0:=by
 refine wp_seq (x:=cA32_1) (y:=cA32_2) ?_
 change (Code.region 0 OA32_0 false).wp _ _ _ _
 refine reg_in (l:=[0]) rfl ?_
 have F:=fe_ R;clear R
 have Y:(execOp f0.eval oA32_0_0).run Try.prog w0=.ok (.value (.bool false)) w0:=by unfold oA32_0_0;go_simp
 refine sw_ gA32_0_0 Y F fun a1 F h4=>?_;clear Y
 refine st_end ?_
 replace h0:=F.of h0;replace h1:=F.of h1;have R:=F.r;clear F
 change (cA32_2).wp _ _ _ _
 refine wp_seq (x:=cA32_3) (y:=cA32_10) ?_
 refine wp_seq (x:=cA32_4) (y:=cA32_5) ?_
 change (Code.region 1 OA32_1 false).wp _ _ _ _
 refine reg_in (l:=[0,1]) rfl ?_
 have F:=fe_ R;clear R
 refine sw_ gA32_1_0 (ym_ rfl (F.of h1)) F fun a2 F h7=>?_
 have Y:(execOp a2.eval oA32_1_1).run Try.prog w0=.ok (.value (.bool true)) w0:=by have h8:=HC.out;unfold oA32_1_1;go_simp
 refine sw_ gA32_1_1 Y F fun a3 F h8=>?_;clear Y h7
 refine st_end ?_
 replace h0:=F.of h0;replace h1:=F.of h1;replace h4:=F.of h4;have R:=F.r;clear F
 change (cA32_5).wp _ _ _ _
 refine wp_cond_true (x:=cA32_6) (y:=Code.skip) (eval_slot h8) ?_
 refine wp_seq (x:=cA32_7) (y:=Code.ret) ?_
 change (Code.region 2 OA32_2 false).wp _ _ _ _
 refine reg_in (l:=[0,1,2,3,4,5,6,7,8,9,10,11,12,13,14,15,16,17,18]) rfl ?_
 have F:=fe_ R;clear R
 refine sw_ gA32_2_0 (ym_ rfl (F.of h0)) F fun a4 F h9=>?_
 obtain ⟨b5,hb5⟩:∃ x,(((str nm).toList == [43]))=x:=⟨_,rfl⟩
 have Y:(execOp a4.eval oA32_2_1).run Try.prog w0=.ok (.value (.bool b5)) w0:=by rw [← hb5];unfold oA32_2_1;go_simp
 refine sw_ gA32_2_1 Y F fun a6 F h10=>?_;clear Y h9
 refine sv_ gA32_2_2 (ym_ rfl h10) fun a7 e=>?_
 clear h10;have h11:=pt_ F e;replace F:=pu_ F e;clear e
 cases b5 with
 | false =>
  have fb5:=hb5;clear hb5
  simp only [dd_] at fb5
  refine st_val gA32_2_3 rfl (wanted_is (j:=2) (d:=11) rfl rfl h11 rfl) (ym_ rfl (F.of h0)) fun a8 e=>?_
  have h12:=pt_ F e;replace F:=pu_ F e;replace h11:=so_ e h11;clear e
  obtain ⟨b9,hb9⟩:∃ x,(((str nm).toList == [45]))=x:=⟨_,rfl⟩
  have Y:(execOp a8.eval oA32_2_4).run Try.prog w0=.ok (.value (.bool b9)) w0:=by rw [← hb9];unfold oA32_2_4;go_simp
  refine st_val gA32_2_4 rfl (wanted_is (j:=2) (d:=11) rfl rfl h11 rfl) Y fun a10 e=>?_;clear Y
  clear h12;have h13:=pt_ F e;replace F:=pu_ F e;replace h11:=so_ e h11;clear e
  have Y:(execOp a10.eval oA32_2_5).run Try.prog w0=.ok (.value (.bool b9)) w0:=by unfold oA32_2_5;go_simp
  refine sw_ gA32_2_5 Y F fun a11 F h14=>?_;clear Y h11 h13
  refine sv_ gA32_2_6 (ym_ rfl h14) fun a12 e=>?_
  clear h14;have h15:=pt_ F e;replace F:=pu_ F e;clear e
  cases b9 with
  | false =>
   have fb9:=hb9;clear hb9
   simp only [dd_] at fb9
   refine st_val gA32_2_7 rfl (wanted_is (j:=6) (d:=15) rfl rfl h15 rfl) (ym_ rfl (F.of h0)) fun a13 e=>?_
   have h16:=pt_ F e;replace F:=pu_ F e;replace h15:=so_ e h15;clear e
   obtain ⟨b14,hb14⟩:∃ x,(((str nm).toList == [97,98,115]))=x:=⟨_,rfl⟩
   have Y:(execOp a13.eval oA32_2_8).run Try.prog w0=.ok (.value (.bool b14)) w0:=by rw [← hb14];unfold oA32_2_8;go_simp
   refine st_val gA32_2_8 rfl (wanted_is (j:=6) (d:=15) rfl rfl h15 rfl) Y fun a15 e=>?_;clear Y
   clear h16;have h17:=pt_ F e;replace F:=pu_ F e;replace h15:=so_ e h15;clear e
   have Y:(execOp a15.eval oA32_2_9).run Try.prog w0=.ok (.value (.bool b14)) w0:=by unfold oA32_2_9;go_simp
   refine sw_ gA32_2_9 Y F fun a16 F h18=>?_;clear Y h15 h17
   refine sv_ gA32_2_10 (ym_ rfl h18) fun a17 e=>?_
   clear h18;have h19:=pt_ F e;replace F:=pu_ F e;clear e
   cases b14 with
   | false =>
    have fb14:=hb14;clear hb14
    simp only [dd_] at fb14
    refine st_val gA32_2_11 rfl (wanted_is (j:=10) (d:=19) rfl rfl h19 rfl) (ym_ rfl (F.of h0)) fun a18 e=>?_
    have h20:=pt_ F e;replace F:=pu_ F e;replace h19:=so_ e h19;clear e
    obtain ⟨b19,hb19⟩:∃ x,(((str nm).toList == [115,105,103,110]))=x:=⟨_,rfl⟩
    have Y:(execOp a18.eval oA32_2_12).run Try.prog w0=.ok (.value (.bool b19)) w0:=by rw [← hb19];unfold oA32_2_12;go_simp
    refine st_val gA32_2_12 rfl (wanted_is (j:=10) (d:=19) rfl rfl h19 rfl) Y fun a20 e=>?_;clear Y
    clear h20;have h21:=pt_ F e;replace F:=pu_ F e;replace h19:=so_ e h19;clear e
    have Y:(execOp a20.eval oA32_2_13).run Try.prog w0=.ok (.value (.bool b19)) w0:=by unfold oA32_2_13;go_simp
    refine sw_ gA32_2_13 Y F fun a21 F h22=>?_;clear Y h19 h21
    refine sv_ gA32_2_14 (ym_ rfl h22) fun a22 e=>?_
    clear h22;have h23:=pt_ F e;replace F:=pu_ F e;clear e
    cases b19 with
    | false =>
     have fb19:=hb19;clear hb19
     simp only [dd_] at fb19
     refine st_val gA32_2_15 rfl (wanted_is (j:=14) (d:=23) rfl rfl h23 rfl) (ym_ rfl (F.of h0)) fun a23 e=>?_
     have h24:=pt_ F e;replace F:=pu_ F e;replace h23:=so_ e h23;clear e
     obtain ⟨b24,hb24⟩:∃ x,(((str nm).toList == [92]))=x:=⟨_,rfl⟩
     have Y:(execOp a23.eval oA32_2_16).run Try.prog w0=.ok (.value (.bool b24)) w0:=by rw [← hb24];unfold oA32_2_16;go_simp
     refine st_val gA32_2_16 rfl (wanted_is (j:=14) (d:=23) rfl rfl h23 rfl) Y fun a25 e=>?_;clear Y
     clear h24;have h25:=pt_ F e;replace F:=pu_ F e;replace h23:=so_ e h23;clear e
     have Y:(execOp a25.eval oA32_2_17).run Try.prog w0=.ok (.value (.bool b24)) w0:=by unfold oA32_2_17;go_simp
     refine sw_ gA32_2_17 Y F fun a26 F h26=>?_;clear Y h23 h25
     refine sv_ gA32_2_18 (ya_ rfl h26) fun a27 e=>?_
     clear h26 h4;have h4:=pt_ F e;replace F:=pu_ F e;clear e
     refine st_end ?_
     replace h0:=F.of h0;replace h1:=F.of h1;clear h8;have R:=F.r;clear F
     change (Code.ret).wp _ _ _ _
     refine wp_ret ?_
     change bodyPost Try.prog Try.f32 (fun e w'=>e=.returned (.bool (isFn nm n))∧Keep (fun g=>g < W.heap.size) W w') .ret a27 w0
     refine ret_one rfl R h4 ?_
     have hc:=HC.out;subst hc;simp only [str_list] at *;exact ⟨by first | (simp [isFn, *];done) | (simp [isFn, *];subst_vars;by_cases h9:nm=[92] <;> simp [h9]),K1⟩
    | true =>
     have fb19:=hb19;clear hb19
     simp only [dd_] at fb19
     refine st_not gA32_2_15 rfl (wanted_is (j:=14) (d:=23) rfl rfl h23 rfl) fun a28 e=>?_
     have h24:=pt_ F e;replace F:=pu_ F e;replace h23:=so_ e h23;clear e
     refine st_not gA32_2_16 rfl (wanted_is (j:=14) (d:=23) rfl rfl h23 rfl) fun a29 e=>?_
     clear h24;have h25:=pt_ F e;replace F:=pu_ F e;replace h23:=so_ e h23;clear e
     have Y:(execOp a29.eval oA32_2_17).run Try.prog w0=.ok (.value (.bool true)) w0:=by unfold oA32_2_17;go_simp
     refine sw_ gA32_2_17 Y F fun a30 F h26=>?_;clear Y h23 h25
     refine sv_ gA32_2_18 (ya_ rfl h26) fun a31 e=>?_
     clear h26 h4;have h4:=pt_ F e;replace F:=pu_ F e;clear e
     refine st_end ?_
     replace h0:=F.of h0;replace h1:=F.of h1;clear h8;have R:=F.r;clear F
     change (Code.ret).wp _ _ _ _
     refine wp_ret ?_
     change bodyPost Try.prog Try.f32 (fun e w'=>e=.returned (.bool (isFn nm n))∧Keep (fun g=>g < W.heap.size) W w') .ret a31 w0
     refine ret_one rfl R h4 ?_
     have hc:=HC.out;subst hc;simp only [str_list] at *;exact ⟨by first | (simp [isFn, *];done) | (simp [isFn, *];subst_vars;by_cases h9:nm=[92] <;> simp [h9]),K1⟩
   | true =>
    have fb14:=hb14;clear hb14
    simp only [dd_] at fb14
    refine st_not gA32_2_11 rfl (wanted_is (j:=10) (d:=19) rfl rfl h19 rfl) fun a32 e=>?_
    have h20:=pt_ F e;replace F:=pu_ F e;replace h19:=so_ e h19;clear e
    refine st_not gA32_2_12 rfl (wanted_is (j:=10) (d:=19) rfl rfl h19 rfl) fun a33 e=>?_
    clear h20;have h21:=pt_ F e;replace F:=pu_ F e;replace h19:=so_ e h19;clear e
    have Y:(execOp a33.eval oA32_2_13).run Try.prog w0=.ok (.value (.bool true)) w0:=by unfold oA32_2_13;go_simp
    refine sw_ gA32_2_13 Y F fun a34 F h22=>?_;clear Y h19 h21
    refine sv_ gA32_2_14 (ym_ rfl h22) fun a35 e=>?_
    clear h22;have h23:=pt_ F e;replace F:=pu_ F e;clear e
    refine st_not gA32_2_15 rfl (wanted_is (j:=14) (d:=23) rfl rfl h23 rfl) fun a36 e=>?_
    have h24:=pt_ F e;replace F:=pu_ F e;replace h23:=so_ e h23;clear e
    refine st_not gA32_2_16 rfl (wanted_is (j:=14) (d:=23) rfl rfl h23 rfl) fun a37 e=>?_
    clear h24;have h25:=pt_ F e;replace F:=pu_ F e;replace h23:=so_ e h23;clear e
    have Y:(execOp a37.eval oA32_2_17).run Try.prog w0=.ok (.value (.bool true)) w0:=by unfold oA32_2_17;go_simp
    refine sw_ gA32_2_17 Y F fun a38 F h26=>?_;clear Y h23 h25
    refine sv_ gA32_2_18 (ya_ rfl h26) fun a39 e=>?_
    clear h26 h4;have h4:=pt_ F e;replace F:=pu_ F e;clear e
    refine st_end ?_
    replace h0:=F.of h0;replace h1:=F.of h1;clear h8;have R:=F.r;clear F
    change (Code.ret).wp _ _ _ _
    refine wp_ret ?_
    change bodyPost Try.prog Try.f32 (fun e w'=>e=.returned (.bool (isFn nm n))∧Keep (fun g=>g < W.heap.size) W w') .ret a39 w0
    refine ret_one rfl R h4 ?_
    have hc:=HC.out;subst hc;simp only [str_list] at *;exact ⟨by first | (simp [isFn, *];done) | (simp [isFn, *];subst_vars;by_cases h9:nm=[92] <;> simp [h9]),K1⟩
  | true =>
   have fb9:=hb9;clear hb9
   simp only [dd_] at fb9
   refine st_not gA32_2_7 rfl (wanted_is (j:=6) (d:=15) rfl rfl h15 rfl) fun a40 e=>?_
   have h16:=pt_ F e;replace F:=pu_ F e;replace h15:=so_ e h15;clear e
   refine st_not gA32_2_8 rfl (wanted_is (j:=6) (d:=15) rfl rfl h15 rfl) fun a41 e=>?_
   clear h16;have h17:=pt_ F e;replace F:=pu_ F e;replace h15:=so_ e h15;clear e
   have Y:(execOp a41.eval oA32_2_9).run Try.prog w0=.ok (.value (.bool true)) w0:=by unfold oA32_2_9;go_simp
   refine sw_ gA32_2_9 Y F fun a42 F h18=>?_;clear Y h15 h17
   refine sv_ gA32_2_10 (ym_ rfl h18) fun a43 e=>?_
   clear h18;have h19:=pt_ F e;replace F:=pu_ F e;clear e
   refine st_not gA32_2_11 rfl (wanted_is (j:=10) (d:=19) rfl rfl h19 rfl) fun a44 e=>?_
   have h20:=pt_ F e;replace F:=pu_ F e;replace h19:=so_ e h19;clear e
   refine st_not gA32_2_12 rfl (wanted_is (j:=10) (d:=19) rfl rfl h19 rfl) fun a45 e=>?_
   clear h20;have h21:=pt_ F e;replace F:=pu_ F e;replace h19:=so_ e h19;clear e
   have Y:(execOp a45.eval oA32_2_13).run Try.prog w0=.ok (.value (.bool true)) w0:=by unfold oA32_2_13;go_simp
   refine sw_ gA32_2_13 Y F fun a46 F h22=>?_;clear Y h19 h21
   refine sv_ gA32_2_14 (ym_ rfl h22) fun a47 e=>?_
   clear h22;have h23:=pt_ F e;replace F:=pu_ F e;clear e
   refine st_not gA32_2_15 rfl (wanted_is (j:=14) (d:=23) rfl rfl h23 rfl) fun a48 e=>?_
   have h24:=pt_ F e;replace F:=pu_ F e;replace h23:=so_ e h23;clear e
   refine st_not gA32_2_16 rfl (wanted_is (j:=14) (d:=23) rfl rfl h23 rfl) fun a49 e=>?_
   clear h24;have h25:=pt_ F e;replace F:=pu_ F e;replace h23:=so_ e h23;clear e
   have Y:(execOp a49.eval oA32_2_17).run Try.prog w0=.ok (.value (.bool true)) w0:=by unfold oA32_2_17;go_simp
   refine sw_ gA32_2_17 Y F fun a50 F h26=>?_;clear Y h23 h25
   refine sv_ gA32_2_18 (ya_ rfl h26) fun a51 e=>?_
   clear h26 h4;have h4:=pt_ F e;replace F:=pu_ F e;clear e
   refine st_end ?_
   replace h0:=F.of h0;replace h1:=F.of h1;clear h8;have R:=F.r;clear F
   change (Code.ret).wp _ _ _ _
   refine wp_ret ?_
   change bodyPost Try.prog Try.f32 (fun e w'=>e=.returned (.bool (isFn nm n))∧Keep (fun g=>g < W.heap.size) W w') .ret a51 w0
   refine ret_one rfl R h4 ?_
   have hc:=HC.out;subst hc;simp only [str_list] at *;exact ⟨by first | (simp [isFn, *];done) | (simp [isFn, *];subst_vars;by_cases h9:nm=[92] <;> simp [h9]),K1⟩
 | true =>
  have fb5:=hb5;clear hb5
  simp only [dd_] at fb5
  refine st_not gA32_2_3 rfl (wanted_is (j:=2) (d:=11) rfl rfl h11 rfl) fun a52 e=>?_
  have h12:=pt_ F e;replace F:=pu_ F e;replace h11:=so_ e h11;clear e
  refine st_not gA32_2_4 rfl (wanted_is (j:=2) (d:=11) rfl rfl h11 rfl) fun a53 e=>?_
  clear h12;have h13:=pt_ F e;replace F:=pu_ F e;replace h11:=so_ e h11;clear e
  have Y:(execOp a53.eval oA32_2_5).run Try.prog w0=.ok (.value (.bool true)) w0:=by unfold oA32_2_5;go_simp
  refine sw_ gA32_2_5 Y F fun a54 F h14=>?_;clear Y h11 h13
  refine sv_ gA32_2_6 (ym_ rfl h14) fun a55 e=>?_
  clear h14;have h15:=pt_ F e;replace F:=pu_ F e;clear e
  refine st_not gA32_2_7 rfl (wanted_is (j:=6) (d:=15) rfl rfl h15 rfl) fun a56 e=>?_
  have h16:=pt_ F e;replace F:=pu_ F e;replace h15:=so_ e h15;clear e
  refine st_not gA32_2_8 rfl (wanted_is (j:=6) (d:=15) rfl rfl h15 rfl) fun a57 e=>?_
  clear h16;have h17:=pt_ F e;replace F:=pu_ F e;replace h15:=so_ e h15;clear e
  have Y:(execOp a57.eval oA32_2_9).run Try.prog w0=.ok (.value (.bool true)) w0:=by unfold oA32_2_9;go_simp
  refine sw_ gA32_2_9 Y F fun a58 F h18=>?_;clear Y h15 h17
  refine sv_ gA32_2_10 (ym_ rfl h18) fun a59 e=>?_
  clear h18;have h19:=pt_ F e;replace F:=pu_ F e;clear e
  refine st_not gA32_2_11 rfl (wanted_is (j:=10) (d:=19) rfl rfl h19 rfl) fun a60 e=>?_
  have h20:=pt_ F e;replace F:=pu_ F e;replace h19:=so_ e h19;clear e
  refine st_not gA32_2_12 rfl (wanted_is (j:=10) (d:=19) rfl rfl h19 rfl) fun a61 e=>?_
  clear h20;have h21:=pt_ F e;replace F:=pu_ F e;replace h19:=so_ e h19;clear e
  have Y:(execOp a61.eval oA32_2_13).run Try.prog w0=.ok (.value (.bool true)) w0:=by unfold oA32_2_13;go_simp
  refine sw_ gA32_2_13 Y F fun a62 F h22=>?_;clear Y h19 h21
  refine sv_ gA32_2_14 (ym_ rfl h22) fun a63 e=>?_
  clear h22;have h23:=pt_ F e;replace F:=pu_ F e;clear e
  refine st_not gA32_2_15 rfl (wanted_is (j:=14) (d:=23) rfl rfl h23 rfl) fun a64 e=>?_
  have h24:=pt_ F e;replace F:=pu_ F e;replace h23:=so_ e h23;clear e
  refine st_not gA32_2_16 rfl (wanted_is (j:=14) (d:=23) rfl rfl h23 rfl) fun a65 e=>?_
  clear h24;have h25:=pt_ F e;replace F:=pu_ F e;replace h23:=so_ e h23;clear e
  have Y:(execOp a65.eval oA32_2_17).run Try.prog w0=.ok (.value (.bool true)) w0:=by unfold oA32_2_17;go_simp
  refine sw_ gA32_2_17 Y F fun a66 F h26=>?_;clear Y h23 h25
  refine sv_ gA32_2_18 (ya_ rfl h26) fun a67 e=>?_
  clear h26 h4;have h4:=pt_ F e;replace F:=pu_ F e;clear e
  refine st_end ?_
  replace h0:=F.of h0;replace h1:=F.of h1;clear h8;have R:=F.r;clear F
  change (Code.ret).wp _ _ _ _
  refine wp_ret ?_
  change bodyPost Try.prog Try.f32 (fun e w'=>e=.returned (.bool (isFn nm n))∧Keep (fun g=>g < W.heap.size) W w') .ret a67 w0
  refine ret_one rfl R h4 ?_
  have hc:=HC.out;subst hc;simp only [str_list] at *;exact ⟨by first | (simp [isFn, *];done) | (simp [isFn, *];subst_vars;by_cases h9:nm=[92] <;> simp [h9]),K1⟩
set_option maxRecDepth 100000 in
set_option maxHeartbeats 4000000 in
theorem has_2 {W:World} {nm:List UInt8} {n:Nat} {f0:Act} {w0:World} (R:FrS 42 f0) (h0:f0.tmps[0]? = some (.string (str nm))) (h1:f0.tmps[1]? = some (.int .i64 (n:Int))) (K1:Keep (fun g=>g < W.heap.size) W w0)  (HC:Hid (n=2)):cA32_0.wp Try.prog (bodyPost Try.prog Try.f32 (fun e w'=>e=.returned (.bool (isFn nm n))∧Keep (fun g=>g < W.heap.size) W w')) f0 w0:=by
 refine wp_seq (x:=cA32_1) (y:=cA32_2) ?_
 change (Code.region 0 OA32_0 false).wp _ _ _ _
 refine reg_in (l:=[0]) rfl ?_
 have F:=fe_ R;clear R
 have Y:(execOp f0.eval oA32_0_0).run Try.prog w0=.ok (.value (.bool false)) w0:=by unfold oA32_0_0;go_simp
 refine sw_ gA32_0_0 Y F fun a68 F h4=>?_;clear Y
 refine st_end ?_
 replace h0:=F.of h0;replace h1:=F.of h1;have R:=F.r;clear F
 change (cA32_2).wp _ _ _ _
 refine wp_seq (x:=cA32_3) (y:=cA32_10) ?_
 refine wp_seq (x:=cA32_4) (y:=cA32_5) ?_
 change (Code.region 1 OA32_1 false).wp _ _ _ _
 refine reg_in (l:=[0,1]) rfl ?_
 have F:=fe_ R;clear R
 refine sw_ gA32_1_0 (ym_ rfl (F.of h1)) F fun a69 F h7=>?_
 have Y:(execOp a69.eval oA32_1_1).run Try.prog w0=.ok (.value (.bool false)) w0:=by have h8:=HC.out;unfold oA32_1_1;go_simp
 refine sw_ gA32_1_1 Y F fun a70 F h8=>?_;clear Y h7
 refine st_end ?_
 replace h0:=F.of h0;replace h1:=F.of h1;replace h4:=F.of h4;have R:=F.r;clear F
 change (cA32_5).wp _ _ _ _
 refine wp_cond_false (x:=cA32_6) (y:=Code.skip) (eval_slot h8) ?_
 refine wp_skip ?_
 change (cA32_10).wp _ _ _ _
 refine wp_seq (x:=cA32_11) (y:=cA32_18) ?_
 refine wp_seq (x:=cA32_12) (y:=cA32_13) ?_
 change (Code.region 3 OA32_3 false).wp _ _ _ _
 refine reg_in (l:=[0,1]) rfl ?_
 have F:=fe_ R;clear R
 refine sw_ gA32_3_0 (ym_ rfl (F.of h1)) F fun a71 F h27=>?_
 have Y:(execOp a71.eval oA32_3_1).run Try.prog w0=.ok (.value (.bool false)) w0:=by have h8:=HC.out;unfold oA32_3_1;go_simp
 refine sw_ gA32_3_1 Y F fun a72 F h28=>?_;clear Y h27
 refine st_end ?_
 replace h0:=F.of h0;clear h1;replace h4:=F.of h4;clear h8;have R:=F.r;clear F
 change (cA32_13).wp _ _ _ _
 refine wp_cond_false (x:=cA32_14) (y:=Code.skip) (eval_slot h28) ?_
 refine wp_skip ?_
 change (cA32_18).wp _ _ _ _
 refine wp_seq (x:=cA32_19) (y:=cA32_20) ?_
 change (Code.region 5 OA32_5 false).wp _ _ _ _
 refine reg_in (l:=[0,1]) rfl ?_
 have F:=fe_ R;clear R
 have Y:(execOp a72.eval oA32_5_0).run Try.prog w0=.ok (.value (.slice (some ⟨w0.heap.size,0,none⟩) 15 15)) (w0.alloc (.cells #[.string (⟨#[43]⟩),.string (⟨#[45]⟩),.string (⟨#[42]⟩),.string (⟨#[47,47]⟩),.string (⟨#[114,101,109]⟩),.string (⟨#[109,111,100]⟩),.string (⟨#[109,105,110]⟩),.string (⟨#[109,97,120]⟩),.string (⟨#[47,92]⟩),.string (⟨#[92,47]⟩),.string (⟨#[120,111,114]⟩),.string (⟨#[62,62]⟩),.string (⟨#[60,60]⟩),.string (⟨#[94]⟩),.string (⟨#[42,42]⟩)] 9)):=by unfold oA32_5_0;go_simp
 have B73:=Blk.new w0 9 #[.string (⟨#[43]⟩),.string (⟨#[45]⟩),.string (⟨#[42]⟩),.string (⟨#[47,47]⟩),.string (⟨#[114,101,109]⟩),.string (⟨#[109,111,100]⟩),.string (⟨#[109,105,110]⟩),.string (⟨#[109,97,120]⟩),.string (⟨#[47,92]⟩),.string (⟨#[92,47]⟩),.string (⟨#[120,111,114]⟩),.string (⟨#[62,62]⟩),.string (⟨#[60,60]⟩),.string (⟨#[94]⟩),.string (⟨#[42,42]⟩)]
 obtain ⟨w74,hw⟩:∃ x,x=w0.alloc (.cells #[.string (⟨#[43]⟩),.string (⟨#[45]⟩),.string (⟨#[42]⟩),.string (⟨#[47,47]⟩),.string (⟨#[114,101,109]⟩),.string (⟨#[109,111,100]⟩),.string (⟨#[109,105,110]⟩),.string (⟨#[109,97,120]⟩),.string (⟨#[47,92]⟩),.string (⟨#[92,47]⟩),.string (⟨#[120,111,114]⟩),.string (⟨#[62,62]⟩),.string (⟨#[60,60]⟩),.string (⟨#[94]⟩),.string (⟨#[42,42]⟩)] 9):=⟨_,rfl⟩;rw [← hw] at Y B73
 obtain ⟨b73,hb⟩:∃ x,x=w0.heap.size:=⟨_,rfl⟩;rw [← hb] at Y B73
 have LK1_b73:=lk_ hb K1;replace K1:=ka_ hw K1;clear hw hb
 refine sw_ gA32_5_0 Y F fun a75 F h29=>?_;clear Y
 refine sv_ gA32_5_1 (ya_ rfl h29) fun a76 e=>?_
 clear h29;have h5:=pt_ F e;replace F:=pu_ F e;clear e
 refine st_end ?_
 replace h0:=F.of h0;replace h4:=F.of h4;clear h28;have R:=F.r;clear F
 change (cA32_20).wp _ _ _ _
 refine wp_seq (x:=cA32_21) (y:=cA32_41) ?_
 refine wp_seq (x:=cA32_22) (y:=cA32_23) ?_
 change (Code.region 6 OA32_6 false).wp _ _ _ _
 refine reg_in (l:=[0]) rfl ?_
 have F:=fe_ R;clear R
 have Y:(execOp a76.eval oA32_6_0).run Try.prog w74=.ok (.value (.int .i64 0)) w74:=by unfold oA32_6_0;go_simp
 refine sw_ gA32_6_0 Y F fun a77 F h6=>?_;clear Y
 refine st_end ?_
 replace h0:=F.of h0;replace h4:=F.of h4;replace h5:=F.of h5;have R:=F.r;clear F
 change (cA32_23).wp _ _ _ _
 refine wp_block (id:=0) (c:=cA32_24) ?_
 refine wp_loop_ghost (c:=cA32_25) (fun n fX wX=>∃ j:Nat,n=15 - j∧FrS 42 fX∧fX.tmps[0]? = some (.string (str nm))∧fX.tmps[4]? = some (.bool false)∧fX.tmps[5]? = some (.slice (some ⟨b73,0,none⟩) 15 15)∧fX.tmps[6]? = some (.int .i64 (j:Int))∧Keep (fun g=>g < W.heap.size) W wX∧Blk wX b73 9 #[.string (⟨#[43]⟩),.string (⟨#[45]⟩),.string (⟨#[42]⟩),.string (⟨#[47,47]⟩),.string (⟨#[114,101,109]⟩),.string (⟨#[109,111,100]⟩),.string (⟨#[109,105,110]⟩),.string (⟨#[109,97,120]⟩),.string (⟨#[47,92]⟩),.string (⟨#[92,47]⟩),.string (⟨#[120,111,114]⟩),.string (⟨#[62,62]⟩),.string (⟨#[60,60]⟩),.string (⟨#[94]⟩),.string (⟨#[42,42]⟩)]∧j ≤ 15∧(∀ i,i < j→¬ TW.getD i []=nm)) (15 - 0) ⟨0,rfl,R,h0,h4,h5,h6,K1,B73,(by decide),(fun i hi=>absurd hi (Nat.not_lt_zero i))⟩ ?_
 clear R h0 h4 h5 h6 K1 B73
 rintro n80 a78 w79 ⟨j,rfl,R,h0,h4,h5,h6,K1,B73,hj,hne⟩
 refine wp_seq (x:=cA32_26) (y:=cA32_31) ?_
 refine wp_seq (x:=cA32_27) (y:=cA32_28) ?_
 change (Code.region 7 OA32_7 false).wp _ _ _ _
 refine reg_in (l:=[0,1,2,3]) rfl ?_
 have F:=fe_ R;clear R
 refine sw_ gA32_7_0 (ym_ rfl (F.of h6)) F fun a81 F h30=>?_
 refine sv_ gA32_7_1 (ym_ rfl (F.of h5)) fun a82 e=>?_
 have h31:=pt_ F e;replace F:=pu_ F e;replace h30:=so_ e h30;clear e
 have Y:(execOp a82.eval oA32_7_2).run Try.prog w79=.ok (.value (.int .i64 15)) w79:=by unfold oA32_7_2;go_simp
 refine sv_ gA32_7_2 Y fun a83 e=>?_;clear Y
 have h32:=pt_ F e;replace F:=pu_ F e;replace h30:=so_ e h30;replace h31:=so_ e h31;clear e
 obtain ⟨b84,hb84⟩:∃ x,(decide (((j:Int):Int) < (15:Int)))=x:=⟨_,rfl⟩
 have Y:(execOp a83.eval oA32_7_3).run Try.prog w79=.ok (.value (.bool b84)) w79:=by rw [← hb84];unfold oA32_7_3;go_simp
 refine sv_ gA32_7_3 Y fun a85 e=>?_;clear Y
 have h33:=pt_ F e;replace F:=pu_ F e;replace h30:=so_ e h30;replace h31:=so_ e h31;replace h32:=so_ e h32;clear e
 refine st_end ?_
 replace h0:=F.of h0;replace h4:=F.of h4;replace h5:=F.of h5;replace h6:=F.of h6;have R:=F.r;clear F
 change (cA32_28).wp _ _ _ _
 cases b84 with
 | false =>
  have fb84:=hb84;clear hb84
  simp only [dd_] at fb84
  refine wp_cond_false (x:=Code.skip) (y:=cA32_30) (eval_slot h33) ?_
  refine wp_exit ?_
  change (cA32_41).wp _ _ _ _
  refine wp_seq (x:=cA32_42) (y:=Code.ret) ?_
  change (Code.region 11 OA32_11 false).wp _ _ _ _
  refine reg_in (l:=[0]) rfl ?_
  have F:=fe_ R;clear R
  have Y:(execOp a85.eval oA32_11_0).run Try.prog w79=.ok (.value (.bool false)) w79:=by unfold oA32_11_0;go_simp
  refine sw_ gA32_11_0 Y F fun a86 F h4=>?_;clear Y
  refine st_end ?_
  replace h0:=F.of h0;replace h5:=F.of h5;replace h6:=F.of h6;replace h30:=F.of h30;replace h31:=F.of h31;replace h32:=F.of h32;replace h33:=F.of h33;have R:=F.r;clear F
  change (Code.ret).wp _ _ _ _
  refine wp_ret ?_
  change bodyPost Try.prog Try.f32 (fun e w'=>e=.returned (.bool (isFn nm n))∧Keep (fun g=>g < W.heap.size) W w') .ret a86 w79
  refine ret_one rfl R h4 ?_
  have hc:=HC.out;subst hc;exact ⟨by rw [tw_no fun i hi=>hne i (by omega)],K1⟩
 | true =>
  have fb84:=hb84;clear hb84
  simp only [dd_] at fb84
  refine wp_cond_true (x:=Code.skip) (y:=cA32_30) (eval_slot h33) ?_
  refine wp_skip ?_
  change (cA32_31).wp _ _ _ _
  refine wp_seq (x:=cA32_32) (y:=cA32_40) ?_
  refine wp_block (id:=1) (c:=cA32_33) ?_
  refine wp_seq (x:=cA32_34) (y:=cA32_35) ?_
  change (Code.region 9 OA32_9 false).wp _ _ _ _
  refine reg_in (l:=[0,1,2,3,4,5]) rfl ?_
  have F:=fe_ R;clear R
  refine sw_ gA32_9_0 (ym_ rfl (F.of h5)) F fun a87 F h36=>?_
  refine sv_ gA32_9_1 (ym_ rfl (F.of h6)) fun a88 e=>?_
  have h37:=pt_ F e;replace F:=pu_ F e;replace h36:=so_ e h36;clear e
  have hcl:w79.cell? ⟨b73,j,none⟩=some (.string (str (TW.getD j []))):=(B73.cell j).trans (tw_cell j (by omega))
  have Y:(execOp a88.eval oA32_9_2).run Try.prog w79=.ok (.value (.pointer (some ⟨b73,j,none⟩))) w79:=by have h9:(j:Int) < 15:=(by omega);unfold oA32_9_2;go_simp
  refine sv_ gA32_9_2 Y fun a89 e=>?_;clear Y
  have h38:=pt_ F e;replace F:=pu_ F e;replace h36:=so_ e h36;replace h37:=so_ e h37;clear e
  have Y:(execOp a89.eval oA32_9_3).run Try.prog w79=.ok (.value (.string (str (TW.getD j [])))) w79:=by unfold oA32_9_3;go_simp
  refine sv_ gA32_9_3 Y fun a90 e=>?_;clear Y
  have h39:=pt_ F e;replace F:=pu_ F e;replace h36:=so_ e h36;replace h37:=so_ e h37;replace h38:=so_ e h38;clear e
  refine sv_ gA32_9_4 (ym_ rfl (F.of h0)) fun a91 e=>?_
  have h40:=pt_ F e;replace F:=pu_ F e;replace h36:=so_ e h36;replace h37:=so_ e h37;replace h38:=so_ e h38;replace h39:=so_ e h39;clear e
  obtain ⟨b92,hb92⟩:∃ x,(((str (TW.getD j [])).toList == (str nm).toList))=x:=⟨_,rfl⟩
  have Y:(execOp a91.eval oA32_9_5).run Try.prog w79=.ok (.value (.bool b92)) w79:=by rw [← hb92];unfold oA32_9_5;go_simp
  refine sv_ gA32_9_5 Y fun a93 e=>?_;clear Y
  have h41:=pt_ F e;replace F:=pu_ F e;replace h36:=so_ e h36;replace h37:=so_ e h37;replace h38:=so_ e h38;replace h39:=so_ e h39;replace h40:=so_ e h40;clear e
  refine st_end ?_
  replace h0:=F.of h0;replace h4:=F.of h4;replace h5:=F.of h5;replace h6:=F.of h6;replace h30:=F.of h30;replace h31:=F.of h31;replace h32:=F.of h32;replace h33:=F.of h33;have R:=F.r;clear F
  change (cA32_35).wp _ _ _ _
  cases b92 with
  | false =>
   have fb92:=hb92;clear hb92
   simp only [dd_] at fb92
   refine wp_cond_false (x:=cA32_36) (y:=Code.skip) (eval_slot h41) ?_
   refine wp_skip ?_
   change (cA32_40).wp _ _ _ _
   change (Code.region 8 OA32_8 false).wp _ _ _ _
   refine reg_in (l:=[0,1,2]) rfl ?_
   have F:=fe_ R;clear R
   refine sw_ gA32_8_0 (ym_ rfl (F.of h6)) F fun a94 F h34=>?_
   have Y:(execOp a94.eval oA32_8_1).run Try.prog w79=.ok (.value (.int .i64 ((j:Int) + 1))) w79:=by have hwj:IntKind.i64.wrap ((j:Int) + 1)=(j:Int) + 1:=(by rw [IntKind.wrap_i64];omega);unfold oA32_8_1;go_simp
   refine sv_ gA32_8_1 Y fun a95 e=>?_;clear Y
   have h35:=pt_ F e;replace F:=pu_ F e;replace h34:=so_ e h34;clear e
   refine sv_ gA32_8_2 (ya_ rfl h35) fun a96 e=>?_
   clear h6;have h6:=pt_ F e;replace F:=pu_ F e;replace h34:=so_ e h34;replace h35:=so_ e h35;clear e
   refine st_end ?_
   replace h0:=F.of h0;replace h4:=F.of h4;replace h5:=F.of h5;replace h30:=F.of h30;replace h31:=F.of h31;replace h32:=F.of h32;replace h33:=F.of h33;replace h36:=F.of h36;replace h37:=F.of h37;replace h38:=F.of h38;replace h39:=F.of h39;replace h40:=F.of h40;replace h41:=F.of h41;have R:=F.r;clear F
   exact ⟨_,(by omega),j + 1,rfl,R,h0,h4,h5,h6,K1,B73,(by omega),(fun i hi=>by by_cases h:i < j;exact hne i h;rw [show i=j by omega];simpa [str_list] using fb92)⟩
  | true =>
   have fb92:=hb92;clear hb92
   simp only [dd_] at fb92
   refine wp_cond_true (x:=cA32_36) (y:=Code.skip) (eval_slot h41) ?_
   refine wp_seq (x:=cA32_37) (y:=Code.ret) ?_
   change (Code.region 10 OA32_10 false).wp _ _ _ _
   refine reg_in (l:=[0]) rfl ?_
   have F:=fe_ R;clear R
   have Y:(execOp a93.eval oA32_10_0).run Try.prog w79=.ok (.value (.bool true)) w79:=by unfold oA32_10_0;go_simp
   refine sw_ gA32_10_0 Y F fun a97 F h4=>?_;clear Y
   refine st_end ?_
   replace h0:=F.of h0;replace h5:=F.of h5;replace h6:=F.of h6;replace h30:=F.of h30;replace h31:=F.of h31;replace h32:=F.of h32;replace h33:=F.of h33;replace h36:=F.of h36;replace h37:=F.of h37;replace h38:=F.of h38;replace h39:=F.of h39;replace h40:=F.of h40;replace h41:=F.of h41;have R:=F.r;clear F
   change (Code.ret).wp _ _ _ _
   refine wp_ret ?_
   change bodyPost Try.prog Try.f32 (fun e w'=>e=.returned (.bool (isFn nm n))∧Keep (fun g=>g < W.heap.size) W w') .ret a97 w79
   refine ret_one rfl R h4 ?_
   have hc:=HC.out;subst hc;have hq:TW.getD j []=nm:=by simpa [str_list] using fb92
   exact ⟨by rw [← hq,tw_fn j (by omega)],K1⟩
set_option maxRecDepth 100000 in
set_option maxHeartbeats 4000000 in
theorem has_3 {W:World} {nm:List UInt8} {n:Nat} {f0:Act} {w0:World} (R:FrS 42 f0) (h0:f0.tmps[0]? = some (.string (str nm))) (h1:f0.tmps[1]? = some (.int .i64 (n:Int))) (K1:Keep (fun g=>g < W.heap.size) W w0)  (HC:Hid (¬ n=1∧¬ n=2)):cA32_0.wp Try.prog (bodyPost Try.prog Try.f32 (fun e w'=>e=.returned (.bool (isFn nm n))∧Keep (fun g=>g < W.heap.size) W w')) f0 w0:=by
 refine wp_seq (x:=cA32_1) (y:=cA32_2) ?_
 change (Code.region 0 OA32_0 false).wp _ _ _ _
 refine reg_in (l:=[0]) rfl ?_
 have F:=fe_ R;clear R
 have Y:(execOp f0.eval oA32_0_0).run Try.prog w0=.ok (.value (.bool false)) w0:=by unfold oA32_0_0;go_simp
 refine sw_ gA32_0_0 Y F fun a98 F h4=>?_;clear Y
 refine st_end ?_
 replace h0:=F.of h0;replace h1:=F.of h1;have R:=F.r;clear F
 change (cA32_2).wp _ _ _ _
 refine wp_seq (x:=cA32_3) (y:=cA32_10) ?_
 refine wp_seq (x:=cA32_4) (y:=cA32_5) ?_
 change (Code.region 1 OA32_1 false).wp _ _ _ _
 refine reg_in (l:=[0,1]) rfl ?_
 have F:=fe_ R;clear R
 refine sw_ gA32_1_0 (ym_ rfl (F.of h1)) F fun a99 F h7=>?_
 have Y:(execOp a99.eval oA32_1_1).run Try.prog w0=.ok (.value (.bool false)) w0:=by have h8:¬ (n:Int)=1:=(by have:=HC.out;omega);have h7:¬ (n:Int)=2:=(by have:=HC.out;omega);unfold oA32_1_1;go_simp
 refine sw_ gA32_1_1 Y F fun a100 F h8=>?_;clear Y h7
 refine st_end ?_
 replace h0:=F.of h0;replace h1:=F.of h1;replace h4:=F.of h4;have R:=F.r;clear F
 change (cA32_5).wp _ _ _ _
 refine wp_cond_false (x:=cA32_6) (y:=Code.skip) (eval_slot h8) ?_
 refine wp_skip ?_
 change (cA32_10).wp _ _ _ _
 refine wp_seq (x:=cA32_11) (y:=cA32_18) ?_
 refine wp_seq (x:=cA32_12) (y:=cA32_13) ?_
 change (Code.region 3 OA32_3 false).wp _ _ _ _
 refine reg_in (l:=[0,1]) rfl ?_
 have F:=fe_ R;clear R
 refine sw_ gA32_3_0 (ym_ rfl (F.of h1)) F fun a101 F h27=>?_
 have Y:(execOp a101.eval oA32_3_1).run Try.prog w0=.ok (.value (.bool true)) w0:=by have h8:¬ (n:Int)=1:=(by have:=HC.out;omega);have h7:¬ (n:Int)=2:=(by have:=HC.out;omega);unfold oA32_3_1;go_simp
 refine sw_ gA32_3_1 Y F fun a102 F h28=>?_;clear Y h27
 refine st_end ?_
 replace h0:=F.of h0;clear h1;replace h4:=F.of h4;clear h8;have R:=F.r;clear F
 change (cA32_13).wp _ _ _ _
 refine wp_cond_true (x:=cA32_14) (y:=Code.skip) (eval_slot h28) ?_
 refine wp_seq (x:=cA32_15) (y:=Code.ret) ?_
 change (Code.region 4 OA32_4 false).wp _ _ _ _
 refine reg_in (l:=[0]) rfl ?_
 have F:=fe_ R;clear R
 have Y:(execOp a102.eval oA32_4_0).run Try.prog w0=.ok (.value (.bool false)) w0:=by unfold oA32_4_0;go_simp
 refine sw_ gA32_4_0 Y F fun a103 F h4=>?_;clear Y
 refine st_end ?_
 replace h0:=F.of h0;clear h28;have R:=F.r;clear F
 change (Code.ret).wp _ _ _ _
 refine wp_ret ?_
 change bodyPost Try.prog Try.f32 (fun e w'=>e=.returned (.bool (isFn nm n))∧Keep (fun g=>g < W.heap.size) W w') .ret a103 w0
 refine ret_one rfl R h4 ?_
 exact ⟨by rw [fn_other HC.out.1 HC.out.2],K1⟩
theorem has_any (W:World) (nm:List UInt8) (n:Nat):Calls Try.prog 32 #[.string (str nm),.int .i64 n] W fun e w'=>e=.returned (.bool (isFn nm n))∧Keep (fun g=>g < W.heap.size) W w':=by
  refine enter_sx Try.func32 bodyA32 rfl (by show (2:Nat) ≤ 42;decide) fun f0 R hs=>?_
  by_cases h1:n=1
  · exact has_1 R (hs 0 _ rfl) (hs 1 _ rfl) (Keep.refl _ W) (Lib.hid h1)
  · by_cases h2:n=2
    · exact has_2 R (hs 0 _ rfl) (hs 1 _ rfl) (Keep.refl _ W) (Lib.hid h2)
    · exact has_3 R (hs 0 _ rfl) (hs 1 _ rfl) (Keep.refl _ W) (Lib.hid ⟨h1,h2⟩)
theorem has_sx {W:World} {nm:List UInt8} {n:Nat} {z:Bool} (h:isFn nm n=z):Calls Try.prog 32 #[.string (str nm),.int .i64 n] W fun e w'=>e=.returned (.bool z)∧Keep (fun g=>g < W.heap.size) W w':=by
  subst h;exact has_any W nm n
def oA34_0_0:Oper:=⟨some 6,Op.alloc 30,0, "ref.go:134",#[],none⟩
def OA34_0:Array Oper:=List.toArray (oA34_0_0::[])
theorem gA34_0_0:OA34_0[0]? = some oA34_0_0:=rfl
def cA34_1:Code:=Code.region 0 OA34_0 false
def oA34_1_0:Oper:=⟨some 7,Op.move (Operand.tmp 0),9, "ref.go:135",#[],none⟩
def OA34_1:Array Oper:=List.toArray (oA34_1_0::[])
theorem gA34_1_0:OA34_1[0]? = some oA34_1_0:=rfl
def cA34_4:Code:=Code.region 1 OA34_1 false
def oA34_2_0:Oper:=⟨some 9,Op.binOp Go.BinOp.eql 9 (Operand.tmp 7) (Operand.const (Value.string { data:=#[43] })) 9,4, "ref.go:136",#[],none⟩
def oA34_2_1:Oper:=⟨some 8,Op.assign (Operand.tmp 9),4, "ref.go:136",#[ed_ 0],none⟩
def OA34_2:Array Oper:=List.toArray (oA34_2_0::oA34_2_1::[])
theorem gA34_2_0:OA34_2[0]? = some oA34_2_0:=rfl
theorem gA34_2_1:OA34_2[1]? = some oA34_2_1:=rfl
def cA34_7:Code:=Code.region 2 OA34_2 false
def oA34_3_0:Oper:=⟨some 10,Op.move (Operand.tmp 1),2, "ref.go:137",#[],none⟩
def oA34_3_1:Oper:=⟨some 11,Op.move (Operand.tmp 2),2, "ref.go:137",#[],none⟩
def oA34_3_2:Oper:=⟨some 12,Op.call { callee:=Callee.value (Operand.func 44),args:=#[Operand.tmp 10,Operand.tmp 11],argTypes:=#[2,2] },30, "ref.go:137",#[ed_ 0,ed_ 1],none⟩
def oA34_3_3:Oper:=⟨none,Op.store 30 (Operand.tmp 6) (Operand.tmp 12),0, "ref.go:137",#[ed_ 2,ec_ 2,ep_ 0,ep_ 1,ep_ 2],none⟩
def OA34_3:Array Oper:=List.toArray (oA34_3_0::oA34_3_1::oA34_3_2::oA34_3_3::[])
theorem gA34_3_0:OA34_3[0]? = some oA34_3_0:=rfl
theorem gA34_3_1:OA34_3[1]? = some oA34_3_1:=rfl
theorem gA34_3_2:OA34_3[2]? = some oA34_3_2:=rfl
theorem gA34_3_3:OA34_3[3]? = some oA34_3_3:=rfl
def cA34_10:Code:=Code.region 3 OA34_3 false
def cA34_9:Code:=Code.seq cA34_10 Code.ret
def oA34_4_0:Oper:=⟨some 14,Op.binOp Go.BinOp.eql 9 (Operand.tmp 7) (Operand.const (Value.string { data:=#[45] })) 9,4, "ref.go:138",#[],none⟩
def oA34_4_1:Oper:=⟨some 13,Op.assign (Operand.tmp 14),4, "ref.go:138",#[ed_ 0],none⟩
def OA34_4:Array Oper:=List.toArray (oA34_4_0::oA34_4_1::[])
theorem gA34_4_0:OA34_4[0]? = some oA34_4_0:=rfl
theorem gA34_4_1:OA34_4[1]? = some oA34_4_1:=rfl
def cA34_13:Code:=Code.region 4 OA34_4 false
def oA34_5_0:Oper:=⟨some 15,Op.move (Operand.tmp 1),2, "ref.go:139",#[],none⟩
def oA34_5_1:Oper:=⟨some 16,Op.move (Operand.tmp 2),2, "ref.go:139",#[],none⟩
def oA34_5_2:Oper:=⟨some 17,Op.call { callee:=Callee.value (Operand.func 43),args:=#[Operand.tmp 15,Operand.tmp 16],argTypes:=#[2,2] },30, "ref.go:139",#[ed_ 0,ed_ 1],none⟩
def oA34_5_3:Oper:=⟨none,Op.store 30 (Operand.tmp 6) (Operand.tmp 17),0, "ref.go:139",#[ed_ 2,ec_ 2,ep_ 0,ep_ 1,ep_ 2],none⟩
def OA34_5:Array Oper:=List.toArray (oA34_5_0::oA34_5_1::oA34_5_2::oA34_5_3::[])
theorem gA34_5_0:OA34_5[0]? = some oA34_5_0:=rfl
theorem gA34_5_1:OA34_5[1]? = some oA34_5_1:=rfl
theorem gA34_5_2:OA34_5[2]? = some oA34_5_2:=rfl
theorem gA34_5_3:OA34_5[3]? = some oA34_5_3:=rfl
def cA34_16:Code:=Code.region 5 OA34_5 false
def cA34_15:Code:=Code.seq cA34_16 Code.ret
def oA34_6_0:Oper:=⟨some 19,Op.binOp Go.BinOp.eql 9 (Operand.tmp 7) (Operand.const (Value.string { data:=#[42] })) 9,4, "ref.go:140",#[],none⟩
def oA34_6_1:Oper:=⟨some 18,Op.assign (Operand.tmp 19),4, "ref.go:140",#[ed_ 0],none⟩
def OA34_6:Array Oper:=List.toArray (oA34_6_0::oA34_6_1::[])
theorem gA34_6_0:OA34_6[0]? = some oA34_6_0:=rfl
theorem gA34_6_1:OA34_6[1]? = some oA34_6_1:=rfl
def cA34_19:Code:=Code.region 6 OA34_6 false
def oA34_7_0:Oper:=⟨some 20,Op.move (Operand.tmp 1),2, "ref.go:141",#[],none⟩
def oA34_7_1:Oper:=⟨some 21,Op.move (Operand.tmp 2),2, "ref.go:141",#[],none⟩
def oA34_7_2:Oper:=⟨some 22,Op.call { callee:=Callee.value (Operand.func 45),args:=#[Operand.tmp 20,Operand.tmp 21],argTypes:=#[2,2] },30, "ref.go:141",#[ed_ 0,ed_ 1],none⟩
def oA34_7_3:Oper:=⟨none,Op.store 30 (Operand.tmp 6) (Operand.tmp 22),0, "ref.go:141",#[ed_ 2,ec_ 2,ep_ 0,ep_ 1,ep_ 2],none⟩
def OA34_7:Array Oper:=List.toArray (oA34_7_0::oA34_7_1::oA34_7_2::oA34_7_3::[])
theorem gA34_7_0:OA34_7[0]? = some oA34_7_0:=rfl
theorem gA34_7_1:OA34_7[1]? = some oA34_7_1:=rfl
theorem gA34_7_2:OA34_7[2]? = some oA34_7_2:=rfl
theorem gA34_7_3:OA34_7[3]? = some oA34_7_3:=rfl
def cA34_22:Code:=Code.region 7 OA34_7 false
def cA34_21:Code:=Code.seq cA34_22 Code.ret
def oA34_8_0:Oper:=⟨some 24,Op.binOp Go.BinOp.eql 9 (Operand.tmp 7) (Operand.const (Value.string { data:=#[109,105,110] })) 9,4, "ref.go:142",#[],none⟩
def oA34_8_1:Oper:=⟨some 23,Op.assign (Operand.tmp 24),4, "ref.go:142",#[ed_ 0],none⟩
def OA34_8:Array Oper:=List.toArray (oA34_8_0::oA34_8_1::[])
theorem gA34_8_0:OA34_8[0]? = some oA34_8_0:=rfl
theorem gA34_8_1:OA34_8[1]? = some oA34_8_1:=rfl
def cA34_25:Code:=Code.region 8 OA34_8 false
def oA34_9_0:Oper:=⟨some 25,Op.move (Operand.tmp 1),2, "ref.go:143",#[],none⟩
def oA34_9_1:Oper:=⟨some 26,Op.move (Operand.tmp 2),2, "ref.go:143",#[],none⟩
def oA34_9_2:Oper:=⟨some 27,Op.binOp Go.BinOp.lss 2 (Operand.tmp 25) (Operand.tmp 26) 2,4, "ref.go:143",#[ed_ 0,ed_ 1],none⟩
def OA34_9:Array Oper:=List.toArray (oA34_9_0::oA34_9_1::oA34_9_2::[])
theorem gA34_9_0:OA34_9[0]? = some oA34_9_0:=rfl
theorem gA34_9_1:OA34_9[1]? = some oA34_9_1:=rfl
theorem gA34_9_2:OA34_9[2]? = some oA34_9_2:=rfl
def cA34_29:Code:=Code.region 9 OA34_9 false
def oA34_10_0:Oper:=⟨some 28,Op.move (Operand.tmp 1),2, "ref.go:144",#[],none⟩
def oA34_10_1:Oper:=⟨some 29,Op.call { callee:=Callee.value (Operand.func 31),args:=#[Operand.tmp 28],argTypes:=#[2] },30, "ref.go:144",#[ed_ 0],none⟩
def oA34_10_2:Oper:=⟨none,Op.store 30 (Operand.tmp 6) (Operand.tmp 29),0, "ref.go:144",#[ed_ 1,ec_ 1,ep_ 0,ep_ 1],none⟩
def OA34_10:Array Oper:=List.toArray (oA34_10_0::oA34_10_1::oA34_10_2::[])
theorem gA34_10_0:OA34_10[0]? = some oA34_10_0:=rfl
theorem gA34_10_1:OA34_10[1]? = some oA34_10_1:=rfl
theorem gA34_10_2:OA34_10[2]? = some oA34_10_2:=rfl
def cA34_32:Code:=Code.region 10 OA34_10 false
def cA34_31:Code:=Code.seq cA34_32 Code.ret
def cA34_30:Code:=Code.cond (Operand.tmp 27) cA34_31 Code.skip
def cA34_28:Code:=Code.seq cA34_29 cA34_30
def oA34_11_0:Oper:=⟨some 30,Op.move (Operand.tmp 2),2, "ref.go:146",#[],none⟩
def oA34_11_1:Oper:=⟨some 31,Op.call { callee:=Callee.value (Operand.func 31),args:=#[Operand.tmp 30],argTypes:=#[2] },30, "ref.go:146",#[ed_ 0],none⟩
def oA34_11_2:Oper:=⟨none,Op.store 30 (Operand.tmp 6) (Operand.tmp 31),0, "ref.go:146",#[ed_ 1,ec_ 1,ep_ 0,ep_ 1],none⟩
def OA34_11:Array Oper:=List.toArray (oA34_11_0::oA34_11_1::oA34_11_2::[])
theorem gA34_11_0:OA34_11[0]? = some oA34_11_0:=rfl
theorem gA34_11_1:OA34_11[1]? = some oA34_11_1:=rfl
theorem gA34_11_2:OA34_11[2]? = some oA34_11_2:=rfl
def cA34_36:Code:=Code.region 11 OA34_11 false
def cA34_35:Code:=Code.seq cA34_36 Code.ret
def cA34_27:Code:=Code.seq cA34_28 cA34_35
def oA34_12_0:Oper:=⟨some 33,Op.binOp Go.BinOp.eql 9 (Operand.tmp 7) (Operand.const (Value.string { data:=#[109,97,120] })) 9,4, "ref.go:147",#[],none⟩
def oA34_12_1:Oper:=⟨some 32,Op.assign (Operand.tmp 33),4, "ref.go:147",#[ed_ 0],none⟩
def OA34_12:Array Oper:=List.toArray (oA34_12_0::oA34_12_1::[])
theorem gA34_12_0:OA34_12[0]? = some oA34_12_0:=rfl
theorem gA34_12_1:OA34_12[1]? = some oA34_12_1:=rfl
def cA34_39:Code:=Code.region 12 OA34_12 false
def oA34_13_0:Oper:=⟨some 34,Op.move (Operand.tmp 1),2, "ref.go:148",#[],none⟩
def oA34_13_1:Oper:=⟨some 35,Op.move (Operand.tmp 2),2, "ref.go:148",#[],none⟩
def oA34_13_2:Oper:=⟨some 36,Op.binOp Go.BinOp.gtr 2 (Operand.tmp 34) (Operand.tmp 35) 2,4, "ref.go:148",#[ed_ 0,ed_ 1],none⟩
def OA34_13:Array Oper:=List.toArray (oA34_13_0::oA34_13_1::oA34_13_2::[])
theorem gA34_13_0:OA34_13[0]? = some oA34_13_0:=rfl
theorem gA34_13_1:OA34_13[1]? = some oA34_13_1:=rfl
theorem gA34_13_2:OA34_13[2]? = some oA34_13_2:=rfl
def cA34_43:Code:=Code.region 13 OA34_13 false
def oA34_14_0:Oper:=⟨some 37,Op.move (Operand.tmp 1),2, "ref.go:149",#[],none⟩
def oA34_14_1:Oper:=⟨some 38,Op.call { callee:=Callee.value (Operand.func 31),args:=#[Operand.tmp 37],argTypes:=#[2] },30, "ref.go:149",#[ed_ 0],none⟩
def oA34_14_2:Oper:=⟨none,Op.store 30 (Operand.tmp 6) (Operand.tmp 38),0, "ref.go:149",#[ed_ 1,ec_ 1,ep_ 0,ep_ 1],none⟩
def OA34_14:Array Oper:=List.toArray (oA34_14_0::oA34_14_1::oA34_14_2::[])
theorem gA34_14_0:OA34_14[0]? = some oA34_14_0:=rfl
theorem gA34_14_1:OA34_14[1]? = some oA34_14_1:=rfl
theorem gA34_14_2:OA34_14[2]? = some oA34_14_2:=rfl
def cA34_46:Code:=Code.region 14 OA34_14 false
def cA34_45:Code:=Code.seq cA34_46 Code.ret
def cA34_44:Code:=Code.cond (Operand.tmp 36) cA34_45 Code.skip
def cA34_42:Code:=Code.seq cA34_43 cA34_44
def oA34_15_0:Oper:=⟨some 39,Op.move (Operand.tmp 2),2, "ref.go:151",#[],none⟩
def oA34_15_1:Oper:=⟨some 40,Op.call { callee:=Callee.value (Operand.func 31),args:=#[Operand.tmp 39],argTypes:=#[2] },30, "ref.go:151",#[ed_ 0],none⟩
def oA34_15_2:Oper:=⟨none,Op.store 30 (Operand.tmp 6) (Operand.tmp 40),0, "ref.go:151",#[ed_ 1,ec_ 1,ep_ 0,ep_ 1],none⟩
def OA34_15:Array Oper:=List.toArray (oA34_15_0::oA34_15_1::oA34_15_2::[])
theorem gA34_15_0:OA34_15[0]? = some oA34_15_0:=rfl
theorem gA34_15_1:OA34_15[1]? = some oA34_15_1:=rfl
theorem gA34_15_2:OA34_15[2]? = some oA34_15_2:=rfl
def cA34_50:Code:=Code.region 15 OA34_15 false
def cA34_49:Code:=Code.seq cA34_50 Code.ret
def cA34_41:Code:=Code.seq cA34_42 cA34_49
def oA34_16_0:Oper:=⟨some 42,Op.binOp Go.BinOp.eql 9 (Operand.tmp 7) (Operand.const (Value.string { data:=#[47,92] })) 9,4, "ref.go:152",#[],none⟩
def oA34_16_1:Oper:=⟨some 41,Op.assign (Operand.tmp 42),4, "ref.go:152",#[ed_ 0],none⟩
def OA34_16:Array Oper:=List.toArray (oA34_16_0::oA34_16_1::[])
theorem gA34_16_0:OA34_16[0]? = some oA34_16_0:=rfl
theorem gA34_16_1:OA34_16[1]? = some oA34_16_1:=rfl
def cA34_53:Code:=Code.region 16 OA34_16 false
def oA34_17_0:Oper:=⟨some 43,Op.move (Operand.tmp 1),2, "ref.go:153",#[],none⟩
def oA34_17_1:Oper:=⟨some 44,Op.move (Operand.tmp 2),2, "ref.go:153",#[],none⟩
def oA34_17_2:Oper:=⟨some 45,Op.binOp Go.BinOp.and 2 (Operand.tmp 43) (Operand.tmp 44) 2,2, "ref.go:153",#[ed_ 0,ed_ 1],none⟩
def oA34_17_3:Oper:=⟨some 46,Op.call { callee:=Callee.value (Operand.func 31),args:=#[Operand.tmp 45],argTypes:=#[2] },30, "ref.go:153",#[ed_ 2],none⟩
def oA34_17_4:Oper:=⟨none,Op.store 30 (Operand.tmp 6) (Operand.tmp 46),0, "ref.go:153",#[ed_ 3,ec_ 3,ep_ 0,ep_ 1,ep_ 2,ep_ 3],none⟩
def OA34_17:Array Oper:=List.toArray (oA34_17_0::oA34_17_1::oA34_17_2::oA34_17_3::oA34_17_4::[])
theorem gA34_17_0:OA34_17[0]? = some oA34_17_0:=rfl
theorem gA34_17_1:OA34_17[1]? = some oA34_17_1:=rfl
theorem gA34_17_2:OA34_17[2]? = some oA34_17_2:=rfl
theorem gA34_17_3:OA34_17[3]? = some oA34_17_3:=rfl
theorem gA34_17_4:OA34_17[4]? = some oA34_17_4:=rfl
def cA34_56:Code:=Code.region 17 OA34_17 false
def cA34_55:Code:=Code.seq cA34_56 Code.ret
def oA34_18_0:Oper:=⟨some 48,Op.binOp Go.BinOp.eql 9 (Operand.tmp 7) (Operand.const (Value.string { data:=#[92,47] })) 9,4, "ref.go:154",#[],none⟩
def oA34_18_1:Oper:=⟨some 47,Op.assign (Operand.tmp 48),4, "ref.go:154",#[ed_ 0],none⟩
def OA34_18:Array Oper:=List.toArray (oA34_18_0::oA34_18_1::[])
theorem gA34_18_0:OA34_18[0]? = some oA34_18_0:=rfl
theorem gA34_18_1:OA34_18[1]? = some oA34_18_1:=rfl
def cA34_59:Code:=Code.region 18 OA34_18 false
def oA34_19_0:Oper:=⟨some 49,Op.move (Operand.tmp 1),2, "ref.go:155",#[],none⟩
def oA34_19_1:Oper:=⟨some 50,Op.move (Operand.tmp 2),2, "ref.go:155",#[],none⟩
def oA34_19_2:Oper:=⟨some 51,Op.binOp Go.BinOp.or 2 (Operand.tmp 49) (Operand.tmp 50) 2,2, "ref.go:155",#[ed_ 0,ed_ 1],none⟩
def oA34_19_3:Oper:=⟨some 52,Op.call { callee:=Callee.value (Operand.func 31),args:=#[Operand.tmp 51],argTypes:=#[2] },30, "ref.go:155",#[ed_ 2],none⟩
def oA34_19_4:Oper:=⟨none,Op.store 30 (Operand.tmp 6) (Operand.tmp 52),0, "ref.go:155",#[ed_ 3,ec_ 3,ep_ 0,ep_ 1,ep_ 2,ep_ 3],none⟩
def OA34_19:Array Oper:=List.toArray (oA34_19_0::oA34_19_1::oA34_19_2::oA34_19_3::oA34_19_4::[])
theorem gA34_19_0:OA34_19[0]? = some oA34_19_0:=rfl
theorem gA34_19_1:OA34_19[1]? = some oA34_19_1:=rfl
theorem gA34_19_2:OA34_19[2]? = some oA34_19_2:=rfl
theorem gA34_19_3:OA34_19[3]? = some oA34_19_3:=rfl
theorem gA34_19_4:OA34_19[4]? = some oA34_19_4:=rfl
def cA34_62:Code:=Code.region 19 OA34_19 false
def cA34_61:Code:=Code.seq cA34_62 Code.ret
def oA34_20_0:Oper:=⟨some 54,Op.binOp Go.BinOp.eql 9 (Operand.tmp 7) (Operand.const (Value.string { data:=#[120,111,114] })) 9,4, "ref.go:156",#[],none⟩
def oA34_20_1:Oper:=⟨some 53,Op.assign (Operand.tmp 54),4, "ref.go:156",#[ed_ 0],none⟩
def OA34_20:Array Oper:=List.toArray (oA34_20_0::oA34_20_1::[])
theorem gA34_20_0:OA34_20[0]? = some oA34_20_0:=rfl
theorem gA34_20_1:OA34_20[1]? = some oA34_20_1:=rfl
def cA34_65:Code:=Code.region 20 OA34_20 false
def oA34_21_0:Oper:=⟨some 55,Op.move (Operand.tmp 1),2, "ref.go:157",#[],none⟩
def oA34_21_1:Oper:=⟨some 56,Op.move (Operand.tmp 2),2, "ref.go:157",#[],none⟩
def oA34_21_2:Oper:=⟨some 57,Op.binOp Go.BinOp.xor 2 (Operand.tmp 55) (Operand.tmp 56) 2,2, "ref.go:157",#[ed_ 0,ed_ 1],none⟩
def oA34_21_3:Oper:=⟨some 58,Op.call { callee:=Callee.value (Operand.func 31),args:=#[Operand.tmp 57],argTypes:=#[2] },30, "ref.go:157",#[ed_ 2],none⟩
def oA34_21_4:Oper:=⟨none,Op.store 30 (Operand.tmp 6) (Operand.tmp 58),0, "ref.go:157",#[ed_ 3,ec_ 3,ep_ 0,ep_ 1,ep_ 2,ep_ 3],none⟩
def OA34_21:Array Oper:=List.toArray (oA34_21_0::oA34_21_1::oA34_21_2::oA34_21_3::oA34_21_4::[])
theorem gA34_21_0:OA34_21[0]? = some oA34_21_0:=rfl
theorem gA34_21_1:OA34_21[1]? = some oA34_21_1:=rfl
theorem gA34_21_2:OA34_21[2]? = some oA34_21_2:=rfl
theorem gA34_21_3:OA34_21[3]? = some oA34_21_3:=rfl
theorem gA34_21_4:OA34_21[4]? = some oA34_21_4:=rfl
def cA34_68:Code:=Code.region 21 OA34_21 false
def cA34_67:Code:=Code.seq cA34_68 Code.ret
def oA34_22_0:Oper:=⟨some 60,Op.binOp Go.BinOp.eql 9 (Operand.tmp 7) (Operand.const (Value.string { data:=#[47,47] })) 9,4, "ref.go:158",#[],none⟩
def oA34_22_1:Oper:=⟨some 59,Op.assign (Operand.tmp 60),4, "ref.go:158",#[ed_ 0],none⟩
def OA34_22:Array Oper:=List.toArray (oA34_22_0::oA34_22_1::[])
theorem gA34_22_0:OA34_22[0]? = some oA34_22_0:=rfl
theorem gA34_22_1:OA34_22[1]? = some oA34_22_1:=rfl
def cA34_72:Code:=Code.region 22 OA34_22 false
def oA34_23_0:Oper:=⟨some 61,Op.binOp Go.BinOp.eql 9 (Operand.tmp 7) (Operand.const (Value.string { data:=#[114,101,109] })) 9,4, "ref.go:158",#[],none⟩
def oA34_23_1:Oper:=⟨some 59,Op.assign (Operand.tmp 61),4, "ref.go:158",#[ed_ 0],none⟩
def OA34_23:Array Oper:=List.toArray (oA34_23_0::oA34_23_1::[])
theorem gA34_23_0:OA34_23[0]? = some oA34_23_0:=rfl
theorem gA34_23_1:OA34_23[1]? = some oA34_23_1:=rfl
def cA34_76:Code:=Code.region 23 OA34_23 false
def oA34_24_0:Oper:=⟨some 62,Op.binOp Go.BinOp.eql 9 (Operand.tmp 7) (Operand.const (Value.string { data:=#[109,111,100] })) 9,4, "ref.go:158",#[],none⟩
def oA34_24_1:Oper:=⟨some 59,Op.assign (Operand.tmp 62),4, "ref.go:158",#[ed_ 0],none⟩
def OA34_24:Array Oper:=List.toArray (oA34_24_0::oA34_24_1::[])
theorem gA34_24_0:OA34_24[0]? = some oA34_24_0:=rfl
theorem gA34_24_1:OA34_24[1]? = some oA34_24_1:=rfl
def cA34_79:Code:=Code.region 24 OA34_24 false
def cA34_77:Code:=Code.cond (Operand.tmp 59) Code.skip cA34_79
def cA34_75:Code:=Code.seq cA34_76 cA34_77
def cA34_73:Code:=Code.cond (Operand.tmp 59) Code.skip cA34_75
def cA34_71:Code:=Code.seq cA34_72 cA34_73
def oA34_25_0:Oper:=⟨some 63,Op.move (Operand.tmp 0),9, "ref.go:159",#[],none⟩
def oA34_25_1:Oper:=⟨some 64,Op.move (Operand.tmp 1),2, "ref.go:159",#[],none⟩
def oA34_25_2:Oper:=⟨some 65,Op.move (Operand.tmp 2),2, "ref.go:159",#[],none⟩
def oA34_25_3:Oper:=⟨some 66,Op.call { callee:=Callee.value (Operand.func 46),args:=#[Operand.tmp 63,Operand.tmp 64,Operand.tmp 65],argTypes:=#[9,2,2] },30, "ref.go:159",#[ed_ 0,ed_ 1,ed_ 2],none⟩
def oA34_25_4:Oper:=⟨none,Op.store 30 (Operand.tmp 6) (Operand.tmp 66),0, "ref.go:159",#[ed_ 3,ec_ 3,ep_ 0,ep_ 1,ep_ 2,ep_ 3],none⟩
def OA34_25:Array Oper:=List.toArray (oA34_25_0::oA34_25_1::oA34_25_2::oA34_25_3::oA34_25_4::[])
theorem gA34_25_0:OA34_25[0]? = some oA34_25_0:=rfl
theorem gA34_25_1:OA34_25[1]? = some oA34_25_1:=rfl
theorem gA34_25_2:OA34_25[2]? = some oA34_25_2:=rfl
theorem gA34_25_3:OA34_25[3]? = some oA34_25_3:=rfl
theorem gA34_25_4:OA34_25[4]? = some oA34_25_4:=rfl
def cA34_82:Code:=Code.region 25 OA34_25 false
def cA34_81:Code:=Code.seq cA34_82 Code.ret
def oA34_26_0:Oper:=⟨some 68,Op.binOp Go.BinOp.eql 9 (Operand.tmp 7) (Operand.const (Value.string { data:=#[62,62] })) 9,4, "ref.go:160",#[],none⟩
def oA34_26_1:Oper:=⟨some 67,Op.assign (Operand.tmp 68),4, "ref.go:160",#[ed_ 0],none⟩
def OA34_26:Array Oper:=List.toArray (oA34_26_0::oA34_26_1::[])
theorem gA34_26_0:OA34_26[0]? = some oA34_26_0:=rfl
theorem gA34_26_1:OA34_26[1]? = some oA34_26_1:=rfl
def cA34_86:Code:=Code.region 26 OA34_26 false
def oA34_27_0:Oper:=⟨some 69,Op.binOp Go.BinOp.eql 9 (Operand.tmp 7) (Operand.const (Value.string { data:=#[60,60] })) 9,4, "ref.go:160",#[],none⟩
def oA34_27_1:Oper:=⟨some 67,Op.assign (Operand.tmp 69),4, "ref.go:160",#[ed_ 0],none⟩
def OA34_27:Array Oper:=List.toArray (oA34_27_0::oA34_27_1::[])
theorem gA34_27_0:OA34_27[0]? = some oA34_27_0:=rfl
theorem gA34_27_1:OA34_27[1]? = some oA34_27_1:=rfl
def cA34_89:Code:=Code.region 27 OA34_27 false
def cA34_87:Code:=Code.cond (Operand.tmp 67) Code.skip cA34_89
def cA34_85:Code:=Code.seq cA34_86 cA34_87
def oA34_28_0:Oper:=⟨some 70,Op.move (Operand.tmp 0),9, "ref.go:161",#[],none⟩
def oA34_28_1:Oper:=⟨some 71,Op.move (Operand.tmp 1),2, "ref.go:161",#[],none⟩
def oA34_28_2:Oper:=⟨some 72,Op.move (Operand.tmp 2),2, "ref.go:161",#[],none⟩
def oA34_28_3:Oper:=⟨some 73,Op.call { callee:=Callee.value (Operand.func 47),args:=#[Operand.tmp 70,Operand.tmp 71,Operand.tmp 72],argTypes:=#[9,2,2] },30, "ref.go:161",#[ed_ 0,ed_ 1,ed_ 2],none⟩
def oA34_28_4:Oper:=⟨none,Op.store 30 (Operand.tmp 6) (Operand.tmp 73),0, "ref.go:161",#[ed_ 3,ec_ 3,ep_ 0,ep_ 1,ep_ 2,ep_ 3],none⟩
def OA34_28:Array Oper:=List.toArray (oA34_28_0::oA34_28_1::oA34_28_2::oA34_28_3::oA34_28_4::[])
theorem gA34_28_0:OA34_28[0]? = some oA34_28_0:=rfl
theorem gA34_28_1:OA34_28[1]? = some oA34_28_1:=rfl
theorem gA34_28_2:OA34_28[2]? = some oA34_28_2:=rfl
theorem gA34_28_3:OA34_28[3]? = some oA34_28_3:=rfl
theorem gA34_28_4:OA34_28[4]? = some oA34_28_4:=rfl
def cA34_92:Code:=Code.region 28 OA34_28 false
def cA34_91:Code:=Code.seq cA34_92 Code.ret
def cA34_90:Code:=Code.cond (Operand.tmp 67) cA34_91 Code.skip
def cA34_84:Code:=Code.seq cA34_85 cA34_90
def cA34_80:Code:=Code.cond (Operand.tmp 59) cA34_81 cA34_84
def cA34_70:Code:=Code.seq cA34_71 cA34_80
def cA34_66:Code:=Code.cond (Operand.tmp 53) cA34_67 cA34_70
def cA34_64:Code:=Code.seq cA34_65 cA34_66
def cA34_60:Code:=Code.cond (Operand.tmp 47) cA34_61 cA34_64
def cA34_58:Code:=Code.seq cA34_59 cA34_60
def cA34_54:Code:=Code.cond (Operand.tmp 41) cA34_55 cA34_58
def cA34_52:Code:=Code.seq cA34_53 cA34_54
def cA34_40:Code:=Code.cond (Operand.tmp 32) cA34_41 cA34_52
def cA34_38:Code:=Code.seq cA34_39 cA34_40
def cA34_26:Code:=Code.cond (Operand.tmp 23) cA34_27 cA34_38
def cA34_24:Code:=Code.seq cA34_25 cA34_26
def cA34_20:Code:=Code.cond (Operand.tmp 18) cA34_21 cA34_24
def cA34_18:Code:=Code.seq cA34_19 cA34_20
def cA34_14:Code:=Code.cond (Operand.tmp 13) cA34_15 cA34_18
def cA34_12:Code:=Code.seq cA34_13 cA34_14
def cA34_8:Code:=Code.cond (Operand.tmp 8) cA34_9 cA34_12
def cA34_6:Code:=Code.seq cA34_7 cA34_8
def cA34_5:Code:=Code.block 0 cA34_6
def cA34_3:Code:=Code.seq cA34_4 cA34_5
def oA34_29_0:Oper:=⟨some 74,Op.move (Operand.tmp 1),2, "ref.go:163",#[],none⟩
def oA34_29_1:Oper:=⟨some 75,Op.move (Operand.tmp 2),2, "ref.go:163",#[],none⟩
def oA34_29_2:Oper:=⟨some 76,Op.call { callee:=Callee.value (Operand.func 48),args:=#[Operand.tmp 74,Operand.tmp 75],argTypes:=#[2,2] },30, "ref.go:163",#[ed_ 0,ed_ 1],none⟩
def oA34_29_3:Oper:=⟨none,Op.store 30 (Operand.tmp 6) (Operand.tmp 76),0, "ref.go:163",#[ed_ 2,ec_ 2,ep_ 0,ep_ 1,ep_ 2],none⟩
def OA34_29:Array Oper:=List.toArray (oA34_29_0::oA34_29_1::oA34_29_2::oA34_29_3::[])
theorem gA34_29_0:OA34_29[0]? = some oA34_29_0:=rfl
theorem gA34_29_1:OA34_29[1]? = some oA34_29_1:=rfl
theorem gA34_29_2:OA34_29[2]? = some oA34_29_2:=rfl
theorem gA34_29_3:OA34_29[3]? = some oA34_29_3:=rfl
def cA34_96:Code:=Code.region 29 OA34_29 false
def cA34_95:Code:=Code.seq cA34_96 Code.ret
def cA34_2:Code:=Code.seq cA34_3 cA34_95
def cA34_0:Code:=Code.seq cA34_1 cA34_2
theorem enA34_31:Enters Try.prog 31:=enters_of Try.func31 (by kernel_rfl) rfl
theorem enA34_43:Enters Try.prog 43:=enters_of Try.func43 (by kernel_rfl) rfl
theorem enA34_44:Enters Try.prog 44:=enters_of Try.func44 (by kernel_rfl) rfl
theorem enA34_45:Enters Try.prog 45:=enters_of Try.func45 (by kernel_rfl) rfl
theorem enA34_48:Enters Try.prog 48:=enters_of Try.func48 (by kernel_rfl) rfl
theorem bodyA34:Try.f34.body=some cA34_0:=by kernel_rfl
set_option maxRecDepth 100000 in
set_option maxHeartbeats 4000000 in
theorem rtwo_w {W:World} {nm:List UInt8} {a b:Int} {f0:Act} {w0:World} (R:FrS 77 f0) (h0:f0.tmps[0]? = some (.string (str nm))) (h1:f0.tmps[1]? = some (.int .i64 a)) (h2:f0.tmps[2]? = some (.int .i64 b)) (K1:Keep (fun g=>g < W.heap.size) W w0)  (HA:Hid (inR a)) (HB:Hid (inR b)):cA34_0.wp Try.prog (bodyPost Try.prog Try.f34 (fun e w'=>WA (resW (twoR nm a b)) W e w')) f0 w0:=by
 refine wp_seq (x:=cA34_1) (y:=cA34_2) ?_
 change (Code.region 0 OA34_0 false).wp _ _ _ _
 refine reg_in (l:=[0]) rfl ?_
 have F:=fe_ R;clear R
 have Y:(execOp f0.eval oA34_0_0).run Try.prog w0=.ok (.value (.pointer (some ⟨w0.heap.size,0,none⟩))) (w0.alloc (.cells #[.int .i64 0,.int .i64 0,.string (⟨#[]⟩),.int .i64 0,.slice none 0 0,.bool false] 30)):=by unfold oA34_0_0;go_simp
 have B1:=Blk.new w0 30 #[.int .i64 0,.int .i64 0,.string (⟨#[]⟩),.int .i64 0,.slice none 0 0,.bool false]
 obtain ⟨w2,hw⟩:∃ x,x=w0.alloc (.cells #[.int .i64 0,.int .i64 0,.string (⟨#[]⟩),.int .i64 0,.slice none 0 0,.bool false] 30):=⟨_,rfl⟩;rw [← hw] at Y B1
 obtain ⟨b1,hb⟩:∃ x,x=w0.heap.size:=⟨_,rfl⟩;rw [← hb] at Y B1
 have LK1_b1:=lk_ hb K1;replace K1:=ka_ hw K1;clear hw hb
 refine sw_ gA34_0_0 Y F fun a3 F h6=>?_;clear Y
 refine st_end ?_
 replace h0:=F.of h0;replace h1:=F.of h1;replace h2:=F.of h2;have R:=F.r;clear F
 change (cA34_2).wp _ _ _ _
 refine wp_seq (x:=cA34_3) (y:=cA34_95) ?_
 refine wp_seq (x:=cA34_4) (y:=cA34_5) ?_
 change (Code.region 1 OA34_1 false).wp _ _ _ _
 refine reg_in (l:=[0]) rfl ?_
 have F:=fe_ R;clear R
 refine sw_ gA34_1_0 (ym_ rfl (F.of h0)) F fun a4 F h7=>?_
 refine st_end ?_
 replace h0:=F.of h0;replace h1:=F.of h1;replace h2:=F.of h2;replace h6:=F.of h6;have R:=F.r;clear F
 change (cA34_5).wp _ _ _ _
 refine wp_block (id:=0) (c:=cA34_6) ?_
 refine wp_seq (x:=cA34_7) (y:=cA34_8) ?_
 change (Code.region 2 OA34_2 false).wp _ _ _ _
 refine reg_in (l:=[0,1]) rfl ?_
 have F:=fe_ R;clear R
 obtain ⟨b5,hb5⟩:∃ x,(((str nm).toList == [43]))=x:=⟨_,rfl⟩
 have Y:(execOp a4.eval oA34_2_0).run Try.prog w2=.ok (.value (.bool b5)) w2:=by have r7:=F.of h7;rw [← hb5];unfold oA34_2_0;go_simp
 refine sw_ gA34_2_0 Y F fun a6 F h9=>?_;clear Y
 refine sv_ gA34_2_1 (ya_ rfl h9) fun a7 e=>?_
 clear h9;have h8:=pt_ F e;replace F:=pu_ F e;clear e
 refine st_end ?_
 replace h0:=F.of h0;replace h1:=F.of h1;replace h2:=F.of h2;replace h6:=F.of h6;replace h7:=F.of h7;have R:=F.r;clear F
 change (cA34_8).wp _ _ _ _
 cases b5 with
 | false =>
  have fb5:=hb5;clear hb5
  simp only [dd_] at fb5
  refine wp_cond_false (x:=cA34_9) (y:=cA34_12) (eval_slot h8) ?_
  refine wp_seq (x:=cA34_13) (y:=cA34_14) ?_
  change (Code.region 4 OA34_4 false).wp _ _ _ _
  refine reg_in (l:=[0,1]) rfl ?_
  have F:=fe_ R;clear R
  obtain ⟨b8,hb8⟩:∃ x,(((str nm).toList == [45]))=x:=⟨_,rfl⟩
  have Y:(execOp a7.eval oA34_4_0).run Try.prog w2=.ok (.value (.bool b8)) w2:=by have r7:=F.of h7;rw [← hb8];unfold oA34_4_0;go_simp
  refine sw_ gA34_4_0 Y F fun a9 F h14=>?_;clear Y
  refine sv_ gA34_4_1 (ya_ rfl h14) fun a10 e=>?_
  clear h14;have h13:=pt_ F e;replace F:=pu_ F e;clear e
  refine st_end ?_
  replace h0:=F.of h0;replace h1:=F.of h1;replace h2:=F.of h2;replace h6:=F.of h6;replace h7:=F.of h7;clear h8;have R:=F.r;clear F
  change (cA34_14).wp _ _ _ _
  cases b8 with
  | false =>
   have fb8:=hb8;clear hb8
   simp only [dd_] at fb8
   refine wp_cond_false (x:=cA34_15) (y:=cA34_18) (eval_slot h13) ?_
   refine wp_seq (x:=cA34_19) (y:=cA34_20) ?_
   change (Code.region 6 OA34_6 false).wp _ _ _ _
   refine reg_in (l:=[0,1]) rfl ?_
   have F:=fe_ R;clear R
   obtain ⟨b11,hb11⟩:∃ x,(((str nm).toList == [42]))=x:=⟨_,rfl⟩
   have Y:(execOp a10.eval oA34_6_0).run Try.prog w2=.ok (.value (.bool b11)) w2:=by have r7:=F.of h7;rw [← hb11];unfold oA34_6_0;go_simp
   refine sw_ gA34_6_0 Y F fun a12 F h19=>?_;clear Y
   refine sv_ gA34_6_1 (ya_ rfl h19) fun a13 e=>?_
   clear h19;have h18:=pt_ F e;replace F:=pu_ F e;clear e
   refine st_end ?_
   replace h0:=F.of h0;replace h1:=F.of h1;replace h2:=F.of h2;replace h6:=F.of h6;replace h7:=F.of h7;clear h13;have R:=F.r;clear F
   change (cA34_20).wp _ _ _ _
   cases b11 with
   | false =>
    have fb11:=hb11;clear hb11
    simp only [dd_] at fb11
    refine wp_cond_false (x:=cA34_21) (y:=cA34_24) (eval_slot h18) ?_
    refine wp_seq (x:=cA34_25) (y:=cA34_26) ?_
    change (Code.region 8 OA34_8 false).wp _ _ _ _
    refine reg_in (l:=[0,1]) rfl ?_
    have F:=fe_ R;clear R
    obtain ⟨b14,hb14⟩:∃ x,(((str nm).toList == [109,105,110]))=x:=⟨_,rfl⟩
    have Y:(execOp a13.eval oA34_8_0).run Try.prog w2=.ok (.value (.bool b14)) w2:=by have r7:=F.of h7;rw [← hb14];unfold oA34_8_0;go_simp
    refine sw_ gA34_8_0 Y F fun a15 F h24=>?_;clear Y
    refine sv_ gA34_8_1 (ya_ rfl h24) fun a16 e=>?_
    clear h24;have h23:=pt_ F e;replace F:=pu_ F e;clear e
    refine st_end ?_
    replace h0:=F.of h0;replace h1:=F.of h1;replace h2:=F.of h2;replace h6:=F.of h6;replace h7:=F.of h7;clear h18;have R:=F.r;clear F
    change (cA34_26).wp _ _ _ _
    cases b14 with
    | false =>
     have fb14:=hb14;clear hb14
     simp only [dd_] at fb14
     refine wp_cond_false (x:=cA34_27) (y:=cA34_38) (eval_slot h23) ?_
     refine wp_seq (x:=cA34_39) (y:=cA34_40) ?_
     change (Code.region 12 OA34_12 false).wp _ _ _ _
     refine reg_in (l:=[0,1]) rfl ?_
     have F:=fe_ R;clear R
     obtain ⟨b17,hb17⟩:∃ x,(((str nm).toList == [109,97,120]))=x:=⟨_,rfl⟩
     have Y:(execOp a16.eval oA34_12_0).run Try.prog w2=.ok (.value (.bool b17)) w2:=by have r7:=F.of h7;rw [← hb17];unfold oA34_12_0;go_simp
     refine sw_ gA34_12_0 Y F fun a18 F h33=>?_;clear Y
     refine sv_ gA34_12_1 (ya_ rfl h33) fun a19 e=>?_
     clear h33;have h32:=pt_ F e;replace F:=pu_ F e;clear e
     refine st_end ?_
     replace h0:=F.of h0;replace h1:=F.of h1;replace h2:=F.of h2;replace h6:=F.of h6;replace h7:=F.of h7;clear h23;have R:=F.r;clear F
     change (cA34_40).wp _ _ _ _
     cases b17 with
     | false =>
      have fb17:=hb17;clear hb17
      simp only [dd_] at fb17
      refine wp_cond_false (x:=cA34_41) (y:=cA34_52) (eval_slot h32) ?_
      refine wp_seq (x:=cA34_53) (y:=cA34_54) ?_
      change (Code.region 16 OA34_16 false).wp _ _ _ _
      refine reg_in (l:=[0,1]) rfl ?_
      have F:=fe_ R;clear R
      obtain ⟨b20,hb20⟩:∃ x,(((str nm).toList == [47,92]))=x:=⟨_,rfl⟩
      have Y:(execOp a19.eval oA34_16_0).run Try.prog w2=.ok (.value (.bool b20)) w2:=by have r7:=F.of h7;rw [← hb20];unfold oA34_16_0;go_simp
      refine sw_ gA34_16_0 Y F fun a21 F h42=>?_;clear Y
      refine sv_ gA34_16_1 (ya_ rfl h42) fun a22 e=>?_
      clear h42;have h41:=pt_ F e;replace F:=pu_ F e;clear e
      refine st_end ?_
      replace h0:=F.of h0;replace h1:=F.of h1;replace h2:=F.of h2;replace h6:=F.of h6;replace h7:=F.of h7;clear h32;have R:=F.r;clear F
      change (cA34_54).wp _ _ _ _
      cases b20 with
      | false =>
       have fb20:=hb20;clear hb20
       simp only [dd_] at fb20
       refine wp_cond_false (x:=cA34_55) (y:=cA34_58) (eval_slot h41) ?_
       refine wp_seq (x:=cA34_59) (y:=cA34_60) ?_
       change (Code.region 18 OA34_18 false).wp _ _ _ _
       refine reg_in (l:=[0,1]) rfl ?_
       have F:=fe_ R;clear R
       obtain ⟨b23,hb23⟩:∃ x,(((str nm).toList == [92,47]))=x:=⟨_,rfl⟩
       have Y:(execOp a22.eval oA34_18_0).run Try.prog w2=.ok (.value (.bool b23)) w2:=by have r7:=F.of h7;rw [← hb23];unfold oA34_18_0;go_simp
       refine sw_ gA34_18_0 Y F fun a24 F h48=>?_;clear Y
       refine sv_ gA34_18_1 (ya_ rfl h48) fun a25 e=>?_
       clear h48;have h47:=pt_ F e;replace F:=pu_ F e;clear e
       refine st_end ?_
       replace h0:=F.of h0;replace h1:=F.of h1;replace h2:=F.of h2;replace h6:=F.of h6;replace h7:=F.of h7;clear h41;have R:=F.r;clear F
       change (cA34_60).wp _ _ _ _
       cases b23 with
       | false =>
        have fb23:=hb23;clear hb23
        simp only [dd_] at fb23
        refine wp_cond_false (x:=cA34_61) (y:=cA34_64) (eval_slot h47) ?_
        refine wp_seq (x:=cA34_65) (y:=cA34_66) ?_
        change (Code.region 20 OA34_20 false).wp _ _ _ _
        refine reg_in (l:=[0,1]) rfl ?_
        have F:=fe_ R;clear R
        obtain ⟨b26,hb26⟩:∃ x,(((str nm).toList == [120,111,114]))=x:=⟨_,rfl⟩
        have Y:(execOp a25.eval oA34_20_0).run Try.prog w2=.ok (.value (.bool b26)) w2:=by have r7:=F.of h7;rw [← hb26];unfold oA34_20_0;go_simp
        refine sw_ gA34_20_0 Y F fun a27 F h54=>?_;clear Y
        refine sv_ gA34_20_1 (ya_ rfl h54) fun a28 e=>?_
        clear h54;have h53:=pt_ F e;replace F:=pu_ F e;clear e
        refine st_end ?_
        replace h0:=F.of h0;replace h1:=F.of h1;replace h2:=F.of h2;replace h6:=F.of h6;replace h7:=F.of h7;clear h47;have R:=F.r;clear F
        change (cA34_66).wp _ _ _ _
        cases b26 with
        | false =>
         have fb26:=hb26;clear hb26
         simp only [dd_] at fb26
         refine wp_cond_false (x:=cA34_67) (y:=cA34_70) (eval_slot h53) ?_
         refine wp_seq (x:=cA34_71) (y:=cA34_80) ?_
         refine wp_seq (x:=cA34_72) (y:=cA34_73) ?_
         change (Code.region 22 OA34_22 false).wp _ _ _ _
         refine reg_in (l:=[0,1]) rfl ?_
         have F:=fe_ R;clear R
         obtain ⟨b29,hb29⟩:∃ x,(((str nm).toList == [47,47]))=x:=⟨_,rfl⟩
         have Y:(execOp a28.eval oA34_22_0).run Try.prog w2=.ok (.value (.bool b29)) w2:=by have r7:=F.of h7;rw [← hb29];unfold oA34_22_0;go_simp
         refine sw_ gA34_22_0 Y F fun a30 F h60=>?_;clear Y
         refine sv_ gA34_22_1 (ya_ rfl h60) fun a31 e=>?_
         clear h60;have h59:=pt_ F e;replace F:=pu_ F e;clear e
         refine st_end ?_
         replace h0:=F.of h0;replace h1:=F.of h1;replace h2:=F.of h2;replace h6:=F.of h6;replace h7:=F.of h7;clear h53;have R:=F.r;clear F
         change (cA34_73).wp _ _ _ _
         cases b29 with
         | false =>
          have fb29:=hb29;clear hb29
          simp only [dd_] at fb29
          refine wp_cond_false (x:=Code.skip) (y:=cA34_75) (eval_slot h59) ?_
          refine wp_seq (x:=cA34_76) (y:=cA34_77) ?_
          change (Code.region 23 OA34_23 false).wp _ _ _ _
          refine reg_in (l:=[0,1]) rfl ?_
          have F:=fe_ R;clear R
          obtain ⟨b32,hb32⟩:∃ x,(((str nm).toList == [114,101,109]))=x:=⟨_,rfl⟩
          have Y:(execOp a31.eval oA34_23_0).run Try.prog w2=.ok (.value (.bool b32)) w2:=by have r7:=F.of h7;rw [← hb32];unfold oA34_23_0;go_simp
          refine sw_ gA34_23_0 Y F fun a33 F h61=>?_;clear Y
          refine sv_ gA34_23_1 (ya_ rfl h61) fun a34 e=>?_
          clear h61 h59;have h59:=pt_ F e;replace F:=pu_ F e;clear e
          refine st_end ?_
          replace h0:=F.of h0;replace h1:=F.of h1;replace h2:=F.of h2;replace h6:=F.of h6;replace h7:=F.of h7;have R:=F.r;clear F
          change (cA34_77).wp _ _ _ _
          cases b32 with
          | false =>
           have fb32:=hb32;clear hb32
           simp only [dd_] at fb32
           refine wp_cond_false (x:=Code.skip) (y:=cA34_79) (eval_slot h59) ?_
           change (Code.region 24 OA34_24 false).wp _ _ _ _
           refine reg_in (l:=[0,1]) rfl ?_
           have F:=fe_ R;clear R
           obtain ⟨b35,hb35⟩:∃ x,(((str nm).toList == [109,111,100]))=x:=⟨_,rfl⟩
           have Y:(execOp a34.eval oA34_24_0).run Try.prog w2=.ok (.value (.bool b35)) w2:=by have r7:=F.of h7;rw [← hb35];unfold oA34_24_0;go_simp
           refine sw_ gA34_24_0 Y F fun a36 F h62=>?_;clear Y
           refine sv_ gA34_24_1 (ya_ rfl h62) fun a37 e=>?_
           clear h62 h59;have h59:=pt_ F e;replace F:=pu_ F e;clear e
           refine st_end ?_
           replace h0:=F.of h0;replace h1:=F.of h1;replace h2:=F.of h2;replace h6:=F.of h6;replace h7:=F.of h7;have R:=F.r;clear F
           change (cA34_80).wp _ _ _ _
           cases b35 with
           | false =>
            have fb35:=hb35;clear hb35
            simp only [dd_] at fb35
            refine wp_cond_false (x:=cA34_81) (y:=cA34_84) (eval_slot h59) ?_
            refine wp_seq (x:=cA34_85) (y:=cA34_90) ?_
            refine wp_seq (x:=cA34_86) (y:=cA34_87) ?_
            change (Code.region 26 OA34_26 false).wp _ _ _ _
            refine reg_in (l:=[0,1]) rfl ?_
            have F:=fe_ R;clear R
            obtain ⟨b38,hb38⟩:∃ x,(((str nm).toList == [62,62]))=x:=⟨_,rfl⟩
            have Y:(execOp a37.eval oA34_26_0).run Try.prog w2=.ok (.value (.bool b38)) w2:=by have r7:=F.of h7;rw [← hb38];unfold oA34_26_0;go_simp
            refine sw_ gA34_26_0 Y F fun a39 F h68=>?_;clear Y
            refine sv_ gA34_26_1 (ya_ rfl h68) fun a40 e=>?_
            clear h68;have h67:=pt_ F e;replace F:=pu_ F e;clear e
            refine st_end ?_
            replace h0:=F.of h0;replace h1:=F.of h1;replace h2:=F.of h2;replace h6:=F.of h6;replace h7:=F.of h7;clear h59;have R:=F.r;clear F
            change (cA34_87).wp _ _ _ _
            cases b38 with
            | false =>
             have fb38:=hb38;clear hb38
             simp only [dd_] at fb38
             refine wp_cond_false (x:=Code.skip) (y:=cA34_89) (eval_slot h67) ?_
             change (Code.region 27 OA34_27 false).wp _ _ _ _
             refine reg_in (l:=[0,1]) rfl ?_
             have F:=fe_ R;clear R
             obtain ⟨b41,hb41⟩:∃ x,(((str nm).toList == [60,60]))=x:=⟨_,rfl⟩
             have Y:(execOp a40.eval oA34_27_0).run Try.prog w2=.ok (.value (.bool b41)) w2:=by have r7:=F.of h7;rw [← hb41];unfold oA34_27_0;go_simp
             refine sw_ gA34_27_0 Y F fun a42 F h69=>?_;clear Y
             refine sv_ gA34_27_1 (ya_ rfl h69) fun a43 e=>?_
             clear h69 h67;have h67:=pt_ F e;replace F:=pu_ F e;clear e
             refine st_end ?_
             replace h0:=F.of h0;replace h1:=F.of h1;replace h2:=F.of h2;replace h6:=F.of h6;clear h7;have R:=F.r;clear F
             change (cA34_90).wp _ _ _ _
             cases b41 with
             | false =>
              have fb41:=hb41;clear hb41
              simp only [dd_] at fb41
              refine wp_cond_false (x:=cA34_91) (y:=Code.skip) (eval_slot h67) ?_
              refine wp_skip ?_
              change (cA34_95).wp _ _ _ _
              refine wp_seq (x:=cA34_96) (y:=Code.ret) ?_
              change (Code.region 29 OA34_29 false).wp _ _ _ _
              refine reg_in (l:=[0,1,2,3]) rfl ?_
              have F:=fe_ R;clear R
              refine sw_ gA34_29_0 (ym_ rfl (F.of h1)) F fun a44 F h74=>?_
              refine sv_ gA34_29_1 (ym_ rfl (F.of h2)) fun a45 e=>?_
              have h75:=pt_ F e;replace F:=pu_ F e;replace h74:=so_ e h74;clear e
              have hca:=rpow_any w2 HA.out HB.out
              have UKX_b1:=B1.lt
              have HWKX:W.heap.size ≤ w2.heap.size:=K1.size
              refine st_call gA34_29_2 rfl (wanted_free rfl) (yc2_ enA34_48 rfl h74 h75) ((hca).mono ?_)
              rintro e9 w46 ⟨ax,cx,rfl,hx,kk⟩
              replace K1:=keep_onto K1 kk
              replace B1:=blk_on B1 kk
              clear kk
              clear hca
              have HX:=Lib.hid hx;clear hx
              have KX:=Keep.refl (fun g=>w2.heap.size ≤ g∧g < w46.heap.size) w46
              refine ⟨_,rfl,fun a47 e=>?_⟩
              clear h74 h75;have h76:=pt_ F e;replace F:=pu_ F e;clear e
              obtain ⟨w48,Y,hk,hB⟩:=ys6_ (o:=oA34_29_3) rfl (F.of h6) h76 B1
              replace K1:=kx_ hk K1 (Nat.not_lt.2 LK1_b1);replace KX:=kx_ hk KX (fun hx=>absurd hx.1 (Nat.not_le.2 UKX_b1));clear B1;have B1:=hB;clear hB hk
              refine st_skip gA34_29_3 rfl (wanted_free rfl) Y ?_;clear Y
              refine st_end ?_
              clear h0;clear h1;clear h2;replace h6:=F.of h6;clear h67;clear h76;have R:=F.r;clear F
              change (Code.ret).wp _ _ _ _
              refine wp_ret ?_
              change bodyPost Try.prog Try.f34 (fun e w'=>WA (resW (twoR nm a b)) W e w') .ret a47 w48
              refine ret_cell6 (fn:=Try.f34) rfl R h6 B1 ?_
              simp only [str_list] at *;exact (show WA (resW (twoR nm a b)) W _ _ by rw [show twoR nm a b=powR a b by simp only [twoR, *,if_false]];exact ⟨ax,cx,rfl,(HX.out.on KX).up HWKX,K1⟩)
             | true =>
              have fb41:=hb41;clear hb41
              simp only [dd_] at fb41
              refine wp_cond_true (x:=cA34_91) (y:=Code.skip) (eval_slot h67) ?_
              refine wp_seq (x:=cA34_92) (y:=Code.ret) ?_
              change (Code.region 28 OA34_28 false).wp _ _ _ _
              refine reg_in (l:=[0,1,2,3,4]) rfl ?_
              have F:=fe_ R;clear R
              refine sw_ gA34_28_0 (ym_ rfl (F.of h0)) F fun a49 F h70=>?_
              refine sv_ gA34_28_1 (ym_ rfl (F.of h1)) fun a50 e=>?_
              have h71:=pt_ F e;replace F:=pu_ F e;replace h70:=so_ e h70;clear e
              refine sv_ gA34_28_2 (ym_ rfl (F.of h2)) fun a51 e=>?_
              have h72:=pt_ F e;replace F:=pu_ F e;replace h70:=so_ e h70;replace h71:=so_ e h71;clear e
              have Y:(execOp a51.eval oA34_28_3).run Try.prog w2=.ok (.enter 47 #[.string (str nm),.int .i64 a,.int .i64 b]) w2:=by unfold oA34_28_3;go_simp
              have hnm:nm=[60,60]:=by simpa [str_list] using fb41
              have hca:=rshift_shl_any w2 HA.out HB.out
              rw [← hnm] at hca
              have UKX_b1:=B1.lt
              have HWKX:W.heap.size ≤ w2.heap.size:=K1.size
              refine st_call gA34_28_3 rfl (wanted_free rfl) Y ((hca).mono ?_);clear Y
              rintro e9 w52 ⟨ax,cx,rfl,hx,kk⟩
              replace K1:=keep_onto K1 kk
              replace B1:=blk_on B1 kk
              clear kk
              clear hca
              have HX:=Lib.hid hx;clear hx
              have KX:=Keep.refl (fun g=>w2.heap.size ≤ g∧g < w52.heap.size) w52
              refine ⟨_,rfl,fun a53 e=>?_⟩
              clear h70 h71 h72;have h73:=pt_ F e;replace F:=pu_ F e;clear e
              obtain ⟨w54,Y,hk,hB⟩:=ys6_ (o:=oA34_28_4) rfl (F.of h6) h73 B1
              replace K1:=kx_ hk K1 (Nat.not_lt.2 LK1_b1);replace KX:=kx_ hk KX (fun hx=>absurd hx.1 (Nat.not_le.2 UKX_b1));clear B1;have B1:=hB;clear hB hk
              refine st_skip gA34_28_4 rfl (wanted_free rfl) Y ?_;clear Y
              refine st_end ?_
              clear h0;replace h1:=F.of h1;replace h2:=F.of h2;replace h6:=F.of h6;clear h67;clear h73;have R:=F.r;clear F
              change (Code.ret).wp _ _ _ _
              refine wp_ret ?_
              change bodyPost Try.prog Try.f34 (fun e w'=>WA (resW (twoR nm a b)) W e w') .ret a53 w54
              refine ret_cell6 (fn:=Try.f34) rfl R h6 B1 ?_
              exact (show WA (resW (twoR nm a b)) W _ _ by rw [show twoR nm a b=shlR a b by rw [hnm];rfl];exact ⟨ax,cx,rfl,(HX.out.on KX).up HWKX,K1⟩)
            | true =>
             have fb38:=hb38;clear hb38
             simp only [dd_] at fb38
             refine wp_cond_true (x:=Code.skip) (y:=cA34_89) (eval_slot h67) ?_
             refine wp_skip ?_
             change (cA34_90).wp _ _ _ _
             refine wp_cond_true (x:=cA34_91) (y:=Code.skip) (eval_slot h67) ?_
             refine wp_seq (x:=cA34_92) (y:=Code.ret) ?_
             change (Code.region 28 OA34_28 false).wp _ _ _ _
             refine reg_in (l:=[0,1,2,3,4]) rfl ?_
             have F:=fe_ R;clear R
             refine sw_ gA34_28_0 (ym_ rfl (F.of h0)) F fun a55 F h70=>?_
             refine sv_ gA34_28_1 (ym_ rfl (F.of h1)) fun a56 e=>?_
             have h71:=pt_ F e;replace F:=pu_ F e;replace h70:=so_ e h70;clear e
             refine sv_ gA34_28_2 (ym_ rfl (F.of h2)) fun a57 e=>?_
             have h72:=pt_ F e;replace F:=pu_ F e;replace h70:=so_ e h70;replace h71:=so_ e h71;clear e
             have Y:(execOp a57.eval oA34_28_3).run Try.prog w2=.ok (.enter 47 #[.string (str nm),.int .i64 a,.int .i64 b]) w2:=by unfold oA34_28_3;go_simp
             have hnm:nm=[62,62]:=by simpa [str_list] using fb38
             have hca:=rshift_shr_any w2 HA.out HB.out
             rw [← hnm] at hca
             have UKX_b1:=B1.lt
             have HWKX:W.heap.size ≤ w2.heap.size:=K1.size
             refine st_call gA34_28_3 rfl (wanted_free rfl) Y ((hca).mono ?_);clear Y
             rintro e9 w58 ⟨ax,cx,rfl,hx,kk⟩
             replace K1:=keep_onto K1 kk
             replace B1:=blk_on B1 kk
             clear kk
             clear hca
             have HX:=Lib.hid hx;clear hx
             have KX:=Keep.refl (fun g=>w2.heap.size ≤ g∧g < w58.heap.size) w58
             refine ⟨_,rfl,fun a59 e=>?_⟩
             clear h70 h71 h72;have h73:=pt_ F e;replace F:=pu_ F e;clear e
             obtain ⟨w60,Y,hk,hB⟩:=ys6_ (o:=oA34_28_4) rfl (F.of h6) h73 B1
             replace K1:=kx_ hk K1 (Nat.not_lt.2 LK1_b1);replace KX:=kx_ hk KX (fun hx=>absurd hx.1 (Nat.not_le.2 UKX_b1));clear B1;have B1:=hB;clear hB hk
             refine st_skip gA34_28_4 rfl (wanted_free rfl) Y ?_;clear Y
             refine st_end ?_
             clear h0;replace h1:=F.of h1;replace h2:=F.of h2;replace h6:=F.of h6;clear h7;clear h67;clear h73;have R:=F.r;clear F
             change (Code.ret).wp _ _ _ _
             refine wp_ret ?_
             change bodyPost Try.prog Try.f34 (fun e w'=>WA (resW (twoR nm a b)) W e w') .ret a59 w60
             refine ret_cell6 (fn:=Try.f34) rfl R h6 B1 ?_
             exact (show WA (resW (twoR nm a b)) W _ _ by rw [show twoR nm a b=shrR a b by rw [hnm];rfl];exact ⟨ax,cx,rfl,(HX.out.on KX).up HWKX,K1⟩)
           | true =>
            have fb35:=hb35;clear hb35
            simp only [dd_] at fb35
            refine wp_cond_true (x:=cA34_81) (y:=cA34_84) (eval_slot h59) ?_
            refine wp_seq (x:=cA34_82) (y:=Code.ret) ?_
            change (Code.region 25 OA34_25 false).wp _ _ _ _
            refine reg_in (l:=[0,1,2,3,4]) rfl ?_
            have F:=fe_ R;clear R
            refine sw_ gA34_25_0 (ym_ rfl (F.of h0)) F fun a61 F h63=>?_
            refine sv_ gA34_25_1 (ym_ rfl (F.of h1)) fun a62 e=>?_
            have h64:=pt_ F e;replace F:=pu_ F e;replace h63:=so_ e h63;clear e
            refine sv_ gA34_25_2 (ym_ rfl (F.of h2)) fun a63 e=>?_
            have h65:=pt_ F e;replace F:=pu_ F e;replace h63:=so_ e h63;replace h64:=so_ e h64;clear e
            have Y:(execOp a63.eval oA34_25_3).run Try.prog w2=.ok (.enter 46 #[.string (str nm),.int .i64 a,.int .i64 b]) w2:=by unfold oA34_25_3;go_simp
            have hnm:nm=[109,111,100]:=by simpa [str_list] using fb35
            have hca:=rdiv_mod_any w2 HA.out HB.out
            rw [← hnm] at hca
            have UKX_b1:=B1.lt
            have HWKX:W.heap.size ≤ w2.heap.size:=K1.size
            refine st_call gA34_25_3 rfl (wanted_free rfl) Y ((hca).mono ?_);clear Y
            rintro e9 w64 ⟨ax,cx,rfl,hx,kk⟩
            replace K1:=keep_onto K1 kk
            replace B1:=blk_on B1 kk
            clear kk
            clear hca
            have HX:=Lib.hid hx;clear hx
            have KX:=Keep.refl (fun g=>w2.heap.size ≤ g∧g < w64.heap.size) w64
            refine ⟨_,rfl,fun a65 e=>?_⟩
            clear h63 h64 h65;have h66:=pt_ F e;replace F:=pu_ F e;clear e
            obtain ⟨w66,Y,hk,hB⟩:=ys6_ (o:=oA34_25_4) rfl (F.of h6) h66 B1
            replace K1:=kx_ hk K1 (Nat.not_lt.2 LK1_b1);replace KX:=kx_ hk KX (fun hx=>absurd hx.1 (Nat.not_le.2 UKX_b1));clear B1;have B1:=hB;clear hB hk
            refine st_skip gA34_25_4 rfl (wanted_free rfl) Y ?_;clear Y
            refine st_end ?_
            replace h0:=F.of h0;replace h1:=F.of h1;replace h2:=F.of h2;replace h6:=F.of h6;replace h7:=F.of h7;clear h59;clear h66;have R:=F.r;clear F
            change (Code.ret).wp _ _ _ _
            refine wp_ret ?_
            change bodyPost Try.prog Try.f34 (fun e w'=>WA (resW (twoR nm a b)) W e w') .ret a65 w66
            refine ret_cell6 (fn:=Try.f34) rfl R h6 B1 ?_
            exact (show WA (resW (twoR nm a b)) W _ _ by rw [show twoR nm a b=modR a b by rw [hnm];rfl];exact ⟨ax,cx,rfl,(HX.out.on KX).up HWKX,K1⟩)
          | true =>
           have fb32:=hb32;clear hb32
           simp only [dd_] at fb32
           refine wp_cond_true (x:=Code.skip) (y:=cA34_79) (eval_slot h59) ?_
           refine wp_skip ?_
           change (cA34_80).wp _ _ _ _
           refine wp_cond_true (x:=cA34_81) (y:=cA34_84) (eval_slot h59) ?_
           refine wp_seq (x:=cA34_82) (y:=Code.ret) ?_
           change (Code.region 25 OA34_25 false).wp _ _ _ _
           refine reg_in (l:=[0,1,2,3,4]) rfl ?_
           have F:=fe_ R;clear R
           refine sw_ gA34_25_0 (ym_ rfl (F.of h0)) F fun a67 F h63=>?_
           refine sv_ gA34_25_1 (ym_ rfl (F.of h1)) fun a68 e=>?_
           have h64:=pt_ F e;replace F:=pu_ F e;replace h63:=so_ e h63;clear e
           refine sv_ gA34_25_2 (ym_ rfl (F.of h2)) fun a69 e=>?_
           have h65:=pt_ F e;replace F:=pu_ F e;replace h63:=so_ e h63;replace h64:=so_ e h64;clear e
           have Y:(execOp a69.eval oA34_25_3).run Try.prog w2=.ok (.enter 46 #[.string (str nm),.int .i64 a,.int .i64 b]) w2:=by unfold oA34_25_3;go_simp
           have hnm:nm=[114,101,109]:=by simpa [str_list] using fb32
           have hca:=rdiv_rem_any w2 HA.out HB.out
           rw [← hnm] at hca
           have UKX_b1:=B1.lt
           have HWKX:W.heap.size ≤ w2.heap.size:=K1.size
           refine st_call gA34_25_3 rfl (wanted_free rfl) Y ((hca).mono ?_);clear Y
           rintro e9 w70 ⟨ax,cx,rfl,hx,kk⟩
           replace K1:=keep_onto K1 kk
           replace B1:=blk_on B1 kk
           clear kk
           clear hca
           have HX:=Lib.hid hx;clear hx
           have KX:=Keep.refl (fun g=>w2.heap.size ≤ g∧g < w70.heap.size) w70
           refine ⟨_,rfl,fun a71 e=>?_⟩
           clear h63 h64 h65;have h66:=pt_ F e;replace F:=pu_ F e;clear e
           obtain ⟨w72,Y,hk,hB⟩:=ys6_ (o:=oA34_25_4) rfl (F.of h6) h66 B1
           replace K1:=kx_ hk K1 (Nat.not_lt.2 LK1_b1);replace KX:=kx_ hk KX (fun hx=>absurd hx.1 (Nat.not_le.2 UKX_b1));clear B1;have B1:=hB;clear hB hk
           refine st_skip gA34_25_4 rfl (wanted_free rfl) Y ?_;clear Y
           refine st_end ?_
           replace h0:=F.of h0;replace h1:=F.of h1;replace h2:=F.of h2;replace h6:=F.of h6;replace h7:=F.of h7;clear h59;clear h66;have R:=F.r;clear F
           change (Code.ret).wp _ _ _ _
           refine wp_ret ?_
           change bodyPost Try.prog Try.f34 (fun e w'=>WA (resW (twoR nm a b)) W e w') .ret a71 w72
           refine ret_cell6 (fn:=Try.f34) rfl R h6 B1 ?_
           exact (show WA (resW (twoR nm a b)) W _ _ by rw [show twoR nm a b=remR a b by rw [hnm];rfl];exact ⟨ax,cx,rfl,(HX.out.on KX).up HWKX,K1⟩)
         | true =>
          have fb29:=hb29;clear hb29
          simp only [dd_] at fb29
          refine wp_cond_true (x:=Code.skip) (y:=cA34_75) (eval_slot h59) ?_
          refine wp_skip ?_
          change (cA34_80).wp _ _ _ _
          refine wp_cond_true (x:=cA34_81) (y:=cA34_84) (eval_slot h59) ?_
          refine wp_seq (x:=cA34_82) (y:=Code.ret) ?_
          change (Code.region 25 OA34_25 false).wp _ _ _ _
          refine reg_in (l:=[0,1,2,3,4]) rfl ?_
          have F:=fe_ R;clear R
          refine sw_ gA34_25_0 (ym_ rfl (F.of h0)) F fun a73 F h63=>?_
          refine sv_ gA34_25_1 (ym_ rfl (F.of h1)) fun a74 e=>?_
          have h64:=pt_ F e;replace F:=pu_ F e;replace h63:=so_ e h63;clear e
          refine sv_ gA34_25_2 (ym_ rfl (F.of h2)) fun a75 e=>?_
          have h65:=pt_ F e;replace F:=pu_ F e;replace h63:=so_ e h63;replace h64:=so_ e h64;clear e
          have Y:(execOp a75.eval oA34_25_3).run Try.prog w2=.ok (.enter 46 #[.string (str nm),.int .i64 a,.int .i64 b]) w2:=by unfold oA34_25_3;go_simp
          have hnm:nm=[47,47]:=by simpa [str_list] using fb29
          have hca:=rdiv_quo_any w2 HA.out HB.out
          rw [← hnm] at hca
          have UKX_b1:=B1.lt
          have HWKX:W.heap.size ≤ w2.heap.size:=K1.size
          refine st_call gA34_25_3 rfl (wanted_free rfl) Y ((hca).mono ?_);clear Y
          rintro e9 w76 ⟨ax,cx,rfl,hx,kk⟩
          replace K1:=keep_onto K1 kk
          replace B1:=blk_on B1 kk
          clear kk
          clear hca
          have HX:=Lib.hid hx;clear hx
          have KX:=Keep.refl (fun g=>w2.heap.size ≤ g∧g < w76.heap.size) w76
          refine ⟨_,rfl,fun a77 e=>?_⟩
          clear h63 h64 h65;have h66:=pt_ F e;replace F:=pu_ F e;clear e
          obtain ⟨w78,Y,hk,hB⟩:=ys6_ (o:=oA34_25_4) rfl (F.of h6) h66 B1
          replace K1:=kx_ hk K1 (Nat.not_lt.2 LK1_b1);replace KX:=kx_ hk KX (fun hx=>absurd hx.1 (Nat.not_le.2 UKX_b1));clear B1;have B1:=hB;clear hB hk
          refine st_skip gA34_25_4 rfl (wanted_free rfl) Y ?_;clear Y
          refine st_end ?_
          replace h0:=F.of h0;replace h1:=F.of h1;replace h2:=F.of h2;replace h6:=F.of h6;replace h7:=F.of h7;clear h59;clear h66;have R:=F.r;clear F
          change (Code.ret).wp _ _ _ _
          refine wp_ret ?_
          change bodyPost Try.prog Try.f34 (fun e w'=>WA (resW (twoR nm a b)) W e w') .ret a77 w78
          refine ret_cell6 (fn:=Try.f34) rfl R h6 B1 ?_
          exact (show WA (resW (twoR nm a b)) W _ _ by rw [show twoR nm a b=quoR a b by rw [hnm];rfl];exact ⟨ax,cx,rfl,(HX.out.on KX).up HWKX,K1⟩)
        | true =>
         have fb26:=hb26;clear hb26
         simp only [dd_] at fb26
         refine wp_cond_true (x:=cA34_67) (y:=cA34_70) (eval_slot h53) ?_
         refine wp_seq (x:=cA34_68) (y:=Code.ret) ?_
         change (Code.region 21 OA34_21 false).wp _ _ _ _
         refine reg_in (l:=[0,1,2,3,4]) rfl ?_
         have F:=fe_ R;clear R
         refine sw_ gA34_21_0 (ym_ rfl (F.of h1)) F fun a79 F h55=>?_
         refine sv_ gA34_21_1 (ym_ rfl (F.of h2)) fun a80 e=>?_
         have h56:=pt_ F e;replace F:=pu_ F e;replace h55:=so_ e h55;clear e
         have Y:(execOp a80.eval oA34_21_2).run Try.prog w2=.ok (.value (.int .i64 (bits .xor .i64 a b))) w2:=by unfold oA34_21_2;go_simp
         refine sw_ gA34_21_2 Y F fun a81 F h57=>?_;clear Y h55 h56
         refine st_call gA34_21_3 rfl (wanted_free rfl) (yc1_ enA34_31 rfl h57) ((of_any _ (bits .xor .i64 a b)).mono ?_)
         rintro e9 w82 ⟨rfl,kk⟩
         replace K1:=keep_onto K1 kk
         replace B1:=blk_on B1 kk
         clear kk
         refine ⟨_,rfl,fun a83 e=>?_⟩
         clear h57;have h58:=pt_ F e;replace F:=pu_ F e;clear e
         obtain ⟨w84,Y,hk,hB⟩:=ys6_ (o:=oA34_21_4) rfl (F.of h6) h58 B1
         replace K1:=kx_ hk K1 (Nat.not_lt.2 LK1_b1);clear B1;have B1:=hB;clear hB hk
         refine st_skip gA34_21_4 rfl (wanted_free rfl) Y ?_;clear Y
         refine st_end ?_
         replace h0:=F.of h0;replace h1:=F.of h1;replace h2:=F.of h2;replace h6:=F.of h6;replace h7:=F.of h7;clear h53;clear h58;have R:=F.r;clear F
         change (Code.ret).wp _ _ _ _
         refine wp_ret ?_
         change bodyPost Try.prog Try.f34 (fun e w'=>WA (resW (twoR nm a b)) W e w') .ret a83 w84
         refine ret_cell6 (fn:=Try.f34) rfl R h6 B1 ?_
         have hnm:nm=[120,111,114]:=by simpa [str_list] using fb26
         exact (show WA (resW (twoR nm a b)) W _ _ by rw [show twoR nm a b=(bits .xor .i64 a b,[]) by rw [hnm];rfl,resW_n];exact ⟨none,0,rfl,own_zero,K1⟩)
       | true =>
        have fb23:=hb23;clear hb23
        simp only [dd_] at fb23
        refine wp_cond_true (x:=cA34_61) (y:=cA34_64) (eval_slot h47) ?_
        refine wp_seq (x:=cA34_62) (y:=Code.ret) ?_
        change (Code.region 19 OA34_19 false).wp _ _ _ _
        refine reg_in (l:=[0,1,2,3,4]) rfl ?_
        have F:=fe_ R;clear R
        refine sw_ gA34_19_0 (ym_ rfl (F.of h1)) F fun a85 F h49=>?_
        refine sv_ gA34_19_1 (ym_ rfl (F.of h2)) fun a86 e=>?_
        have h50:=pt_ F e;replace F:=pu_ F e;replace h49:=so_ e h49;clear e
        have Y:(execOp a86.eval oA34_19_2).run Try.prog w2=.ok (.value (.int .i64 (bits .or .i64 a b))) w2:=by unfold oA34_19_2;go_simp
        refine sw_ gA34_19_2 Y F fun a87 F h51=>?_;clear Y h49 h50
        refine st_call gA34_19_3 rfl (wanted_free rfl) (yc1_ enA34_31 rfl h51) ((of_any _ (bits .or .i64 a b)).mono ?_)
        rintro e9 w88 ⟨rfl,kk⟩
        replace K1:=keep_onto K1 kk
        replace B1:=blk_on B1 kk
        clear kk
        refine ⟨_,rfl,fun a89 e=>?_⟩
        clear h51;have h52:=pt_ F e;replace F:=pu_ F e;clear e
        obtain ⟨w90,Y,hk,hB⟩:=ys6_ (o:=oA34_19_4) rfl (F.of h6) h52 B1
        replace K1:=kx_ hk K1 (Nat.not_lt.2 LK1_b1);clear B1;have B1:=hB;clear hB hk
        refine st_skip gA34_19_4 rfl (wanted_free rfl) Y ?_;clear Y
        refine st_end ?_
        replace h0:=F.of h0;replace h1:=F.of h1;replace h2:=F.of h2;replace h6:=F.of h6;replace h7:=F.of h7;clear h47;clear h52;have R:=F.r;clear F
        change (Code.ret).wp _ _ _ _
        refine wp_ret ?_
        change bodyPost Try.prog Try.f34 (fun e w'=>WA (resW (twoR nm a b)) W e w') .ret a89 w90
        refine ret_cell6 (fn:=Try.f34) rfl R h6 B1 ?_
        have hnm:nm=[92,47]:=by simpa [str_list] using fb23
        exact (show WA (resW (twoR nm a b)) W _ _ by rw [show twoR nm a b=(bits .or .i64 a b,[]) by rw [hnm];rfl,resW_n];exact ⟨none,0,rfl,own_zero,K1⟩)
      | true =>
       have fb20:=hb20;clear hb20
       simp only [dd_] at fb20
       refine wp_cond_true (x:=cA34_55) (y:=cA34_58) (eval_slot h41) ?_
       refine wp_seq (x:=cA34_56) (y:=Code.ret) ?_
       change (Code.region 17 OA34_17 false).wp _ _ _ _
       refine reg_in (l:=[0,1,2,3,4]) rfl ?_
       have F:=fe_ R;clear R
       refine sw_ gA34_17_0 (ym_ rfl (F.of h1)) F fun a91 F h43=>?_
       refine sv_ gA34_17_1 (ym_ rfl (F.of h2)) fun a92 e=>?_
       have h44:=pt_ F e;replace F:=pu_ F e;replace h43:=so_ e h43;clear e
       have Y:(execOp a92.eval oA34_17_2).run Try.prog w2=.ok (.value (.int .i64 (bits .and .i64 a b))) w2:=by unfold oA34_17_2;go_simp
       refine sw_ gA34_17_2 Y F fun a93 F h45=>?_;clear Y h43 h44
       refine st_call gA34_17_3 rfl (wanted_free rfl) (yc1_ enA34_31 rfl h45) ((of_any _ (bits .and .i64 a b)).mono ?_)
       rintro e9 w94 ⟨rfl,kk⟩
       replace K1:=keep_onto K1 kk
       replace B1:=blk_on B1 kk
       clear kk
       refine ⟨_,rfl,fun a95 e=>?_⟩
       clear h45;have h46:=pt_ F e;replace F:=pu_ F e;clear e
       obtain ⟨w96,Y,hk,hB⟩:=ys6_ (o:=oA34_17_4) rfl (F.of h6) h46 B1
       replace K1:=kx_ hk K1 (Nat.not_lt.2 LK1_b1);clear B1;have B1:=hB;clear hB hk
       refine st_skip gA34_17_4 rfl (wanted_free rfl) Y ?_;clear Y
       refine st_end ?_
       replace h0:=F.of h0;replace h1:=F.of h1;replace h2:=F.of h2;replace h6:=F.of h6;replace h7:=F.of h7;clear h41;clear h46;have R:=F.r;clear F
       change (Code.ret).wp _ _ _ _
       refine wp_ret ?_
       change bodyPost Try.prog Try.f34 (fun e w'=>WA (resW (twoR nm a b)) W e w') .ret a95 w96
       refine ret_cell6 (fn:=Try.f34) rfl R h6 B1 ?_
       have hnm:nm=[47,92]:=by simpa [str_list] using fb20
       exact (show WA (resW (twoR nm a b)) W _ _ by rw [show twoR nm a b=(bits .and .i64 a b,[]) by rw [hnm];rfl,resW_n];exact ⟨none,0,rfl,own_zero,K1⟩)
     | true =>
      have fb17:=hb17;clear hb17
      simp only [dd_] at fb17
      refine wp_cond_true (x:=cA34_41) (y:=cA34_52) (eval_slot h32) ?_
      refine wp_seq (x:=cA34_42) (y:=cA34_49) ?_
      refine wp_seq (x:=cA34_43) (y:=cA34_44) ?_
      change (Code.region 13 OA34_13 false).wp _ _ _ _
      refine reg_in (l:=[0,1,2]) rfl ?_
      have F:=fe_ R;clear R
      refine sw_ gA34_13_0 (ym_ rfl (F.of h1)) F fun a97 F h34=>?_
      refine sv_ gA34_13_1 (ym_ rfl (F.of h2)) fun a98 e=>?_
      have h35:=pt_ F e;replace F:=pu_ F e;replace h34:=so_ e h34;clear e
      obtain ⟨b99,hb99⟩:∃ x,(decide ((b:Int) < (a:Int)))=x:=⟨_,rfl⟩
      have Y:(execOp a98.eval oA34_13_2).run Try.prog w2=.ok (.value (.bool b99)) w2:=by rw [← hb99];unfold oA34_13_2;go_simp
      refine sw_ gA34_13_2 Y F fun a100 F h36=>?_;clear Y h34 h35
      refine st_end ?_
      replace h0:=F.of h0;replace h1:=F.of h1;replace h2:=F.of h2;replace h6:=F.of h6;replace h7:=F.of h7;clear h32;have R:=F.r;clear F
      change (cA34_44).wp _ _ _ _
      cases b99 with
      | false =>
       have fb99:=hb99;clear hb99
       simp only [dd_] at fb99
       refine wp_cond_false (x:=cA34_45) (y:=Code.skip) (eval_slot h36) ?_
       refine wp_skip ?_
       change (cA34_49).wp _ _ _ _
       refine wp_seq (x:=cA34_50) (y:=Code.ret) ?_
       change (Code.region 15 OA34_15 false).wp _ _ _ _
       refine reg_in (l:=[0,1,2]) rfl ?_
       have F:=fe_ R;clear R
       refine sw_ gA34_15_0 (ym_ rfl (F.of h2)) F fun a101 F h39=>?_
       refine st_call gA34_15_1 rfl (wanted_free rfl) (yc1_ enA34_31 rfl h39) ((of_any _ (b)).mono ?_)
       rintro e9 w102 ⟨rfl,kk⟩
       replace K1:=keep_onto K1 kk
       replace B1:=blk_on B1 kk
       clear kk
       refine ⟨_,rfl,fun a103 e=>?_⟩
       clear h39;have h40:=pt_ F e;replace F:=pu_ F e;clear e
       obtain ⟨w104,Y,hk,hB⟩:=ys6_ (o:=oA34_15_2) rfl (F.of h6) h40 B1
       replace K1:=kx_ hk K1 (Nat.not_lt.2 LK1_b1);clear B1;have B1:=hB;clear hB hk
       refine st_skip gA34_15_2 rfl (wanted_free rfl) Y ?_;clear Y
       refine st_end ?_
       replace h0:=F.of h0;replace h1:=F.of h1;replace h2:=F.of h2;replace h6:=F.of h6;replace h7:=F.of h7;clear h36;clear h40;have R:=F.r;clear F
       change (Code.ret).wp _ _ _ _
       refine wp_ret ?_
       change bodyPost Try.prog Try.f34 (fun e w'=>WA (resW (twoR nm a b)) W e w') .ret a103 w104
       refine ret_cell6 (fn:=Try.f34) rfl R h6 B1 ?_
       have hnm:nm=[109,97,120]:=by simpa [str_list] using fb17
       exact (show WA (resW (twoR nm a b)) W _ _ by rw [show twoR nm a b=(b,[]) by rw [hnm];exact Prod.ext (by show max a b=b;omega) rfl,resW_n];exact ⟨none,0,rfl,own_zero,K1⟩)
      | true =>
       have fb99:=hb99;clear hb99
       simp only [dd_] at fb99
       refine wp_cond_true (x:=cA34_45) (y:=Code.skip) (eval_slot h36) ?_
       refine wp_seq (x:=cA34_46) (y:=Code.ret) ?_
       change (Code.region 14 OA34_14 false).wp _ _ _ _
       refine reg_in (l:=[0,1,2]) rfl ?_
       have F:=fe_ R;clear R
       refine sw_ gA34_14_0 (ym_ rfl (F.of h1)) F fun a105 F h37=>?_
       refine st_call gA34_14_1 rfl (wanted_free rfl) (yc1_ enA34_31 rfl h37) ((of_any _ (a)).mono ?_)
       rintro e9 w106 ⟨rfl,kk⟩
       replace K1:=keep_onto K1 kk
       replace B1:=blk_on B1 kk
       clear kk
       refine ⟨_,rfl,fun a107 e=>?_⟩
       clear h37;have h38:=pt_ F e;replace F:=pu_ F e;clear e
       obtain ⟨w108,Y,hk,hB⟩:=ys6_ (o:=oA34_14_2) rfl (F.of h6) h38 B1
       replace K1:=kx_ hk K1 (Nat.not_lt.2 LK1_b1);clear B1;have B1:=hB;clear hB hk
       refine st_skip gA34_14_2 rfl (wanted_free rfl) Y ?_;clear Y
       refine st_end ?_
       replace h0:=F.of h0;replace h1:=F.of h1;replace h2:=F.of h2;replace h6:=F.of h6;replace h7:=F.of h7;clear h36;clear h38;have R:=F.r;clear F
       change (Code.ret).wp _ _ _ _
       refine wp_ret ?_
       change bodyPost Try.prog Try.f34 (fun e w'=>WA (resW (twoR nm a b)) W e w') .ret a107 w108
       refine ret_cell6 (fn:=Try.f34) rfl R h6 B1 ?_
       have hnm:nm=[109,97,120]:=by simpa [str_list] using fb17
       exact (show WA (resW (twoR nm a b)) W _ _ by rw [show twoR nm a b=(a,[]) by rw [hnm];exact Prod.ext (by show max a b=a;omega) rfl,resW_n];exact ⟨none,0,rfl,own_zero,K1⟩)
    | true =>
     have fb14:=hb14;clear hb14
     simp only [dd_] at fb14
     refine wp_cond_true (x:=cA34_27) (y:=cA34_38) (eval_slot h23) ?_
     refine wp_seq (x:=cA34_28) (y:=cA34_35) ?_
     refine wp_seq (x:=cA34_29) (y:=cA34_30) ?_
     change (Code.region 9 OA34_9 false).wp _ _ _ _
     refine reg_in (l:=[0,1,2]) rfl ?_
     have F:=fe_ R;clear R
     refine sw_ gA34_9_0 (ym_ rfl (F.of h1)) F fun a109 F h25=>?_
     refine sv_ gA34_9_1 (ym_ rfl (F.of h2)) fun a110 e=>?_
     have h26:=pt_ F e;replace F:=pu_ F e;replace h25:=so_ e h25;clear e
     obtain ⟨b111,hb111⟩:∃ x,(decide ((a:Int) < (b:Int)))=x:=⟨_,rfl⟩
     have Y:(execOp a110.eval oA34_9_2).run Try.prog w2=.ok (.value (.bool b111)) w2:=by rw [← hb111];unfold oA34_9_2;go_simp
     refine sw_ gA34_9_2 Y F fun a112 F h27=>?_;clear Y h25 h26
     refine st_end ?_
     replace h0:=F.of h0;replace h1:=F.of h1;replace h2:=F.of h2;replace h6:=F.of h6;replace h7:=F.of h7;clear h23;have R:=F.r;clear F
     change (cA34_30).wp _ _ _ _
     cases b111 with
     | false =>
      have fb111:=hb111;clear hb111
      simp only [dd_] at fb111
      refine wp_cond_false (x:=cA34_31) (y:=Code.skip) (eval_slot h27) ?_
      refine wp_skip ?_
      change (cA34_35).wp _ _ _ _
      refine wp_seq (x:=cA34_36) (y:=Code.ret) ?_
      change (Code.region 11 OA34_11 false).wp _ _ _ _
      refine reg_in (l:=[0,1,2]) rfl ?_
      have F:=fe_ R;clear R
      refine sw_ gA34_11_0 (ym_ rfl (F.of h2)) F fun a113 F h30=>?_
      refine st_call gA34_11_1 rfl (wanted_free rfl) (yc1_ enA34_31 rfl h30) ((of_any _ (b)).mono ?_)
      rintro e9 w114 ⟨rfl,kk⟩
      replace K1:=keep_onto K1 kk
      replace B1:=blk_on B1 kk
      clear kk
      refine ⟨_,rfl,fun a115 e=>?_⟩
      clear h30;have h31:=pt_ F e;replace F:=pu_ F e;clear e
      obtain ⟨w116,Y,hk,hB⟩:=ys6_ (o:=oA34_11_2) rfl (F.of h6) h31 B1
      replace K1:=kx_ hk K1 (Nat.not_lt.2 LK1_b1);clear B1;have B1:=hB;clear hB hk
      refine st_skip gA34_11_2 rfl (wanted_free rfl) Y ?_;clear Y
      refine st_end ?_
      replace h0:=F.of h0;replace h1:=F.of h1;replace h2:=F.of h2;replace h6:=F.of h6;replace h7:=F.of h7;clear h27;clear h31;have R:=F.r;clear F
      change (Code.ret).wp _ _ _ _
      refine wp_ret ?_
      change bodyPost Try.prog Try.f34 (fun e w'=>WA (resW (twoR nm a b)) W e w') .ret a115 w116
      refine ret_cell6 (fn:=Try.f34) rfl R h6 B1 ?_
      have hnm:nm=[109,105,110]:=by simpa [str_list] using fb14
      exact (show WA (resW (twoR nm a b)) W _ _ by rw [show twoR nm a b=(b,[]) by rw [hnm];exact Prod.ext (by show min a b=b;omega) rfl,resW_n];exact ⟨none,0,rfl,own_zero,K1⟩)
     | true =>
      have fb111:=hb111;clear hb111
      simp only [dd_] at fb111
      refine wp_cond_true (x:=cA34_31) (y:=Code.skip) (eval_slot h27) ?_
      refine wp_seq (x:=cA34_32) (y:=Code.ret) ?_
      change (Code.region 10 OA34_10 false).wp _ _ _ _
      refine reg_in (l:=[0,1,2]) rfl ?_
      have F:=fe_ R;clear R
      refine sw_ gA34_10_0 (ym_ rfl (F.of h1)) F fun a117 F h28=>?_
      refine st_call gA34_10_1 rfl (wanted_free rfl) (yc1_ enA34_31 rfl h28) ((of_any _ (a)).mono ?_)
      rintro e9 w118 ⟨rfl,kk⟩
      replace K1:=keep_onto K1 kk
      replace B1:=blk_on B1 kk
      clear kk
      refine ⟨_,rfl,fun a119 e=>?_⟩
      clear h28;have h29:=pt_ F e;replace F:=pu_ F e;clear e
      obtain ⟨w120,Y,hk,hB⟩:=ys6_ (o:=oA34_10_2) rfl (F.of h6) h29 B1
      replace K1:=kx_ hk K1 (Nat.not_lt.2 LK1_b1);clear B1;have B1:=hB;clear hB hk
      refine st_skip gA34_10_2 rfl (wanted_free rfl) Y ?_;clear Y
      refine st_end ?_
      replace h0:=F.of h0;replace h1:=F.of h1;replace h2:=F.of h2;replace h6:=F.of h6;replace h7:=F.of h7;clear h27;clear h29;have R:=F.r;clear F
      change (Code.ret).wp _ _ _ _
      refine wp_ret ?_
      change bodyPost Try.prog Try.f34 (fun e w'=>WA (resW (twoR nm a b)) W e w') .ret a119 w120
      refine ret_cell6 (fn:=Try.f34) rfl R h6 B1 ?_
      have hnm:nm=[109,105,110]:=by simpa [str_list] using fb14
      exact (show WA (resW (twoR nm a b)) W _ _ by rw [show twoR nm a b=(a,[]) by rw [hnm];exact Prod.ext (by show min a b=a;omega) rfl,resW_n];exact ⟨none,0,rfl,own_zero,K1⟩)
   | true =>
    have fb11:=hb11;clear hb11
    simp only [dd_] at fb11
    refine wp_cond_true (x:=cA34_21) (y:=cA34_24) (eval_slot h18) ?_
    refine wp_seq (x:=cA34_22) (y:=Code.ret) ?_
    change (Code.region 7 OA34_7 false).wp _ _ _ _
    refine reg_in (l:=[0,1,2,3]) rfl ?_
    have F:=fe_ R;clear R
    refine sw_ gA34_7_0 (ym_ rfl (F.of h1)) F fun a121 F h20=>?_
    refine sv_ gA34_7_1 (ym_ rfl (F.of h2)) fun a122 e=>?_
    have h21:=pt_ F e;replace F:=pu_ F e;replace h20:=so_ e h20;clear e
    have hnm:nm=[42]:=by simpa [str_list] using fb11
    have hca:=rmul_any w2 HA.out HB.out
    have UKX_b1:=B1.lt
    have HWKX:W.heap.size ≤ w2.heap.size:=K1.size
    refine st_call gA34_7_2 rfl (wanted_free rfl) (yc2_ enA34_45 rfl h20 h21) ((hca).mono ?_)
    rintro e9 w123 ⟨ax,cx,rfl,hx,kk⟩
    replace K1:=keep_onto K1 kk
    replace B1:=blk_on B1 kk
    clear kk
    clear hca
    have HX:=Lib.hid hx;clear hx
    have KX:=Keep.refl (fun g=>w2.heap.size ≤ g∧g < w123.heap.size) w123
    refine ⟨_,rfl,fun a124 e=>?_⟩
    clear h20 h21;have h22:=pt_ F e;replace F:=pu_ F e;clear e
    obtain ⟨w125,Y,hk,hB⟩:=ys6_ (o:=oA34_7_3) rfl (F.of h6) h22 B1
    replace K1:=kx_ hk K1 (Nat.not_lt.2 LK1_b1);replace KX:=kx_ hk KX (fun hx=>absurd hx.1 (Nat.not_le.2 UKX_b1));clear B1;have B1:=hB;clear hB hk
    refine st_skip gA34_7_3 rfl (wanted_free rfl) Y ?_;clear Y
    refine st_end ?_
    replace h0:=F.of h0;replace h1:=F.of h1;replace h2:=F.of h2;replace h6:=F.of h6;replace h7:=F.of h7;clear h18;clear h22;have R:=F.r;clear F
    change (Code.ret).wp _ _ _ _
    refine wp_ret ?_
    change bodyPost Try.prog Try.f34 (fun e w'=>WA (resW (twoR nm a b)) W e w') .ret a124 w125
    refine ret_cell6 (fn:=Try.f34) rfl R h6 B1 ?_
    exact (show WA (resW (twoR nm a b)) W _ _ by rw [show twoR nm a b=big (a * b) by rw [hnm];rfl];exact ⟨ax,cx,rfl,(HX.out.on KX).up HWKX,K1⟩)
  | true =>
   have fb8:=hb8;clear hb8
   simp only [dd_] at fb8
   refine wp_cond_true (x:=cA34_15) (y:=cA34_18) (eval_slot h13) ?_
   refine wp_seq (x:=cA34_16) (y:=Code.ret) ?_
   change (Code.region 5 OA34_5 false).wp _ _ _ _
   refine reg_in (l:=[0,1,2,3]) rfl ?_
   have F:=fe_ R;clear R
   refine sw_ gA34_5_0 (ym_ rfl (F.of h1)) F fun a126 F h15=>?_
   refine sv_ gA34_5_1 (ym_ rfl (F.of h2)) fun a127 e=>?_
   have h16:=pt_ F e;replace F:=pu_ F e;replace h15:=so_ e h15;clear e
   have hnm:nm=[45]:=by simpa [str_list] using fb8
   have hca:=rsub_any w2 HA.out HB.out
   have UKX_b1:=B1.lt
   have HWKX:W.heap.size ≤ w2.heap.size:=K1.size
   refine st_call gA34_5_2 rfl (wanted_free rfl) (yc2_ enA34_43 rfl h15 h16) ((hca).mono ?_)
   rintro e9 w128 ⟨ax,cx,rfl,hx,kk⟩
   replace K1:=keep_onto K1 kk
   replace B1:=blk_on B1 kk
   clear kk
   clear hca
   have HX:=Lib.hid hx;clear hx
   have KX:=Keep.refl (fun g=>w2.heap.size ≤ g∧g < w128.heap.size) w128
   refine ⟨_,rfl,fun a129 e=>?_⟩
   clear h15 h16;have h17:=pt_ F e;replace F:=pu_ F e;clear e
   obtain ⟨w130,Y,hk,hB⟩:=ys6_ (o:=oA34_5_3) rfl (F.of h6) h17 B1
   replace K1:=kx_ hk K1 (Nat.not_lt.2 LK1_b1);replace KX:=kx_ hk KX (fun hx=>absurd hx.1 (Nat.not_le.2 UKX_b1));clear B1;have B1:=hB;clear hB hk
   refine st_skip gA34_5_3 rfl (wanted_free rfl) Y ?_;clear Y
   refine st_end ?_
   replace h0:=F.of h0;replace h1:=F.of h1;replace h2:=F.of h2;replace h6:=F.of h6;replace h7:=F.of h7;clear h13;clear h17;have R:=F.r;clear F
   change (Code.ret).wp _ _ _ _
   refine wp_ret ?_
   change bodyPost Try.prog Try.f34 (fun e w'=>WA (resW (twoR nm a b)) W e w') .ret a129 w130
   refine ret_cell6 (fn:=Try.f34) rfl R h6 B1 ?_
   exact (show WA (resW (twoR nm a b)) W _ _ by rw [show twoR nm a b=big (a - b) by rw [hnm];rfl];exact ⟨ax,cx,rfl,(HX.out.on KX).up HWKX,K1⟩)
 | true =>
  have fb5:=hb5;clear hb5
  simp only [dd_] at fb5
  refine wp_cond_true (x:=cA34_9) (y:=cA34_12) (eval_slot h8) ?_
  refine wp_seq (x:=cA34_10) (y:=Code.ret) ?_
  change (Code.region 3 OA34_3 false).wp _ _ _ _
  refine reg_in (l:=[0,1,2,3]) rfl ?_
  have F:=fe_ R;clear R
  refine sw_ gA34_3_0 (ym_ rfl (F.of h1)) F fun a131 F h10=>?_
  refine sv_ gA34_3_1 (ym_ rfl (F.of h2)) fun a132 e=>?_
  have h11:=pt_ F e;replace F:=pu_ F e;replace h10:=so_ e h10;clear e
  have hnm:nm=[43]:=by simpa [str_list] using fb5
  have hca:=radd_any w2 HA.out HB.out
  have UKX_b1:=B1.lt
  have HWKX:W.heap.size ≤ w2.heap.size:=K1.size
  refine st_call gA34_3_2 rfl (wanted_free rfl) (yc2_ enA34_44 rfl h10 h11) ((hca).mono ?_)
  rintro e9 w133 ⟨ax,cx,rfl,hx,kk⟩
  replace K1:=keep_onto K1 kk
  replace B1:=blk_on B1 kk
  clear kk
  clear hca
  have HX:=Lib.hid hx;clear hx
  have KX:=Keep.refl (fun g=>w2.heap.size ≤ g∧g < w133.heap.size) w133
  refine ⟨_,rfl,fun a134 e=>?_⟩
  clear h10 h11;have h12:=pt_ F e;replace F:=pu_ F e;clear e
  obtain ⟨w135,Y,hk,hB⟩:=ys6_ (o:=oA34_3_3) rfl (F.of h6) h12 B1
  replace K1:=kx_ hk K1 (Nat.not_lt.2 LK1_b1);replace KX:=kx_ hk KX (fun hx=>absurd hx.1 (Nat.not_le.2 UKX_b1));clear B1;have B1:=hB;clear hB hk
  refine st_skip gA34_3_3 rfl (wanted_free rfl) Y ?_;clear Y
  refine st_end ?_
  replace h0:=F.of h0;replace h1:=F.of h1;replace h2:=F.of h2;replace h6:=F.of h6;replace h7:=F.of h7;clear h8;clear h12;have R:=F.r;clear F
  change (Code.ret).wp _ _ _ _
  refine wp_ret ?_
  change bodyPost Try.prog Try.f34 (fun e w'=>WA (resW (twoR nm a b)) W e w') .ret a134 w135
  refine ret_cell6 (fn:=Try.f34) rfl R h6 B1 ?_
  exact (show WA (resW (twoR nm a b)) W _ _ by rw [show twoR nm a b=big (a + b) by rw [hnm];rfl];exact ⟨ax,cx,rfl,(HX.out.on KX).up HWKX,K1⟩)
theorem rtwo_any (W:World) {nm:List UInt8} {a b:Int} (ha:inR a) (hb:inR b):Calls Try.prog 34 #[.string (str nm),.int .i64 a,.int .i64 b] W fun e w'=>WA (resW (twoR nm a b)) W e w':=by
  refine enter_sx Try.func34 bodyA34 rfl (by show (3:Nat) ≤ 77;decide) fun f0 R hs=>?_
  exact rtwo_w R (hs 0 _ rfl) (hs 1 _ rfl) (hs 2 _ rfl) (Keep.refl _ W) (Lib.hid ha) (Lib.hid hb)
def oA33_0_0:Oper:=⟨some 4,Op.alloc 30,0, "ref.go:112",#[],none⟩
def OA33_0:Array Oper:=List.toArray (oA33_0_0::[])
theorem gA33_0_0:OA33_0[0]? = some oA33_0_0:=rfl
def cA33_1:Code:=Code.region 0 OA33_0 false
def oA33_1_0:Oper:=⟨some 5,Op.move (Operand.tmp 0),9, "ref.go:113",#[],none⟩
def OA33_1:Array Oper:=List.toArray (oA33_1_0::[])
theorem gA33_1_0:OA33_1[0]? = some oA33_1_0:=rfl
def cA33_4:Code:=Code.region 1 OA33_1 false
def oA33_2_0:Oper:=⟨some 7,Op.binOp Go.BinOp.eql 9 (Operand.tmp 5) (Operand.const (Value.string { data:=#[43] })) 9,4, "ref.go:114",#[],none⟩
def oA33_2_1:Oper:=⟨some 6,Op.assign (Operand.tmp 7),4, "ref.go:114",#[ed_ 0],none⟩
def OA33_2:Array Oper:=List.toArray (oA33_2_0::oA33_2_1::[])
theorem gA33_2_0:OA33_2[0]? = some oA33_2_0:=rfl
theorem gA33_2_1:OA33_2[1]? = some oA33_2_1:=rfl
def cA33_7:Code:=Code.region 2 OA33_2 false
def oA33_3_0:Oper:=⟨some 8,Op.move (Operand.tmp 1),2, "ref.go:115",#[],none⟩
def oA33_3_1:Oper:=⟨some 9,Op.call { callee:=Callee.value (Operand.func 31),args:=#[Operand.tmp 8],argTypes:=#[2] },30, "ref.go:115",#[ed_ 0],none⟩
def oA33_3_2:Oper:=⟨none,Op.store 30 (Operand.tmp 4) (Operand.tmp 9),0, "ref.go:115",#[ed_ 1,ec_ 1,ep_ 0,ep_ 1],none⟩
def OA33_3:Array Oper:=List.toArray (oA33_3_0::oA33_3_1::oA33_3_2::[])
theorem gA33_3_0:OA33_3[0]? = some oA33_3_0:=rfl
theorem gA33_3_1:OA33_3[1]? = some oA33_3_1:=rfl
theorem gA33_3_2:OA33_3[2]? = some oA33_3_2:=rfl
def cA33_10:Code:=Code.region 3 OA33_3 false
def cA33_9:Code:=Code.seq cA33_10 Code.ret
def oA33_4_0:Oper:=⟨some 11,Op.binOp Go.BinOp.eql 9 (Operand.tmp 5) (Operand.const (Value.string { data:=#[92] })) 9,4, "ref.go:116",#[],none⟩
def oA33_4_1:Oper:=⟨some 10,Op.assign (Operand.tmp 11),4, "ref.go:116",#[ed_ 0],none⟩
def OA33_4:Array Oper:=List.toArray (oA33_4_0::oA33_4_1::[])
theorem gA33_4_0:OA33_4[0]? = some oA33_4_0:=rfl
theorem gA33_4_1:OA33_4[1]? = some oA33_4_1:=rfl
def cA33_13:Code:=Code.region 4 OA33_4 false
def oA33_5_0:Oper:=⟨some 12,Op.move (Operand.tmp 1),2, "ref.go:117",#[],none⟩
def oA33_5_1:Oper:=⟨some 13,Op.binOp Go.BinOp.sub 2 (Operand.const (Value.int IntKind.i64 (-1))) (Operand.tmp 12) 2,2, "ref.go:117",#[ed_ 0],none⟩
def oA33_5_2:Oper:=⟨some 14,Op.call { callee:=Callee.value (Operand.func 31),args:=#[Operand.tmp 13],argTypes:=#[2] },30, "ref.go:117",#[ed_ 1],none⟩
def oA33_5_3:Oper:=⟨none,Op.store 30 (Operand.tmp 4) (Operand.tmp 14),0, "ref.go:117",#[ed_ 2,ec_ 2,ep_ 0,ep_ 1,ep_ 2],none⟩
def OA33_5:Array Oper:=List.toArray (oA33_5_0::oA33_5_1::oA33_5_2::oA33_5_3::[])
theorem gA33_5_0:OA33_5[0]? = some oA33_5_0:=rfl
theorem gA33_5_1:OA33_5[1]? = some oA33_5_1:=rfl
theorem gA33_5_2:OA33_5[2]? = some oA33_5_2:=rfl
theorem gA33_5_3:OA33_5[3]? = some oA33_5_3:=rfl
def cA33_16:Code:=Code.region 5 OA33_5 false
def cA33_15:Code:=Code.seq cA33_16 Code.ret
def oA33_6_0:Oper:=⟨some 16,Op.binOp Go.BinOp.eql 9 (Operand.tmp 5) (Operand.const (Value.string { data:=#[115,105,103,110] })) 9,4, "ref.go:118",#[],none⟩
def oA33_6_1:Oper:=⟨some 15,Op.assign (Operand.tmp 16),4, "ref.go:118",#[ed_ 0],none⟩
def OA33_6:Array Oper:=List.toArray (oA33_6_0::oA33_6_1::[])
theorem gA33_6_0:OA33_6[0]? = some oA33_6_0:=rfl
theorem gA33_6_1:OA33_6[1]? = some oA33_6_1:=rfl
def cA33_19:Code:=Code.region 6 OA33_6 false
def oA33_7_0:Oper:=⟨some 17,Op.move (Operand.tmp 1),2, "ref.go:119",#[],none⟩
def oA33_7_1:Oper:=⟨some 18,Op.binOp Go.BinOp.gtr 2 (Operand.tmp 17) (Operand.const (Value.int IntKind.i64 0)) 2,4, "ref.go:119",#[ed_ 0],none⟩
def OA33_7:Array Oper:=List.toArray (oA33_7_0::oA33_7_1::[])
theorem gA33_7_0:OA33_7[0]? = some oA33_7_0:=rfl
theorem gA33_7_1:OA33_7[1]? = some oA33_7_1:=rfl
def cA33_23:Code:=Code.region 7 OA33_7 false
def oA33_8_0:Oper:=⟨some 19,Op.call { callee:=Callee.value (Operand.func 31),args:=#[Operand.const (Value.int IntKind.i64 1)],argTypes:=#[2] },30, "ref.go:120",#[],none⟩
def oA33_8_1:Oper:=⟨none,Op.store 30 (Operand.tmp 4) (Operand.tmp 19),0, "ref.go:120",#[ed_ 0,ec_ 0,ep_ 0],none⟩
def OA33_8:Array Oper:=List.toArray (oA33_8_0::oA33_8_1::[])
theorem gA33_8_0:OA33_8[0]? = some oA33_8_0:=rfl
theorem gA33_8_1:OA33_8[1]? = some oA33_8_1:=rfl
def cA33_26:Code:=Code.region 8 OA33_8 false
def cA33_25:Code:=Code.seq cA33_26 Code.ret
def cA33_24:Code:=Code.cond (Operand.tmp 18) cA33_25 Code.skip
def cA33_22:Code:=Code.seq cA33_23 cA33_24
def oA33_9_0:Oper:=⟨some 20,Op.move (Operand.tmp 1),2, "ref.go:122",#[],none⟩
def oA33_9_1:Oper:=⟨some 21,Op.binOp Go.BinOp.lss 2 (Operand.tmp 20) (Operand.const (Value.int IntKind.i64 0)) 2,4, "ref.go:122",#[ed_ 0],none⟩
def OA33_9:Array Oper:=List.toArray (oA33_9_0::oA33_9_1::[])
theorem gA33_9_0:OA33_9[0]? = some oA33_9_0:=rfl
theorem gA33_9_1:OA33_9[1]? = some oA33_9_1:=rfl
def cA33_31:Code:=Code.region 9 OA33_9 false
def oA33_10_0:Oper:=⟨some 22,Op.call { callee:=Callee.value (Operand.func 31),args:=#[Operand.const (Value.int IntKind.i64 (-1))],argTypes:=#[2] },30, "ref.go:123",#[],none⟩
def oA33_10_1:Oper:=⟨none,Op.store 30 (Operand.tmp 4) (Operand.tmp 22),0, "ref.go:123",#[ed_ 0,ec_ 0,ep_ 0],none⟩
def OA33_10:Array Oper:=List.toArray (oA33_10_0::oA33_10_1::[])
theorem gA33_10_0:OA33_10[0]? = some oA33_10_0:=rfl
theorem gA33_10_1:OA33_10[1]? = some oA33_10_1:=rfl
def cA33_34:Code:=Code.region 10 OA33_10 false
def cA33_33:Code:=Code.seq cA33_34 Code.ret
def cA33_32:Code:=Code.cond (Operand.tmp 21) cA33_33 Code.skip
def cA33_30:Code:=Code.seq cA33_31 cA33_32
def oA33_11_0:Oper:=⟨some 23,Op.call { callee:=Callee.value (Operand.func 31),args:=#[Operand.const (Value.int IntKind.i64 0)],argTypes:=#[2] },30, "ref.go:125",#[],none⟩
def oA33_11_1:Oper:=⟨none,Op.store 30 (Operand.tmp 4) (Operand.tmp 23),0, "ref.go:125",#[ed_ 0,ec_ 0,ep_ 0],none⟩
def OA33_11:Array Oper:=List.toArray (oA33_11_0::oA33_11_1::[])
theorem gA33_11_0:OA33_11[0]? = some oA33_11_0:=rfl
theorem gA33_11_1:OA33_11[1]? = some oA33_11_1:=rfl
def cA33_38:Code:=Code.region 11 OA33_11 false
def cA33_37:Code:=Code.seq cA33_38 Code.ret
def cA33_29:Code:=Code.seq cA33_30 cA33_37
def cA33_21:Code:=Code.seq cA33_22 cA33_29
def oA33_12_0:Oper:=⟨some 25,Op.binOp Go.BinOp.eql 9 (Operand.tmp 5) (Operand.const (Value.string { data:=#[97,98,115] })) 9,4, "ref.go:126",#[],none⟩
def oA33_12_1:Oper:=⟨some 24,Op.assign (Operand.tmp 25),4, "ref.go:126",#[ed_ 0],none⟩
def OA33_12:Array Oper:=List.toArray (oA33_12_0::oA33_12_1::[])
theorem gA33_12_0:OA33_12[0]? = some oA33_12_0:=rfl
theorem gA33_12_1:OA33_12[1]? = some oA33_12_1:=rfl
def cA33_41:Code:=Code.region 12 OA33_12 false
def oA33_13_0:Oper:=⟨some 26,Op.move (Operand.tmp 1),2, "ref.go:127",#[],none⟩
def oA33_13_1:Oper:=⟨some 27,Op.binOp Go.BinOp.gtr 2 (Operand.tmp 26) (Operand.const (Value.int IntKind.i64 0)) 2,4, "ref.go:127",#[ed_ 0],none⟩
def OA33_13:Array Oper:=List.toArray (oA33_13_0::oA33_13_1::[])
theorem gA33_13_0:OA33_13[0]? = some oA33_13_0:=rfl
theorem gA33_13_1:OA33_13[1]? = some oA33_13_1:=rfl
def cA33_44:Code:=Code.region 13 OA33_13 false
def oA33_14_0:Oper:=⟨some 28,Op.move (Operand.tmp 1),2, "ref.go:128",#[],none⟩
def oA33_14_1:Oper:=⟨some 29,Op.call { callee:=Callee.value (Operand.func 31),args:=#[Operand.tmp 28],argTypes:=#[2] },30, "ref.go:128",#[ed_ 0],none⟩
def oA33_14_2:Oper:=⟨none,Op.store 30 (Operand.tmp 4) (Operand.tmp 29),0, "ref.go:128",#[ed_ 1,ec_ 1,ep_ 0,ep_ 1],none⟩
def OA33_14:Array Oper:=List.toArray (oA33_14_0::oA33_14_1::oA33_14_2::[])
theorem gA33_14_0:OA33_14[0]? = some oA33_14_0:=rfl
theorem gA33_14_1:OA33_14[1]? = some oA33_14_1:=rfl
theorem gA33_14_2:OA33_14[2]? = some oA33_14_2:=rfl
def cA33_47:Code:=Code.region 14 OA33_14 false
def cA33_46:Code:=Code.seq cA33_47 Code.ret
def cA33_45:Code:=Code.cond (Operand.tmp 27) cA33_46 Code.skip
def cA33_43:Code:=Code.seq cA33_44 cA33_45
def cA33_42:Code:=Code.cond (Operand.tmp 24) cA33_43 Code.skip
def cA33_40:Code:=Code.seq cA33_41 cA33_42
def cA33_20:Code:=Code.cond (Operand.tmp 15) cA33_21 cA33_40
def cA33_18:Code:=Code.seq cA33_19 cA33_20
def cA33_14:Code:=Code.cond (Operand.tmp 10) cA33_15 cA33_18
def cA33_12:Code:=Code.seq cA33_13 cA33_14
def cA33_8:Code:=Code.cond (Operand.tmp 6) cA33_9 cA33_12
def cA33_6:Code:=Code.seq cA33_7 cA33_8
def cA33_5:Code:=Code.block 0 cA33_6
def cA33_3:Code:=Code.seq cA33_4 cA33_5
def oA33_15_0:Oper:=⟨some 30,Op.move (Operand.tmp 1),2, "ref.go:131",#[],none⟩
def oA33_15_1:Oper:=⟨some 31,Op.call { callee:=Callee.value (Operand.func 43),args:=#[Operand.const (Value.int IntKind.i64 0),Operand.tmp 30],argTypes:=#[2,2] },30, "ref.go:131",#[ed_ 0],none⟩
def oA33_15_2:Oper:=⟨none,Op.store 30 (Operand.tmp 4) (Operand.tmp 31),0, "ref.go:131",#[ed_ 1,ec_ 1,ep_ 0,ep_ 1],none⟩
def OA33_15:Array Oper:=List.toArray (oA33_15_0::oA33_15_1::oA33_15_2::[])
theorem gA33_15_0:OA33_15[0]? = some oA33_15_0:=rfl
theorem gA33_15_1:OA33_15[1]? = some oA33_15_1:=rfl
theorem gA33_15_2:OA33_15[2]? = some oA33_15_2:=rfl
def cA33_52:Code:=Code.region 15 OA33_15 false
def cA33_51:Code:=Code.seq cA33_52 Code.ret
def cA33_2:Code:=Code.seq cA33_3 cA33_51
def cA33_0:Code:=Code.seq cA33_1 cA33_2
theorem enA33_31:Enters Try.prog 31:=enters_of Try.func31 (by kernel_rfl) rfl
theorem bodyA33:Try.f33.body=some cA33_0:=by kernel_rfl
theorem abs_low {a:Int} (h:a ≤ 0):oneR [97,98,115] a=big (-a):=by
  show (if 0 ≤ a then (a,[]) else big (-a))=_
  by_cases h0:0 ≤ a
  · obtain rfl:a=0:=by omega
    rfl
  · rw [if_neg h0]
theorem abs_high {a:Int} (h:0 < a):resW (oneR [97,98,115] a)=.num a:=by
  rw [show oneR [97,98,115] a=(a,[]) from (show (if 0 ≤ a then ((a,[]):Rs) else big (-a))=(a,[]) from if_pos (by omega))];rfl
theorem rone_minus {nm:List UInt8} {a:Int} (h:isFn nm 1=true) (h1:¬ nm=[43]) (h2:¬ nm=[92]) (h3:¬ nm=[115,105,103,110]) (h4:¬ nm=[97,98,115]):oneR nm a=oneR [45] a:=by
  by_cases h5:nm=[45]
  · rw [h5]
  · exfalso;simp [isFn, *] at h
set_option maxRecDepth 100000 in
set_option maxHeartbeats 4000000 in
theorem rone_w {W:World} {nm:List UInt8} {a:Int} {f0:Act} {w0:World} (R:FrS 32 f0) (h0:f0.tmps[0]? = some (.string (str nm))) (h1:f0.tmps[1]? = some (.int .i64 a)) (K1:Keep (fun g=>g < W.heap.size) W w0)  (HA:Hid (inR a)) (HFN:Hid (isFn nm 1=true)):cA33_0.wp Try.prog (bodyPost Try.prog Try.f33 (fun e w'=>WA (resW (oneR nm a)) W e w')) f0 w0:=by
 refine wp_seq (x:=cA33_1) (y:=cA33_2) ?_
 change (Code.region 0 OA33_0 false).wp _ _ _ _
 refine reg_in (l:=[0]) rfl ?_
 have F:=fe_ R;clear R
 have Y:(execOp f0.eval oA33_0_0).run Try.prog w0=.ok (.value (.pointer (some ⟨w0.heap.size,0,none⟩))) (w0.alloc (.cells #[.int .i64 0,.int .i64 0,.string (⟨#[]⟩),.int .i64 0,.slice none 0 0,.bool false] 30)):=by unfold oA33_0_0;go_simp
 have B1:=Blk.new w0 30 #[.int .i64 0,.int .i64 0,.string (⟨#[]⟩),.int .i64 0,.slice none 0 0,.bool false]
 obtain ⟨w2,hw⟩:∃ x,x=w0.alloc (.cells #[.int .i64 0,.int .i64 0,.string (⟨#[]⟩),.int .i64 0,.slice none 0 0,.bool false] 30):=⟨_,rfl⟩;rw [← hw] at Y B1
 obtain ⟨b1,hb⟩:∃ x,x=w0.heap.size:=⟨_,rfl⟩;rw [← hb] at Y B1
 have LK1_b1:=lk_ hb K1;replace K1:=ka_ hw K1;clear hw hb
 refine sw_ gA33_0_0 Y F fun a3 F h4=>?_;clear Y
 refine st_end ?_
 replace h0:=F.of h0;replace h1:=F.of h1;have R:=F.r;clear F
 change (cA33_2).wp _ _ _ _
 refine wp_seq (x:=cA33_3) (y:=cA33_51) ?_
 refine wp_seq (x:=cA33_4) (y:=cA33_5) ?_
 change (Code.region 1 OA33_1 false).wp _ _ _ _
 refine reg_in (l:=[0]) rfl ?_
 have F:=fe_ R;clear R
 refine sw_ gA33_1_0 (ym_ rfl (F.of h0)) F fun a4 F h5=>?_
 refine st_end ?_
 clear h0;replace h1:=F.of h1;replace h4:=F.of h4;have R:=F.r;clear F
 change (cA33_5).wp _ _ _ _
 refine wp_block (id:=0) (c:=cA33_6) ?_
 refine wp_seq (x:=cA33_7) (y:=cA33_8) ?_
 change (Code.region 2 OA33_2 false).wp _ _ _ _
 refine reg_in (l:=[0,1]) rfl ?_
 have F:=fe_ R;clear R
 obtain ⟨b5,hb5⟩:∃ x,(((str nm).toList == [43]))=x:=⟨_,rfl⟩
 have Y:(execOp a4.eval oA33_2_0).run Try.prog w2=.ok (.value (.bool b5)) w2:=by have r5:=F.of h5;rw [← hb5];unfold oA33_2_0;go_simp
 refine sw_ gA33_2_0 Y F fun a6 F h7=>?_;clear Y
 refine sv_ gA33_2_1 (ya_ rfl h7) fun a7 e=>?_
 clear h7;have h6:=pt_ F e;replace F:=pu_ F e;clear e
 refine st_end ?_
 replace h1:=F.of h1;replace h4:=F.of h4;replace h5:=F.of h5;have R:=F.r;clear F
 change (cA33_8).wp _ _ _ _
 cases b5 with
 | false =>
  have fb5:=hb5;clear hb5
  simp only [dd_] at fb5
  refine wp_cond_false (x:=cA33_9) (y:=cA33_12) (eval_slot h6) ?_
  refine wp_seq (x:=cA33_13) (y:=cA33_14) ?_
  change (Code.region 4 OA33_4 false).wp _ _ _ _
  refine reg_in (l:=[0,1]) rfl ?_
  have F:=fe_ R;clear R
  obtain ⟨b8,hb8⟩:∃ x,(((str nm).toList == [92]))=x:=⟨_,rfl⟩
  have Y:(execOp a7.eval oA33_4_0).run Try.prog w2=.ok (.value (.bool b8)) w2:=by have r5:=F.of h5;rw [← hb8];unfold oA33_4_0;go_simp
  refine sw_ gA33_4_0 Y F fun a9 F h11=>?_;clear Y
  refine sv_ gA33_4_1 (ya_ rfl h11) fun a10 e=>?_
  clear h11;have h10:=pt_ F e;replace F:=pu_ F e;clear e
  refine st_end ?_
  replace h1:=F.of h1;replace h4:=F.of h4;replace h5:=F.of h5;clear h6;have R:=F.r;clear F
  change (cA33_14).wp _ _ _ _
  cases b8 with
  | false =>
   have fb8:=hb8;clear hb8
   simp only [dd_] at fb8
   refine wp_cond_false (x:=cA33_15) (y:=cA33_18) (eval_slot h10) ?_
   refine wp_seq (x:=cA33_19) (y:=cA33_20) ?_
   change (Code.region 6 OA33_6 false).wp _ _ _ _
   refine reg_in (l:=[0,1]) rfl ?_
   have F:=fe_ R;clear R
   obtain ⟨b11,hb11⟩:∃ x,(((str nm).toList == [115,105,103,110]))=x:=⟨_,rfl⟩
   have Y:(execOp a10.eval oA33_6_0).run Try.prog w2=.ok (.value (.bool b11)) w2:=by have r5:=F.of h5;rw [← hb11];unfold oA33_6_0;go_simp
   refine sw_ gA33_6_0 Y F fun a12 F h16=>?_;clear Y
   refine sv_ gA33_6_1 (ya_ rfl h16) fun a13 e=>?_
   clear h16;have h15:=pt_ F e;replace F:=pu_ F e;clear e
   refine st_end ?_
   replace h1:=F.of h1;replace h4:=F.of h4;replace h5:=F.of h5;clear h10;have R:=F.r;clear F
   change (cA33_20).wp _ _ _ _
   cases b11 with
   | false =>
    have fb11:=hb11;clear hb11
    simp only [dd_] at fb11
    refine wp_cond_false (x:=cA33_21) (y:=cA33_40) (eval_slot h15) ?_
    refine wp_seq (x:=cA33_41) (y:=cA33_42) ?_
    change (Code.region 12 OA33_12 false).wp _ _ _ _
    refine reg_in (l:=[0,1]) rfl ?_
    have F:=fe_ R;clear R
    obtain ⟨b14,hb14⟩:∃ x,(((str nm).toList == [97,98,115]))=x:=⟨_,rfl⟩
    have Y:(execOp a13.eval oA33_12_0).run Try.prog w2=.ok (.value (.bool b14)) w2:=by have r5:=F.of h5;rw [← hb14];unfold oA33_12_0;go_simp
    refine sw_ gA33_12_0 Y F fun a15 F h25=>?_;clear Y
    refine sv_ gA33_12_1 (ya_ rfl h25) fun a16 e=>?_
    clear h25;have h24:=pt_ F e;replace F:=pu_ F e;clear e
    refine st_end ?_
    replace h1:=F.of h1;replace h4:=F.of h4;clear h5;clear h15;have R:=F.r;clear F
    change (cA33_42).wp _ _ _ _
    cases b14 with
    | false =>
     have fb14:=hb14;clear hb14
     simp only [dd_] at fb14
     refine wp_cond_false (x:=cA33_43) (y:=Code.skip) (eval_slot h24) ?_
     refine wp_skip ?_
     change (cA33_51).wp _ _ _ _
     refine wp_seq (x:=cA33_52) (y:=Code.ret) ?_
     change (Code.region 15 OA33_15 false).wp _ _ _ _
     refine reg_in (l:=[0,1,2]) rfl ?_
     have F:=fe_ R;clear R
     refine sw_ gA33_15_0 (ym_ rfl (F.of h1)) F fun a17 F h30=>?_
     have Y:(execOp a17.eval oA33_15_1).run Try.prog w2=.ok (.enter 43 #[.int .i64 0,.int .i64 a]) w2:=by unfold oA33_15_1;go_simp
     have hca:=rsub_any w2 (a:=0) (b:=a) inR_0 HA.out
     have UKX_b1:=B1.lt
     have HWKX:W.heap.size ≤ w2.heap.size:=K1.size
     refine st_call gA33_15_1 rfl (wanted_free rfl) Y ((hca).mono ?_);clear Y
     rintro e9 w18 ⟨ax,cx,rfl,hx,kk⟩
     replace K1:=keep_onto K1 kk
     replace B1:=blk_on B1 kk
     clear kk
     clear hca
     have HX:=Lib.hid hx;clear hx
     have KX:=Keep.refl (fun g=>w2.heap.size ≤ g∧g < w18.heap.size) w18
     refine ⟨_,rfl,fun a19 e=>?_⟩
     clear h30;have h31:=pt_ F e;replace F:=pu_ F e;clear e
     obtain ⟨w20,Y,hk,hB⟩:=ys6_ (o:=oA33_15_2) rfl (F.of h4) h31 B1
     replace K1:=kx_ hk K1 (Nat.not_lt.2 LK1_b1);replace KX:=kx_ hk KX (fun hx=>absurd hx.1 (Nat.not_le.2 UKX_b1));clear B1;have B1:=hB;clear hB hk
     refine st_skip gA33_15_2 rfl (wanted_free rfl) Y ?_;clear Y
     refine st_end ?_
     clear h1;replace h4:=F.of h4;clear h24;clear h31;have R:=F.r;clear F
     change (Code.ret).wp _ _ _ _
     refine wp_ret ?_
     change bodyPost Try.prog Try.f33 (fun e w'=>WA (resW (oneR nm a)) W e w') .ret a19 w20
     refine ret_cell6 (fn:=Try.f33) rfl R h4 B1 ?_
     simp only [str_list] at *;exact (show WA (resW (oneR nm a)) W _ _ by rw [show oneR nm a=big (0 - a) by rw [rone_minus HFN.out (by assumption) (by assumption) (by assumption) (by assumption),Int.zero_sub];rfl];exact ⟨ax,cx,rfl,(HX.out.on KX).up HWKX,K1⟩)
    | true =>
     have fb14:=hb14;clear hb14
     simp only [dd_] at fb14
     refine wp_cond_true (x:=cA33_43) (y:=Code.skip) (eval_slot h24) ?_
     refine wp_seq (x:=cA33_44) (y:=cA33_45) ?_
     change (Code.region 13 OA33_13 false).wp _ _ _ _
     refine reg_in (l:=[0,1]) rfl ?_
     have F:=fe_ R;clear R
     refine sw_ gA33_13_0 (ym_ rfl (F.of h1)) F fun a21 F h26=>?_
     obtain ⟨b22,hb22⟩:∃ x,(decide ((0:Int) < (a:Int)))=x:=⟨_,rfl⟩
     have Y:(execOp a21.eval oA33_13_1).run Try.prog w2=.ok (.value (.bool b22)) w2:=by rw [← hb22];unfold oA33_13_1;go_simp
     refine sw_ gA33_13_1 Y F fun a23 F h27=>?_;clear Y h26
     refine st_end ?_
     replace h1:=F.of h1;replace h4:=F.of h4;clear h24;have R:=F.r;clear F
     change (cA33_45).wp _ _ _ _
     cases b22 with
     | false =>
      have fb22:=hb22;clear hb22
      simp only [dd_] at fb22
      refine wp_cond_false (x:=cA33_46) (y:=Code.skip) (eval_slot h27) ?_
      refine wp_skip ?_
      change (cA33_51).wp _ _ _ _
      refine wp_seq (x:=cA33_52) (y:=Code.ret) ?_
      change (Code.region 15 OA33_15 false).wp _ _ _ _
      refine reg_in (l:=[0,1,2]) rfl ?_
      have F:=fe_ R;clear R
      refine sw_ gA33_15_0 (ym_ rfl (F.of h1)) F fun a24 F h30=>?_
      have Y:(execOp a24.eval oA33_15_1).run Try.prog w2=.ok (.enter 43 #[.int .i64 0,.int .i64 a]) w2:=by unfold oA33_15_1;go_simp
      have hnm:nm=[97,98,115]:=by simpa [str_list] using fb14
      have hca:=rsub_any w2 (a:=0) (b:=a) inR_0 HA.out
      have UKX_b1:=B1.lt
      have HWKX:W.heap.size ≤ w2.heap.size:=K1.size
      refine st_call gA33_15_1 rfl (wanted_free rfl) Y ((hca).mono ?_);clear Y
      rintro e9 w25 ⟨ax,cx,rfl,hx,kk⟩
      replace K1:=keep_onto K1 kk
      replace B1:=blk_on B1 kk
      clear kk
      clear hca
      have HX:=Lib.hid hx;clear hx
      have KX:=Keep.refl (fun g=>w2.heap.size ≤ g∧g < w25.heap.size) w25
      refine ⟨_,rfl,fun a26 e=>?_⟩
      clear h30;have h31:=pt_ F e;replace F:=pu_ F e;clear e
      obtain ⟨w27,Y,hk,hB⟩:=ys6_ (o:=oA33_15_2) rfl (F.of h4) h31 B1
      replace K1:=kx_ hk K1 (Nat.not_lt.2 LK1_b1);replace KX:=kx_ hk KX (fun hx=>absurd hx.1 (Nat.not_le.2 UKX_b1));clear B1;have B1:=hB;clear hB hk
      refine st_skip gA33_15_2 rfl (wanted_free rfl) Y ?_;clear Y
      refine st_end ?_
      clear h1;replace h4:=F.of h4;clear h27;clear h31;have R:=F.r;clear F
      change (Code.ret).wp _ _ _ _
      refine wp_ret ?_
      change bodyPost Try.prog Try.f33 (fun e w'=>WA (resW (oneR nm a)) W e w') .ret a26 w27
      refine ret_cell6 (fn:=Try.f33) rfl R h4 B1 ?_
      have hnm9:nm=[97,98,115]:=by simpa [str_list] using fb14
      exact (show WA (resW (oneR nm a)) W _ _ by rw [show oneR nm a=big (0 - a) by rw [hnm9,Int.zero_sub];exact abs_low (by omega)];exact ⟨ax,cx,rfl,(HX.out.on KX).up HWKX,K1⟩)
     | true =>
      have fb22:=hb22;clear hb22
      simp only [dd_] at fb22
      refine wp_cond_true (x:=cA33_46) (y:=Code.skip) (eval_slot h27) ?_
      refine wp_seq (x:=cA33_47) (y:=Code.ret) ?_
      change (Code.region 14 OA33_14 false).wp _ _ _ _
      refine reg_in (l:=[0,1,2]) rfl ?_
      have F:=fe_ R;clear R
      refine sw_ gA33_14_0 (ym_ rfl (F.of h1)) F fun a28 F h28=>?_
      refine st_call gA33_14_1 rfl (wanted_free rfl) (yc1_ enA33_31 rfl h28) ((of_any _ (a)).mono ?_)
      rintro e9 w29 ⟨rfl,kk⟩
      replace K1:=keep_onto K1 kk
      replace B1:=blk_on B1 kk
      clear kk
      refine ⟨_,rfl,fun a30 e=>?_⟩
      clear h28;have h29:=pt_ F e;replace F:=pu_ F e;clear e
      obtain ⟨w31,Y,hk,hB⟩:=ys6_ (o:=oA33_14_2) rfl (F.of h4) h29 B1
      replace K1:=kx_ hk K1 (Nat.not_lt.2 LK1_b1);clear B1;have B1:=hB;clear hB hk
      refine st_skip gA33_14_2 rfl (wanted_free rfl) Y ?_;clear Y
      refine st_end ?_
      replace h1:=F.of h1;replace h4:=F.of h4;clear h27;clear h29;have R:=F.r;clear F
      change (Code.ret).wp _ _ _ _
      refine wp_ret ?_
      change bodyPost Try.prog Try.f33 (fun e w'=>WA (resW (oneR nm a)) W e w') .ret a30 w31
      refine ret_cell6 (fn:=Try.f33) rfl R h4 B1 ?_
      have hnm9:nm=[97,98,115]:=by simpa [str_list] using fb14
      exact (show WA (resW (oneR nm a)) W _ _ by rw [show resW (oneR nm a)=.num (a) by rw [hnm9];exact abs_high (by omega)];exact ⟨none,0,rfl,own_zero,K1⟩)
   | true =>
    have fb11:=hb11;clear hb11
    simp only [dd_] at fb11
    refine wp_cond_true (x:=cA33_21) (y:=cA33_40) (eval_slot h15) ?_
    refine wp_seq (x:=cA33_22) (y:=cA33_29) ?_
    refine wp_seq (x:=cA33_23) (y:=cA33_24) ?_
    change (Code.region 7 OA33_7 false).wp _ _ _ _
    refine reg_in (l:=[0,1]) rfl ?_
    have F:=fe_ R;clear R
    refine sw_ gA33_7_0 (ym_ rfl (F.of h1)) F fun a32 F h17=>?_
    obtain ⟨b33,hb33⟩:∃ x,(decide ((0:Int) < (a:Int)))=x:=⟨_,rfl⟩
    have Y:(execOp a32.eval oA33_7_1).run Try.prog w2=.ok (.value (.bool b33)) w2:=by rw [← hb33];unfold oA33_7_1;go_simp
    refine sw_ gA33_7_1 Y F fun a34 F h18=>?_;clear Y h17
    refine st_end ?_
    replace h1:=F.of h1;replace h4:=F.of h4;replace h5:=F.of h5;clear h15;have R:=F.r;clear F
    change (cA33_24).wp _ _ _ _
    cases b33 with
    | false =>
     have fb33:=hb33;clear hb33
     simp only [dd_] at fb33
     refine wp_cond_false (x:=cA33_25) (y:=Code.skip) (eval_slot h18) ?_
     refine wp_skip ?_
     change (cA33_29).wp _ _ _ _
     refine wp_seq (x:=cA33_30) (y:=cA33_37) ?_
     refine wp_seq (x:=cA33_31) (y:=cA33_32) ?_
     change (Code.region 9 OA33_9 false).wp _ _ _ _
     refine reg_in (l:=[0,1]) rfl ?_
     have F:=fe_ R;clear R
     refine sw_ gA33_9_0 (ym_ rfl (F.of h1)) F fun a35 F h20=>?_
     obtain ⟨b36,hb36⟩:∃ x,(decide ((a:Int) < (0:Int)))=x:=⟨_,rfl⟩
     have Y:(execOp a35.eval oA33_9_1).run Try.prog w2=.ok (.value (.bool b36)) w2:=by rw [← hb36];unfold oA33_9_1;go_simp
     refine sw_ gA33_9_1 Y F fun a37 F h21=>?_;clear Y h20
     refine st_end ?_
     replace h1:=F.of h1;replace h4:=F.of h4;replace h5:=F.of h5;clear h18;have R:=F.r;clear F
     change (cA33_32).wp _ _ _ _
     cases b36 with
     | false =>
      have fb36:=hb36;clear hb36
      simp only [dd_] at fb36
      refine wp_cond_false (x:=cA33_33) (y:=Code.skip) (eval_slot h21) ?_
      refine wp_skip ?_
      change (cA33_37).wp _ _ _ _
      refine wp_seq (x:=cA33_38) (y:=Code.ret) ?_
      change (Code.region 11 OA33_11 false).wp _ _ _ _
      refine reg_in (l:=[0,1]) rfl ?_
      have F:=fe_ R;clear R
      have Y:(execOp a37.eval oA33_11_0).run Try.prog w2=.ok (.enter 31 #[.int .i64 0]) w2:=by unfold oA33_11_0;go_simp
      refine st_call gA33_11_0 rfl (wanted_free rfl) Y ((of_any _ (0)).mono ?_);clear Y
      rintro e9 w38 ⟨rfl,kk⟩
      replace K1:=keep_onto K1 kk
      replace B1:=blk_on B1 kk
      clear kk
      refine ⟨_,rfl,fun a39 e=>?_⟩
      have h23:=pt_ F e;replace F:=pu_ F e;clear e
      obtain ⟨w40,Y,hk,hB⟩:=ys6_ (o:=oA33_11_1) rfl (F.of h4) h23 B1
      replace K1:=kx_ hk K1 (Nat.not_lt.2 LK1_b1);clear B1;have B1:=hB;clear hB hk
      refine st_skip gA33_11_1 rfl (wanted_free rfl) Y ?_;clear Y
      refine st_end ?_
      replace h1:=F.of h1;replace h4:=F.of h4;replace h5:=F.of h5;clear h21;clear h23;have R:=F.r;clear F
      change (Code.ret).wp _ _ _ _
      refine wp_ret ?_
      change bodyPost Try.prog Try.f33 (fun e w'=>WA (resW (oneR nm a)) W e w') .ret a39 w40
      refine ret_cell6 (fn:=Try.f33) rfl R h4 B1 ?_
      have hnm9:nm=[115,105,103,110]:=by simpa [str_list] using fb11
      exact (show WA (resW (oneR nm a)) W _ _ by rw [show resW (oneR nm a)=.num (0) by rw [hnm9];exact rone_sign (by unfold cmpZ;first | rw [if_pos (by omega)] | rw [if_neg (by omega),if_pos (by omega)] | rw [if_neg (by omega),if_neg (by omega)])];exact ⟨none,0,rfl,own_zero,K1⟩)
     | true =>
      have fb36:=hb36;clear hb36
      simp only [dd_] at fb36
      refine wp_cond_true (x:=cA33_33) (y:=Code.skip) (eval_slot h21) ?_
      refine wp_seq (x:=cA33_34) (y:=Code.ret) ?_
      change (Code.region 10 OA33_10 false).wp _ _ _ _
      refine reg_in (l:=[0,1]) rfl ?_
      have F:=fe_ R;clear R
      have Y:(execOp a37.eval oA33_10_0).run Try.prog w2=.ok (.enter 31 #[.int .i64 (-1)]) w2:=by unfold oA33_10_0;go_simp
      refine st_call gA33_10_0 rfl (wanted_free rfl) Y ((of_any _ (-1)).mono ?_);clear Y
      rintro e9 w41 ⟨rfl,kk⟩
      replace K1:=keep_onto K1 kk
      replace B1:=blk_on B1 kk
      clear kk
      refine ⟨_,rfl,fun a42 e=>?_⟩
      have h22:=pt_ F e;replace F:=pu_ F e;clear e
      obtain ⟨w43,Y,hk,hB⟩:=ys6_ (o:=oA33_10_1) rfl (F.of h4) h22 B1
      replace K1:=kx_ hk K1 (Nat.not_lt.2 LK1_b1);clear B1;have B1:=hB;clear hB hk
      refine st_skip gA33_10_1 rfl (wanted_free rfl) Y ?_;clear Y
      refine st_end ?_
      replace h1:=F.of h1;replace h4:=F.of h4;replace h5:=F.of h5;clear h21;clear h22;have R:=F.r;clear F
      change (Code.ret).wp _ _ _ _
      refine wp_ret ?_
      change bodyPost Try.prog Try.f33 (fun e w'=>WA (resW (oneR nm a)) W e w') .ret a42 w43
      refine ret_cell6 (fn:=Try.f33) rfl R h4 B1 ?_
      have hnm9:nm=[115,105,103,110]:=by simpa [str_list] using fb11
      exact (show WA (resW (oneR nm a)) W _ _ by rw [show resW (oneR nm a)=.num (-1) by rw [hnm9];exact rone_sign (by unfold cmpZ;first | rw [if_pos (by omega)] | rw [if_neg (by omega),if_pos (by omega)] | rw [if_neg (by omega),if_neg (by omega)])];exact ⟨none,0,rfl,own_zero,K1⟩)
    | true =>
     have fb33:=hb33;clear hb33
     simp only [dd_] at fb33
     refine wp_cond_true (x:=cA33_25) (y:=Code.skip) (eval_slot h18) ?_
     refine wp_seq (x:=cA33_26) (y:=Code.ret) ?_
     change (Code.region 8 OA33_8 false).wp _ _ _ _
     refine reg_in (l:=[0,1]) rfl ?_
     have F:=fe_ R;clear R
     have Y:(execOp a34.eval oA33_8_0).run Try.prog w2=.ok (.enter 31 #[.int .i64 1]) w2:=by unfold oA33_8_0;go_simp
     refine st_call gA33_8_0 rfl (wanted_free rfl) Y ((of_any _ (1)).mono ?_);clear Y
     rintro e9 w44 ⟨rfl,kk⟩
     replace K1:=keep_onto K1 kk
     replace B1:=blk_on B1 kk
     clear kk
     refine ⟨_,rfl,fun a45 e=>?_⟩
     have h19:=pt_ F e;replace F:=pu_ F e;clear e
     obtain ⟨w46,Y,hk,hB⟩:=ys6_ (o:=oA33_8_1) rfl (F.of h4) h19 B1
     replace K1:=kx_ hk K1 (Nat.not_lt.2 LK1_b1);clear B1;have B1:=hB;clear hB hk
     refine st_skip gA33_8_1 rfl (wanted_free rfl) Y ?_;clear Y
     refine st_end ?_
     replace h1:=F.of h1;replace h4:=F.of h4;replace h5:=F.of h5;clear h18;clear h19;have R:=F.r;clear F
     change (Code.ret).wp _ _ _ _
     refine wp_ret ?_
     change bodyPost Try.prog Try.f33 (fun e w'=>WA (resW (oneR nm a)) W e w') .ret a45 w46
     refine ret_cell6 (fn:=Try.f33) rfl R h4 B1 ?_
     have hnm9:nm=[115,105,103,110]:=by simpa [str_list] using fb11
     exact (show WA (resW (oneR nm a)) W _ _ by rw [show resW (oneR nm a)=.num (1) by rw [hnm9];exact rone_sign (by unfold cmpZ;first | rw [if_pos (by omega)] | rw [if_neg (by omega),if_pos (by omega)] | rw [if_neg (by omega),if_neg (by omega)])];exact ⟨none,0,rfl,own_zero,K1⟩)
  | true =>
   have fb8:=hb8;clear hb8
   simp only [dd_] at fb8
   refine wp_cond_true (x:=cA33_15) (y:=cA33_18) (eval_slot h10) ?_
   refine wp_seq (x:=cA33_16) (y:=Code.ret) ?_
   change (Code.region 5 OA33_5 false).wp _ _ _ _
   refine reg_in (l:=[0,1,2,3]) rfl ?_
   have F:=fe_ R;clear R
   refine sw_ gA33_5_0 (ym_ rfl (F.of h1)) F fun a47 F h12=>?_
   have Y:(execOp a47.eval oA33_5_1).run Try.prog w2=.ok (.value (.int .i64 (-1 - a))) w2:=by have ha:=HA.out;unfold inR at ha;have h8:IntKind.i64.wrap (-1 - a)=-1 - a:=(by rw [IntKind.wrap_i64];omega);unfold oA33_5_1;go_simp
   refine sw_ gA33_5_1 Y F fun a48 F h13=>?_;clear Y h12
   refine st_call gA33_5_2 rfl (wanted_free rfl) (yc1_ enA33_31 rfl h13) ((of_any _ (-1 - a)).mono ?_)
   rintro e9 w49 ⟨rfl,kk⟩
   replace K1:=keep_onto K1 kk
   replace B1:=blk_on B1 kk
   clear kk
   refine ⟨_,rfl,fun a50 e=>?_⟩
   clear h13;have h14:=pt_ F e;replace F:=pu_ F e;clear e
   obtain ⟨w51,Y,hk,hB⟩:=ys6_ (o:=oA33_5_3) rfl (F.of h4) h14 B1
   replace K1:=kx_ hk K1 (Nat.not_lt.2 LK1_b1);clear B1;have B1:=hB;clear hB hk
   refine st_skip gA33_5_3 rfl (wanted_free rfl) Y ?_;clear Y
   refine st_end ?_
   replace h1:=F.of h1;replace h4:=F.of h4;replace h5:=F.of h5;clear h10;clear h14;have R:=F.r;clear F
   change (Code.ret).wp _ _ _ _
   refine wp_ret ?_
   change bodyPost Try.prog Try.f33 (fun e w'=>WA (resW (oneR nm a)) W e w') .ret a50 w51
   refine ret_cell6 (fn:=Try.f33) rfl R h4 B1 ?_
   have hnm9:nm=[92]:=by simpa [str_list] using fb8
   exact (show WA (resW (oneR nm a)) W _ _ by rw [show resW (oneR nm a)=.num (-1 - a) by rw [hnm9];show resW (bits .xor .i64 (-1) a,[])=_;rw [xor_not HA.out];rfl];exact ⟨none,0,rfl,own_zero,K1⟩)
 | true =>
  have fb5:=hb5;clear hb5
  simp only [dd_] at fb5
  refine wp_cond_true (x:=cA33_9) (y:=cA33_12) (eval_slot h6) ?_
  refine wp_seq (x:=cA33_10) (y:=Code.ret) ?_
  change (Code.region 3 OA33_3 false).wp _ _ _ _
  refine reg_in (l:=[0,1,2]) rfl ?_
  have F:=fe_ R;clear R
  refine sw_ gA33_3_0 (ym_ rfl (F.of h1)) F fun a52 F h8=>?_
  refine st_call gA33_3_1 rfl (wanted_free rfl) (yc1_ enA33_31 rfl h8) ((of_any _ (a)).mono ?_)
  rintro e9 w53 ⟨rfl,kk⟩
  replace K1:=keep_onto K1 kk
  replace B1:=blk_on B1 kk
  clear kk
  refine ⟨_,rfl,fun a54 e=>?_⟩
  clear h8;have h9:=pt_ F e;replace F:=pu_ F e;clear e
  obtain ⟨w55,Y,hk,hB⟩:=ys6_ (o:=oA33_3_2) rfl (F.of h4) h9 B1
  replace K1:=kx_ hk K1 (Nat.not_lt.2 LK1_b1);clear B1;have B1:=hB;clear hB hk
  refine st_skip gA33_3_2 rfl (wanted_free rfl) Y ?_;clear Y
  refine st_end ?_
  replace h1:=F.of h1;replace h4:=F.of h4;replace h5:=F.of h5;clear h6;clear h9;have R:=F.r;clear F
  change (Code.ret).wp _ _ _ _
  refine wp_ret ?_
  change bodyPost Try.prog Try.f33 (fun e w'=>WA (resW (oneR nm a)) W e w') .ret a54 w55
  refine ret_cell6 (fn:=Try.f33) rfl R h4 B1 ?_
  have hnm9:nm=[43]:=by simpa [str_list] using fb5
  exact (show WA (resW (oneR nm a)) W _ _ by rw [show resW (oneR nm a)=.num (a) by rw [hnm9];rfl];exact ⟨none,0,rfl,own_zero,K1⟩)
theorem rone_any (W:World) {nm:List UInt8} {a:Int} (ha:inR a) (hf:isFn nm 1=true):Calls Try.prog 33 #[.string (str nm),.int .i64 a] W fun e w'=>WA (resW (oneR nm a)) W e w':=by
  refine enter_sx Try.func33 bodyA33 rfl (by show (2:Nat) ≤ 32;decide) fun f0 R hs=>?_
  exact rone_w R (hs 0 _ rfl) (hs 1 _ rfl) (Keep.refl _ W) (Lib.hid ha) (Lib.hid hf)
end Go.Proofs.Ytmgephleogiaoaa
