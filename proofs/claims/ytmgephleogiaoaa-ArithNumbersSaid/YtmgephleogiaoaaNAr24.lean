/-
  What the document's Eval answers. No condition but where the term lies.
-/
import Derived.Test.YtmgephleogiaoaaNAr23
import Derived.Test.YtmgephleogiaoaaNAr19
namespace Go.Proofs.Ytmgephleogiaoaa
open Go.RowKit Go.Maps
set_option linter.unusedVariables false
set_option linter.unusedSimpArgs false
theorem fn_other {nm:List UInt8} {n:Nat} (h1:¬ n=1) (h2:¬ n=2):isFn nm n=false:=by
  have a1:(n == 1)=false:=by rw [beq_eq_false_iff_ne];exact h1
  have a2:(n == 2)=false:=by rw [beq_eq_false_iff_ne];exact h2
  unfold isFn
  simp [a1,a2]
def TW:List (List UInt8):=[[43],[45],[42],[47,47],[114,101,109],[109,111,100],[109,105,110],[109,97,120],[47,92],[92,47],[120,111,114],[62,62],[60,60],[94],[42,42]]
theorem tw_cell:∀ j,j < 15→(#[.string ⟨#[43]⟩,.string ⟨#[45]⟩,.string ⟨#[42]⟩,.string ⟨#[47,47]⟩,.string ⟨#[114,101,109]⟩,.string ⟨#[109,111,100]⟩,.string ⟨#[109,105,110]⟩,.string ⟨#[109,97,120]⟩,.string ⟨#[47,92]⟩,.string ⟨#[92,47]⟩,.string ⟨#[120,111,114]⟩,.string ⟨#[62,62]⟩,.string ⟨#[60,60]⟩,.string ⟨#[94]⟩,.string ⟨#[42,42]⟩]:Array Value)[j]? = some (.string (str (TW.getD j []))):=by
  intro j hj
  match j,hj with
  | 0,_=>rfl
  | 1,_=>rfl
  | 2,_=>rfl
  | 3,_=>rfl
  | 4,_=>rfl
  | 5,_=>rfl
  | 6,_=>rfl
  | 7,_=>rfl
  | 8,_=>rfl
  | 9,_=>rfl
  | 10,_=>rfl
  | 11,_=>rfl
  | 12,_=>rfl
  | 13,_=>rfl
  | 14,_=>rfl
  | n + 15,h=>omega
theorem tw_fn:∀ j,j < 15→isFn (TW.getD j []) 2=true:=by
  intro j hj
  match j,hj with
  | 0,_=>rfl
  | 1,_=>rfl
  | 2,_=>rfl
  | 3,_=>rfl
  | 4,_=>rfl
  | 5,_=>rfl
  | 6,_=>rfl
  | 7,_=>rfl
  | 8,_=>rfl
  | 9,_=>rfl
  | 10,_=>rfl
  | 11,_=>rfl
  | 12,_=>rfl
  | 13,_=>rfl
  | 14,_=>rfl
  | n + 15,h=>omega
theorem tw_no' {nm:List UInt8} (h0:¬ nm=[43]) (h1:¬ nm=[45]) (h2:¬ nm=[42]) (h3:¬ nm=[47,47]) (h4:¬ nm=[114,101,109]) (h5:¬ nm=[109,111,100]) (h6:¬ nm=[109,105,110]) (h7:¬ nm=[109,97,120]) (h8:¬ nm=[47,92]) (h9:¬ nm=[92,47]) (h10:¬ nm=[120,111,114]) (h11:¬ nm=[62,62]) (h12:¬ nm=[60,60]) (h13:¬ nm=[94]) (h14:¬ nm=[42,42]):isFn nm 2=false:=by
  simp [isFn, *]
theorem tw_no {nm:List UInt8} (h:∀ i,i < 15→¬ TW.getD i []=nm):isFn nm 2=false :=
  have h':∀ i,i < 15→¬ nm=TW.getD i []:=fun i hi e=>h i hi e.symm
  tw_no' (h' 0 (by decide)) (h' 1 (by decide)) (h' 2 (by decide)) (h' 3 (by decide)) (h' 4 (by decide)) (h' 5 (by decide)) (h' 6 (by decide)) (h' 7 (by decide)) (h' 8 (by decide)) (h' 9 (by decide)) (h' 10 (by decide)) (h' 11 (by decide)) (h' 12 (by decide)) (h' 13 (by decide)) (h' 14 (by decide))
theorem rone_sign {a v:Int} (h:v=cmpZ a 0):resW (oneR [115,105,103,110] a)=.num v:=by subst h;rfl
def oH0_0:Oper:=⟨some 4,Op.assign (Operand.const (Value.bool false)),4, "ref.go:34",#[],none⟩
def OH0:Array Oper:=List.toArray (oH0_0::[])
theorem gH0_0:OH0[0]? = some oH0_0:=rfl
def cH1:Code:=Code.region 0 OH0 false
def oH1_0:Oper:=⟨some 7,Op.move (Operand.tmp 1),3, "ref.go:35",#[],none⟩
def oH1_1:Oper:=⟨some 8,Op.binOp Go.BinOp.eql 3 (Operand.tmp 7) (Operand.const (Value.int IntKind.i64 1)) 3,4, "ref.go:35",#[ed_ 0],none⟩
def OH1:Array Oper:=List.toArray (oH1_0::oH1_1::[])
theorem gH1_0:OH1[0]? = some oH1_0:=rfl
theorem gH1_1:OH1[1]? = some oH1_1:=rfl
def cH4:Code:=Code.region 1 OH1 false
def oH2_0:Oper:=⟨some 9,Op.move (Operand.tmp 0),9, "ref.go:36",#[],none⟩
def oH2_1:Oper:=⟨some 10,Op.binOp Go.BinOp.eql 9 (Operand.tmp 9) (Operand.const (Value.string { data:=#[43] })) 9,4, "ref.go:36",#[ed_ 0],none⟩
def oH2_2:Oper:=⟨some 11,Op.move (Operand.tmp 10),4, "ref.go:36",#[ed_ 1],none⟩
def oH2_3:Oper:=⟨some 12,Op.move (Operand.tmp 0),9, "ref.go:36",#[eg_ 2],some (2,false)⟩
def oH2_4:Oper:=⟨some 13,Op.binOp Go.BinOp.eql 9 (Operand.tmp 12) (Operand.const (Value.string { data:=#[45] })) 9,4, "ref.go:36",#[ed_ 3,eg_ 2],some (2,false)⟩
def oH2_5:Oper:=⟨some 14,Op.pick (Operand.tmp 11) (Operand.const (Value.bool true)) (Operand.tmp 13),4, "ref.go:36",#[ed_ 2,ed_ 4],none⟩
def oH2_6:Oper:=⟨some 15,Op.move (Operand.tmp 14),4, "ref.go:36",#[ed_ 5,ec_ 2],none⟩
def oH2_7:Oper:=⟨some 16,Op.move (Operand.tmp 0),9, "ref.go:36",#[eg_ 6],some (6,false)⟩
def oH2_8:Oper:=⟨some 17,Op.binOp Go.BinOp.eql 9 (Operand.tmp 16) (Operand.const (Value.string { data:=#[97,98,115] })) 9,4, "ref.go:36",#[ed_ 7,eg_ 6],some (6,false)⟩
def oH2_9:Oper:=⟨some 18,Op.pick (Operand.tmp 15) (Operand.const (Value.bool true)) (Operand.tmp 17),4, "ref.go:36",#[ed_ 6,ed_ 8],none⟩
def oH2_10:Oper:=⟨some 19,Op.move (Operand.tmp 18),4, "ref.go:36",#[ed_ 9,ec_ 6],none⟩
def oH2_11:Oper:=⟨some 20,Op.move (Operand.tmp 0),9, "ref.go:36",#[eg_ 10],some (10,false)⟩
def oH2_12:Oper:=⟨some 21,Op.binOp Go.BinOp.eql 9 (Operand.tmp 20) (Operand.const (Value.string { data:=#[115,105,103,110] })) 9,4, "ref.go:36",#[ed_ 11,eg_ 10],some (10,false)⟩
def oH2_13:Oper:=⟨some 22,Op.pick (Operand.tmp 19) (Operand.const (Value.bool true)) (Operand.tmp 21),4, "ref.go:36",#[ed_ 10,ed_ 12],none⟩
def oH2_14:Oper:=⟨some 23,Op.move (Operand.tmp 22),4, "ref.go:36",#[ed_ 13,ec_ 10],none⟩
def oH2_15:Oper:=⟨some 24,Op.move (Operand.tmp 0),9, "ref.go:36",#[eg_ 14],some (14,false)⟩
def oH2_16:Oper:=⟨some 25,Op.binOp Go.BinOp.eql 9 (Operand.tmp 24) (Operand.const (Value.string { data:=#[92] })) 9,4, "ref.go:36",#[ed_ 15,eg_ 14],some (14,false)⟩
def oH2_17:Oper:=⟨some 26,Op.pick (Operand.tmp 23) (Operand.const (Value.bool true)) (Operand.tmp 25),4, "ref.go:36",#[ed_ 14,ed_ 16],none⟩
def oH2_18:Oper:=⟨some 4,Op.assign (Operand.tmp 26),4, "ref.go:36",#[ed_ 17,ec_ 14,ep_ 0,ep_ 1,ep_ 2,ep_ 3,ep_ 4,ep_ 5,ep_ 6,ep_ 7,ep_ 8,ep_ 9,ep_ 10,ep_ 11,ep_ 12,ep_ 13,ep_ 14,ep_ 15,ep_ 16,ep_ 17],none⟩
def OH2:Array Oper:=List.toArray (oH2_0::oH2_1::oH2_2::oH2_3::oH2_4::oH2_5::oH2_6::oH2_7::oH2_8::oH2_9::oH2_10::oH2_11::oH2_12::oH2_13::oH2_14::oH2_15::oH2_16::oH2_17::oH2_18::[])
theorem gH2_0:OH2[0]? = some oH2_0:=rfl
theorem gH2_1:OH2[1]? = some oH2_1:=rfl
theorem gH2_2:OH2[2]? = some oH2_2:=rfl
theorem gH2_3:OH2[3]? = some oH2_3:=rfl
theorem gH2_4:OH2[4]? = some oH2_4:=rfl
theorem gH2_5:OH2[5]? = some oH2_5:=rfl
theorem gH2_6:OH2[6]? = some oH2_6:=rfl
theorem gH2_7:OH2[7]? = some oH2_7:=rfl
theorem gH2_8:OH2[8]? = some oH2_8:=rfl
theorem gH2_9:OH2[9]? = some oH2_9:=rfl
theorem gH2_10:OH2[10]? = some oH2_10:=rfl
theorem gH2_11:OH2[11]? = some oH2_11:=rfl
theorem gH2_12:OH2[12]? = some oH2_12:=rfl
theorem gH2_13:OH2[13]? = some oH2_13:=rfl
theorem gH2_14:OH2[14]? = some oH2_14:=rfl
theorem gH2_15:OH2[15]? = some oH2_15:=rfl
theorem gH2_16:OH2[16]? = some oH2_16:=rfl
theorem gH2_17:OH2[17]? = some oH2_17:=rfl
theorem gH2_18:OH2[18]? = some oH2_18:=rfl
def cH7:Code:=Code.region 2 OH2 false
def cH6:Code:=Code.seq cH7 Code.ret
def cH5:Code:=Code.cond (Operand.tmp 8) cH6 Code.skip
def cH3:Code:=Code.seq cH4 cH5
def oH3_0:Oper:=⟨some 27,Op.move (Operand.tmp 1),3, "ref.go:38",#[],none⟩
def oH3_1:Oper:=⟨some 28,Op.binOp Go.BinOp.neq 3 (Operand.tmp 27) (Operand.const (Value.int IntKind.i64 2)) 3,4, "ref.go:38",#[ed_ 0],none⟩
def OH3:Array Oper:=List.toArray (oH3_0::oH3_1::[])
theorem gH3_0:OH3[0]? = some oH3_0:=rfl
theorem gH3_1:OH3[1]? = some oH3_1:=rfl
def cH12:Code:=Code.region 3 OH3 false
def oH4_0:Oper:=⟨some 4,Op.assign (Operand.const (Value.bool false)),4, "ref.go:39",#[],none⟩
def OH4:Array Oper:=List.toArray (oH4_0::[])
theorem gH4_0:OH4[0]? = some oH4_0:=rfl
def cH15:Code:=Code.region 4 OH4 false
def cH14:Code:=Code.seq cH15 Code.ret
def cH13:Code:=Code.cond (Operand.tmp 28) cH14 Code.skip
def cH11:Code:=Code.seq cH12 cH13
def oH5_0:Oper:=⟨some 29,Op.buildSlice 63 15 #[(0,Operand.const (Value.string { data:=#[43] })),(1,Operand.const (Value.string { data:=#[45] })),(2,Operand.const (Value.string { data:=#[42] })),(3,Operand.const (Value.string { data:=#[47,47] })),(4,Operand.const (Value.string { data:=#[114,101,109] })),(5,Operand.const (Value.string { data:=#[109,111,100] })),(6,Operand.const (Value.string { data:=#[109,105,110] })),(7,Operand.const (Value.string { data:=#[109,97,120] })),(8,Operand.const (Value.string { data:=#[47,92] })),(9,Operand.const (Value.string { data:=#[92,47] })),(10,Operand.const (Value.string { data:=#[120,111,114] })),(11,Operand.const (Value.string { data:=#[62,62] })),(12,Operand.const (Value.string { data:=#[60,60] })),(13,Operand.const (Value.string { data:=#[94] })),(14,Operand.const (Value.string { data:=#[42,42] }))],63, "ref.go:41",#[],none⟩
def oH5_1:Oper:=⟨some 5,Op.assign (Operand.tmp 29),63, "ref.go:41",#[ed_ 0,ep_ 0],none⟩
def OH5:Array Oper:=List.toArray (oH5_0::oH5_1::[])
theorem gH5_0:OH5[0]? = some oH5_0:=rfl
theorem gH5_1:OH5[1]? = some oH5_1:=rfl
def cH19:Code:=Code.region 5 OH5 false
def oH6_0:Oper:=⟨some 6,Op.assign (Operand.const (Value.int IntKind.i64 0)),3, "ref.go:42",#[],none⟩
def OH6:Array Oper:=List.toArray (oH6_0::[])
theorem gH6_0:OH6[0]? = some oH6_0:=rfl
def cH22:Code:=Code.region 6 OH6 false
def oH7_0:Oper:=⟨some 30,Op.move (Operand.tmp 6),3, "ref.go:42",#[],none⟩
def oH7_1:Oper:=⟨some 31,Op.move (Operand.tmp 5),63, "ref.go:42",#[],none⟩
def oH7_2:Oper:=⟨some 32,Op.call { callee:=Callee.builtin Go.Builtin.len,args:=#[Operand.tmp 31],argTypes:=#[63] },3, "ref.go:42",#[ed_ 1],none⟩
def oH7_3:Oper:=⟨some 33,Op.binOp Go.BinOp.lss 3 (Operand.tmp 30) (Operand.tmp 32) 3,4, "ref.go:42",#[ed_ 0,ed_ 2],none⟩
def OH7:Array Oper:=List.toArray (oH7_0::oH7_1::oH7_2::oH7_3::[])
theorem gH7_0:OH7[0]? = some oH7_0:=rfl
theorem gH7_1:OH7[1]? = some oH7_1:=rfl
theorem gH7_2:OH7[2]? = some oH7_2:=rfl
theorem gH7_3:OH7[3]? = some oH7_3:=rfl
def cH27:Code:=Code.region 7 OH7 false
def cH30:Code:=Code.exit 0
def cH28:Code:=Code.cond (Operand.tmp 33) Code.skip cH30
def cH26:Code:=Code.seq cH27 cH28
def oH9_0:Oper:=⟨some 36,Op.move (Operand.tmp 5),63, "ref.go:43",#[],none⟩
def oH9_1:Oper:=⟨some 37,Op.move (Operand.tmp 6),3, "ref.go:43",#[],none⟩
def oH9_2:Oper:=⟨some 38,Op.indexAddr 63 (Operand.tmp 36) (Operand.tmp 37),0, "ref.go:43",#[ed_ 0,ed_ 1],none⟩
def oH9_3:Oper:=⟨some 39,Op.load 9 (Operand.tmp 38),9, "ref.go:43",#[ed_ 2],none⟩
def oH9_4:Oper:=⟨some 40,Op.move (Operand.tmp 0),9, "ref.go:43",#[],none⟩
def oH9_5:Oper:=⟨some 41,Op.binOp Go.BinOp.eql 9 (Operand.tmp 39) (Operand.tmp 40) 9,4, "ref.go:43",#[ed_ 3,ed_ 4],none⟩
def OH9:Array Oper:=List.toArray (oH9_0::oH9_1::oH9_2::oH9_3::oH9_4::oH9_5::[])
theorem gH9_0:OH9[0]? = some oH9_0:=rfl
theorem gH9_1:OH9[1]? = some oH9_1:=rfl
theorem gH9_2:OH9[2]? = some oH9_2:=rfl
theorem gH9_3:OH9[3]? = some oH9_3:=rfl
theorem gH9_4:OH9[4]? = some oH9_4:=rfl
theorem gH9_5:OH9[5]? = some oH9_5:=rfl
def cH34:Code:=Code.region 9 OH9 false
def oH10_0:Oper:=⟨some 4,Op.assign (Operand.const (Value.bool true)),4, "ref.go:44",#[],none⟩
def OH10:Array Oper:=List.toArray (oH10_0::[])
theorem gH10_0:OH10[0]? = some oH10_0:=rfl
def cH37:Code:=Code.region 10 OH10 false
def cH36:Code:=Code.seq cH37 Code.ret
def cH35:Code:=Code.cond (Operand.tmp 41) cH36 Code.skip
def cH33:Code:=Code.seq cH34 cH35
def cH32:Code:=Code.block 1 cH33
def oH8_0:Oper:=⟨some 34,Op.move (Operand.tmp 6),3, "ref.go:42",#[],none⟩
def oH8_1:Oper:=⟨some 35,Op.binOp Go.BinOp.add 3 (Operand.tmp 34) (Operand.const (Value.int IntKind.i64 1)) 3,3, "ref.go:42",#[ed_ 0],none⟩
def oH8_2:Oper:=⟨some 6,Op.assign (Operand.tmp 35),3, "ref.go:42",#[ed_ 1,ep_ 0,ep_ 1],none⟩
def OH8:Array Oper:=List.toArray (oH8_0::oH8_1::oH8_2::[])
theorem gH8_0:OH8[0]? = some oH8_0:=rfl
theorem gH8_1:OH8[1]? = some oH8_1:=rfl
theorem gH8_2:OH8[2]? = some oH8_2:=rfl
def cH40:Code:=Code.region 8 OH8 false
def cH31:Code:=Code.seq cH32 cH40
def cH25:Code:=Code.seq cH26 cH31
def cH24:Code:=Code.loop cH25
def cH23:Code:=Code.block 0 cH24
def cH21:Code:=Code.seq cH22 cH23
def oH11_0:Oper:=⟨some 4,Op.assign (Operand.const (Value.bool false)),4, "ref.go:47",#[],none⟩
def OH11:Array Oper:=List.toArray (oH11_0::[])
theorem gH11_0:OH11[0]? = some oH11_0:=rfl
def cH42:Code:=Code.region 11 OH11 false
def cH41:Code:=Code.seq cH42 Code.ret
def cH20:Code:=Code.seq cH21 cH41
def cH18:Code:=Code.seq cH19 cH20
def cH10:Code:=Code.seq cH11 cH18
def cH2:Code:=Code.seq cH3 cH10
def cH0:Code:=Code.seq cH1 cH2
theorem bodyA32:Try.f32.body=some cH0:=by kernel_rfl
set_option maxRecDepth 100000 in
set_option maxHeartbeats 4000000 in
theorem has_1 {W:World} {nm:List UInt8} {n:Nat} {f0:Act} {w0:World} (R:FrS 42 f0) (h0:f0.tmps[0]? = some (.string (str nm))) (h1:f0.tmps[1]? = some (.int .i64 (n:Int))) (K1:Keep (fun g=>g < W.heap.size) W w0)  (HC:Hid (n=1)):cH0.wp Try.prog (bodyPost Try.prog Try.f32 (fun e w'=>e=.returned (.bool (isFn nm n))∧Keep (fun g=>g < W.heap.size) W w')) f0 w0:=by
 refine wp_seq (x:=cH1) (y:=cH2) ?_
 change (Code.region 0 OH0 false).wp _ _ _ _
 refine reg_in (l:=[0]) rfl ?_
 have F:=fe_ R;clear R
 have Y:(execOp f0.eval oH0_0).run Try.prog w0=.ok (.value (.bool false)) w0:=by unfold oH0_0;go_simp
 refine sw_ gH0_0 Y F fun a1 F h4=>?_;clear Y
 refine st_end ?_
 replace h0:=F.of h0;replace h1:=F.of h1;have R:=F.r;clear F
 change (cH2).wp _ _ _ _
 refine wp_seq (x:=cH3) (y:=cH10) ?_
 refine wp_seq (x:=cH4) (y:=cH5) ?_
 change (Code.region 1 OH1 false).wp _ _ _ _
 refine reg_in (l:=[0,1]) rfl ?_
 have F:=fe_ R;clear R
 refine sw_ gH1_0 (ym_ rfl (F.of h1)) F fun a2 F h7=>?_
 have Y:(execOp a2.eval oH1_1).run Try.prog w0=.ok (.value (.bool true)) w0:=by have h8:=HC.out;unfold oH1_1;go_simp
 refine sw_ gH1_1 Y F fun a3 F h8=>?_;clear Y h7
 refine st_end ?_
 replace h0:=F.of h0;replace h1:=F.of h1;replace h4:=F.of h4;have R:=F.r;clear F
 change (cH5).wp _ _ _ _
 refine wp_cond_true (x:=cH6) (y:=Code.skip) (eval_slot h8) ?_
 refine wp_seq (x:=cH7) (y:=Code.ret) ?_
 change (Code.region 2 OH2 false).wp _ _ _ _
 refine reg_in (l:=[0,1,2,3,4,5,6,7,8,9,10,11,12,13,14,15,16,17,18]) rfl ?_
 have F:=fe_ R;clear R
 refine sw_ gH2_0 (ym_ rfl (F.of h0)) F fun a4 F h9=>?_
 obtain ⟨b5,hb5⟩:∃ x,(((str nm).toList == [43]))=x:=⟨_,rfl⟩
 have Y:(execOp a4.eval oH2_1).run Try.prog w0=.ok (.value (.bool b5)) w0:=by rw [← hb5];unfold oH2_1;go_simp
 refine sw_ gH2_1 Y F fun a6 F h10=>?_;clear Y h9
 refine sv_ gH2_2 (ym_ rfl h10) fun a7 e=>?_
 clear h10;have h11:=pt_ F e;replace F:=pu_ F e;clear e
 cases b5 with
 | false =>
  have fb5:=hb5;clear hb5
  simp only [dd_] at fb5
  refine st_val gH2_3 rfl (wanted_is (j:=2) (d:=11) rfl rfl h11 rfl) (ym_ rfl (F.of h0)) fun a8 e=>?_
  have h12:=pt_ F e;replace F:=pu_ F e;replace h11:=so_ e h11;clear e
  obtain ⟨b9,hb9⟩:∃ x,(((str nm).toList == [45]))=x:=⟨_,rfl⟩
  have Y:(execOp a8.eval oH2_4).run Try.prog w0=.ok (.value (.bool b9)) w0:=by rw [← hb9];unfold oH2_4;go_simp
  refine st_val gH2_4 rfl (wanted_is (j:=2) (d:=11) rfl rfl h11 rfl) Y fun a10 e=>?_;clear Y
  clear h12;have h13:=pt_ F e;replace F:=pu_ F e;replace h11:=so_ e h11;clear e
  have Y:(execOp a10.eval oH2_5).run Try.prog w0=.ok (.value (.bool b9)) w0:=by unfold oH2_5;go_simp
  refine sw_ gH2_5 Y F fun a11 F h14=>?_;clear Y h11 h13
  refine sv_ gH2_6 (ym_ rfl h14) fun a12 e=>?_
  clear h14;have h15:=pt_ F e;replace F:=pu_ F e;clear e
  cases b9 with
  | false =>
   have fb9:=hb9;clear hb9
   simp only [dd_] at fb9
   refine st_val gH2_7 rfl (wanted_is (j:=6) (d:=15) rfl rfl h15 rfl) (ym_ rfl (F.of h0)) fun a13 e=>?_
   have h16:=pt_ F e;replace F:=pu_ F e;replace h15:=so_ e h15;clear e
   obtain ⟨b14,hb14⟩:∃ x,(((str nm).toList == [97,98,115]))=x:=⟨_,rfl⟩
   have Y:(execOp a13.eval oH2_8).run Try.prog w0=.ok (.value (.bool b14)) w0:=by rw [← hb14];unfold oH2_8;go_simp
   refine st_val gH2_8 rfl (wanted_is (j:=6) (d:=15) rfl rfl h15 rfl) Y fun a15 e=>?_;clear Y
   clear h16;have h17:=pt_ F e;replace F:=pu_ F e;replace h15:=so_ e h15;clear e
   have Y:(execOp a15.eval oH2_9).run Try.prog w0=.ok (.value (.bool b14)) w0:=by unfold oH2_9;go_simp
   refine sw_ gH2_9 Y F fun a16 F h18=>?_;clear Y h15 h17
   refine sv_ gH2_10 (ym_ rfl h18) fun a17 e=>?_
   clear h18;have h19:=pt_ F e;replace F:=pu_ F e;clear e
   cases b14 with
   | false =>
    have fb14:=hb14;clear hb14
    simp only [dd_] at fb14
    refine st_val gH2_11 rfl (wanted_is (j:=10) (d:=19) rfl rfl h19 rfl) (ym_ rfl (F.of h0)) fun a18 e=>?_
    have h20:=pt_ F e;replace F:=pu_ F e;replace h19:=so_ e h19;clear e
    obtain ⟨b19,hb19⟩:∃ x,(((str nm).toList == [115,105,103,110]))=x:=⟨_,rfl⟩
    have Y:(execOp a18.eval oH2_12).run Try.prog w0=.ok (.value (.bool b19)) w0:=by rw [← hb19];unfold oH2_12;go_simp
    refine st_val gH2_12 rfl (wanted_is (j:=10) (d:=19) rfl rfl h19 rfl) Y fun a20 e=>?_;clear Y
    clear h20;have h21:=pt_ F e;replace F:=pu_ F e;replace h19:=so_ e h19;clear e
    have Y:(execOp a20.eval oH2_13).run Try.prog w0=.ok (.value (.bool b19)) w0:=by unfold oH2_13;go_simp
    refine sw_ gH2_13 Y F fun a21 F h22=>?_;clear Y h19 h21
    refine sv_ gH2_14 (ym_ rfl h22) fun a22 e=>?_
    clear h22;have h23:=pt_ F e;replace F:=pu_ F e;clear e
    cases b19 with
    | false =>
     have fb19:=hb19;clear hb19
     simp only [dd_] at fb19
     refine st_val gH2_15 rfl (wanted_is (j:=14) (d:=23) rfl rfl h23 rfl) (ym_ rfl (F.of h0)) fun a23 e=>?_
     have h24:=pt_ F e;replace F:=pu_ F e;replace h23:=so_ e h23;clear e
     obtain ⟨b24,hb24⟩:∃ x,(((str nm).toList == [92]))=x:=⟨_,rfl⟩
     have Y:(execOp a23.eval oH2_16).run Try.prog w0=.ok (.value (.bool b24)) w0:=by rw [← hb24];unfold oH2_16;go_simp
     refine st_val gH2_16 rfl (wanted_is (j:=14) (d:=23) rfl rfl h23 rfl) Y fun a25 e=>?_;clear Y
     clear h24;have h25:=pt_ F e;replace F:=pu_ F e;replace h23:=so_ e h23;clear e
     have Y:(execOp a25.eval oH2_17).run Try.prog w0=.ok (.value (.bool b24)) w0:=by unfold oH2_17;go_simp
     refine sw_ gH2_17 Y F fun a26 F h26=>?_;clear Y h23 h25
     refine sv_ gH2_18 (ya_ rfl h26) fun a27 e=>?_
     clear h26 h4;have h4:=pt_ F e;replace F:=pu_ F e;clear e
     refine st_end ?_
     replace h0:=F.of h0;replace h1:=F.of h1;clear h8;have R:=F.r;clear F
     change (Code.ret).wp _ _ _ _
     refine wp_ret ?_
     change bodyPost Try.prog Try.f32 (fun e w'=>e=.returned (.bool (isFn nm n))∧Keep (fun g=>g < W.heap.size) W w') .ret a27 w0
     refine ret_one rfl R h4 ?_
     have hc:=HC.out;subst hc;simp only [str_list] at *;exact ⟨by first | (simp [isFn, *];done) | (simp [isFn, *];subst_vars;by_cases h9:nm=[92] <;> simp [h9]),K1⟩
    | true =>
     have fb19:=hb19;clear hb19
     simp only [dd_] at fb19
     refine st_not gH2_15 rfl (wanted_is (j:=14) (d:=23) rfl rfl h23 rfl) fun a28 e=>?_
     have h24:=pt_ F e;replace F:=pu_ F e;replace h23:=so_ e h23;clear e
     refine st_not gH2_16 rfl (wanted_is (j:=14) (d:=23) rfl rfl h23 rfl) fun a29 e=>?_
     clear h24;have h25:=pt_ F e;replace F:=pu_ F e;replace h23:=so_ e h23;clear e
     have Y:(execOp a29.eval oH2_17).run Try.prog w0=.ok (.value (.bool true)) w0:=by unfold oH2_17;go_simp
     refine sw_ gH2_17 Y F fun a30 F h26=>?_;clear Y h23 h25
     refine sv_ gH2_18 (ya_ rfl h26) fun a31 e=>?_
     clear h26 h4;have h4:=pt_ F e;replace F:=pu_ F e;clear e
     refine st_end ?_
     replace h0:=F.of h0;replace h1:=F.of h1;clear h8;have R:=F.r;clear F
     change (Code.ret).wp _ _ _ _
     refine wp_ret ?_
     change bodyPost Try.prog Try.f32 (fun e w'=>e=.returned (.bool (isFn nm n))∧Keep (fun g=>g < W.heap.size) W w') .ret a31 w0
     refine ret_one rfl R h4 ?_
     have hc:=HC.out;subst hc;simp only [str_list] at *;exact ⟨by first | (simp [isFn, *];done) | (simp [isFn, *];subst_vars;by_cases h9:nm=[92] <;> simp [h9]),K1⟩
   | true =>
    have fb14:=hb14;clear hb14
    simp only [dd_] at fb14
    refine st_not gH2_11 rfl (wanted_is (j:=10) (d:=19) rfl rfl h19 rfl) fun a32 e=>?_
    have h20:=pt_ F e;replace F:=pu_ F e;replace h19:=so_ e h19;clear e
    refine st_not gH2_12 rfl (wanted_is (j:=10) (d:=19) rfl rfl h19 rfl) fun a33 e=>?_
    clear h20;have h21:=pt_ F e;replace F:=pu_ F e;replace h19:=so_ e h19;clear e
    have Y:(execOp a33.eval oH2_13).run Try.prog w0=.ok (.value (.bool true)) w0:=by unfold oH2_13;go_simp
    refine sw_ gH2_13 Y F fun a34 F h22=>?_;clear Y h19 h21
    refine sv_ gH2_14 (ym_ rfl h22) fun a35 e=>?_
    clear h22;have h23:=pt_ F e;replace F:=pu_ F e;clear e
    refine st_not gH2_15 rfl (wanted_is (j:=14) (d:=23) rfl rfl h23 rfl) fun a36 e=>?_
    have h24:=pt_ F e;replace F:=pu_ F e;replace h23:=so_ e h23;clear e
    refine st_not gH2_16 rfl (wanted_is (j:=14) (d:=23) rfl rfl h23 rfl) fun a37 e=>?_
    clear h24;have h25:=pt_ F e;replace F:=pu_ F e;replace h23:=so_ e h23;clear e
    have Y:(execOp a37.eval oH2_17).run Try.prog w0=.ok (.value (.bool true)) w0:=by unfold oH2_17;go_simp
    refine sw_ gH2_17 Y F fun a38 F h26=>?_;clear Y h23 h25
    refine sv_ gH2_18 (ya_ rfl h26) fun a39 e=>?_
    clear h26 h4;have h4:=pt_ F e;replace F:=pu_ F e;clear e
    refine st_end ?_
    replace h0:=F.of h0;replace h1:=F.of h1;clear h8;have R:=F.r;clear F
    change (Code.ret).wp _ _ _ _
    refine wp_ret ?_
    change bodyPost Try.prog Try.f32 (fun e w'=>e=.returned (.bool (isFn nm n))∧Keep (fun g=>g < W.heap.size) W w') .ret a39 w0
    refine ret_one rfl R h4 ?_
    have hc:=HC.out;subst hc;simp only [str_list] at *;exact ⟨by first | (simp [isFn, *];done) | (simp [isFn, *];subst_vars;by_cases h9:nm=[92] <;> simp [h9]),K1⟩
  | true =>
   have fb9:=hb9;clear hb9
   simp only [dd_] at fb9
   refine st_not gH2_7 rfl (wanted_is (j:=6) (d:=15) rfl rfl h15 rfl) fun a40 e=>?_
   have h16:=pt_ F e;replace F:=pu_ F e;replace h15:=so_ e h15;clear e
   refine st_not gH2_8 rfl (wanted_is (j:=6) (d:=15) rfl rfl h15 rfl) fun a41 e=>?_
   clear h16;have h17:=pt_ F e;replace F:=pu_ F e;replace h15:=so_ e h15;clear e
   have Y:(execOp a41.eval oH2_9).run Try.prog w0=.ok (.value (.bool true)) w0:=by unfold oH2_9;go_simp
   refine sw_ gH2_9 Y F fun a42 F h18=>?_;clear Y h15 h17
   refine sv_ gH2_10 (ym_ rfl h18) fun a43 e=>?_
   clear h18;have h19:=pt_ F e;replace F:=pu_ F e;clear e
   refine st_not gH2_11 rfl (wanted_is (j:=10) (d:=19) rfl rfl h19 rfl) fun a44 e=>?_
   have h20:=pt_ F e;replace F:=pu_ F e;replace h19:=so_ e h19;clear e
   refine st_not gH2_12 rfl (wanted_is (j:=10) (d:=19) rfl rfl h19 rfl) fun a45 e=>?_
   clear h20;have h21:=pt_ F e;replace F:=pu_ F e;replace h19:=so_ e h19;clear e
   have Y:(execOp a45.eval oH2_13).run Try.prog w0=.ok (.value (.bool true)) w0:=by unfold oH2_13;go_simp
   refine sw_ gH2_13 Y F fun a46 F h22=>?_;clear Y h19 h21
   refine sv_ gH2_14 (ym_ rfl h22) fun a47 e=>?_
   clear h22;have h23:=pt_ F e;replace F:=pu_ F e;clear e
   refine st_not gH2_15 rfl (wanted_is (j:=14) (d:=23) rfl rfl h23 rfl) fun a48 e=>?_
   have h24:=pt_ F e;replace F:=pu_ F e;replace h23:=so_ e h23;clear e
   refine st_not gH2_16 rfl (wanted_is (j:=14) (d:=23) rfl rfl h23 rfl) fun a49 e=>?_
   clear h24;have h25:=pt_ F e;replace F:=pu_ F e;replace h23:=so_ e h23;clear e
   have Y:(execOp a49.eval oH2_17).run Try.prog w0=.ok (.value (.bool true)) w0:=by unfold oH2_17;go_simp
   refine sw_ gH2_17 Y F fun a50 F h26=>?_;clear Y h23 h25
   refine sv_ gH2_18 (ya_ rfl h26) fun a51 e=>?_
   clear h26 h4;have h4:=pt_ F e;replace F:=pu_ F e;clear e
   refine st_end ?_
   replace h0:=F.of h0;replace h1:=F.of h1;clear h8;have R:=F.r;clear F
   change (Code.ret).wp _ _ _ _
   refine wp_ret ?_
   change bodyPost Try.prog Try.f32 (fun e w'=>e=.returned (.bool (isFn nm n))∧Keep (fun g=>g < W.heap.size) W w') .ret a51 w0
   refine ret_one rfl R h4 ?_
   have hc:=HC.out;subst hc;simp only [str_list] at *;exact ⟨by first | (simp [isFn, *];done) | (simp [isFn, *];subst_vars;by_cases h9:nm=[92] <;> simp [h9]),K1⟩
 | true =>
  have fb5:=hb5;clear hb5
  simp only [dd_] at fb5
  refine st_not gH2_3 rfl (wanted_is (j:=2) (d:=11) rfl rfl h11 rfl) fun a52 e=>?_
  have h12:=pt_ F e;replace F:=pu_ F e;replace h11:=so_ e h11;clear e
  refine st_not gH2_4 rfl (wanted_is (j:=2) (d:=11) rfl rfl h11 rfl) fun a53 e=>?_
  clear h12;have h13:=pt_ F e;replace F:=pu_ F e;replace h11:=so_ e h11;clear e
  have Y:(execOp a53.eval oH2_5).run Try.prog w0=.ok (.value (.bool true)) w0:=by unfold oH2_5;go_simp
  refine sw_ gH2_5 Y F fun a54 F h14=>?_;clear Y h11 h13
  refine sv_ gH2_6 (ym_ rfl h14) fun a55 e=>?_
  clear h14;have h15:=pt_ F e;replace F:=pu_ F e;clear e
  refine st_not gH2_7 rfl (wanted_is (j:=6) (d:=15) rfl rfl h15 rfl) fun a56 e=>?_
  have h16:=pt_ F e;replace F:=pu_ F e;replace h15:=so_ e h15;clear e
  refine st_not gH2_8 rfl (wanted_is (j:=6) (d:=15) rfl rfl h15 rfl) fun a57 e=>?_
  clear h16;have h17:=pt_ F e;replace F:=pu_ F e;replace h15:=so_ e h15;clear e
  have Y:(execOp a57.eval oH2_9).run Try.prog w0=.ok (.value (.bool true)) w0:=by unfold oH2_9;go_simp
  refine sw_ gH2_9 Y F fun a58 F h18=>?_;clear Y h15 h17
  refine sv_ gH2_10 (ym_ rfl h18) fun a59 e=>?_
  clear h18;have h19:=pt_ F e;replace F:=pu_ F e;clear e
  refine st_not gH2_11 rfl (wanted_is (j:=10) (d:=19) rfl rfl h19 rfl) fun a60 e=>?_
  have h20:=pt_ F e;replace F:=pu_ F e;replace h19:=so_ e h19;clear e
  refine st_not gH2_12 rfl (wanted_is (j:=10) (d:=19) rfl rfl h19 rfl) fun a61 e=>?_
  clear h20;have h21:=pt_ F e;replace F:=pu_ F e;replace h19:=so_ e h19;clear e
  have Y:(execOp a61.eval oH2_13).run Try.prog w0=.ok (.value (.bool true)) w0:=by unfold oH2_13;go_simp
  refine sw_ gH2_13 Y F fun a62 F h22=>?_;clear Y h19 h21
  refine sv_ gH2_14 (ym_ rfl h22) fun a63 e=>?_
  clear h22;have h23:=pt_ F e;replace F:=pu_ F e;clear e
  refine st_not gH2_15 rfl (wanted_is (j:=14) (d:=23) rfl rfl h23 rfl) fun a64 e=>?_
  have h24:=pt_ F e;replace F:=pu_ F e;replace h23:=so_ e h23;clear e
  refine st_not gH2_16 rfl (wanted_is (j:=14) (d:=23) rfl rfl h23 rfl) fun a65 e=>?_
  clear h24;have h25:=pt_ F e;replace F:=pu_ F e;replace h23:=so_ e h23;clear e
  have Y:(execOp a65.eval oH2_17).run Try.prog w0=.ok (.value (.bool true)) w0:=by unfold oH2_17;go_simp
  refine sw_ gH2_17 Y F fun a66 F h26=>?_;clear Y h23 h25
  refine sv_ gH2_18 (ya_ rfl h26) fun a67 e=>?_
  clear h26 h4;have h4:=pt_ F e;replace F:=pu_ F e;clear e
  refine st_end ?_
  replace h0:=F.of h0;replace h1:=F.of h1;clear h8;have R:=F.r;clear F
  change (Code.ret).wp _ _ _ _
  refine wp_ret ?_
  change bodyPost Try.prog Try.f32 (fun e w'=>e=.returned (.bool (isFn nm n))∧Keep (fun g=>g < W.heap.size) W w') .ret a67 w0
  refine ret_one rfl R h4 ?_
  have hc:=HC.out;subst hc;simp only [str_list] at *;exact ⟨by first | (simp [isFn, *];done) | (simp [isFn, *];subst_vars;by_cases h9:nm=[92] <;> simp [h9]),K1⟩
set_option maxRecDepth 100000 in
set_option maxHeartbeats 4000000 in
theorem has_2 {W:World} {nm:List UInt8} {n:Nat} {f0:Act} {w0:World} (R:FrS 42 f0) (h0:f0.tmps[0]? = some (.string (str nm))) (h1:f0.tmps[1]? = some (.int .i64 (n:Int))) (K1:Keep (fun g=>g < W.heap.size) W w0)  (HC:Hid (n=2)):cH0.wp Try.prog (bodyPost Try.prog Try.f32 (fun e w'=>e=.returned (.bool (isFn nm n))∧Keep (fun g=>g < W.heap.size) W w')) f0 w0:=by
 refine wp_seq (x:=cH1) (y:=cH2) ?_
 change (Code.region 0 OH0 false).wp _ _ _ _
 refine reg_in (l:=[0]) rfl ?_
 have F:=fe_ R;clear R
 have Y:(execOp f0.eval oH0_0).run Try.prog w0=.ok (.value (.bool false)) w0:=by unfold oH0_0;go_simp
 refine sw_ gH0_0 Y F fun a68 F h4=>?_;clear Y
 refine st_end ?_
 replace h0:=F.of h0;replace h1:=F.of h1;have R:=F.r;clear F
 change (cH2).wp _ _ _ _
 refine wp_seq (x:=cH3) (y:=cH10) ?_
 refine wp_seq (x:=cH4) (y:=cH5) ?_
 change (Code.region 1 OH1 false).wp _ _ _ _
 refine reg_in (l:=[0,1]) rfl ?_
 have F:=fe_ R;clear R
 refine sw_ gH1_0 (ym_ rfl (F.of h1)) F fun a69 F h7=>?_
 have Y:(execOp a69.eval oH1_1).run Try.prog w0=.ok (.value (.bool false)) w0:=by have h8:=HC.out;unfold oH1_1;go_simp
 refine sw_ gH1_1 Y F fun a70 F h8=>?_;clear Y h7
 refine st_end ?_
 replace h0:=F.of h0;replace h1:=F.of h1;replace h4:=F.of h4;have R:=F.r;clear F
 change (cH5).wp _ _ _ _
 refine wp_cond_false (x:=cH6) (y:=Code.skip) (eval_slot h8) ?_
 refine wp_skip ?_
 change (cH10).wp _ _ _ _
 refine wp_seq (x:=cH11) (y:=cH18) ?_
 refine wp_seq (x:=cH12) (y:=cH13) ?_
 change (Code.region 3 OH3 false).wp _ _ _ _
 refine reg_in (l:=[0,1]) rfl ?_
 have F:=fe_ R;clear R
 refine sw_ gH3_0 (ym_ rfl (F.of h1)) F fun a71 F h27=>?_
 have Y:(execOp a71.eval oH3_1).run Try.prog w0=.ok (.value (.bool false)) w0:=by have h8:=HC.out;unfold oH3_1;go_simp
 refine sw_ gH3_1 Y F fun a72 F h28=>?_;clear Y h27
 refine st_end ?_
 replace h0:=F.of h0;clear h1;replace h4:=F.of h4;clear h8;have R:=F.r;clear F
 change (cH13).wp _ _ _ _
 refine wp_cond_false (x:=cH14) (y:=Code.skip) (eval_slot h28) ?_
 refine wp_skip ?_
 change (cH18).wp _ _ _ _
 refine wp_seq (x:=cH19) (y:=cH20) ?_
 change (Code.region 5 OH5 false).wp _ _ _ _
 refine reg_in (l:=[0,1]) rfl ?_
 have F:=fe_ R;clear R
 have Y:(execOp a72.eval oH5_0).run Try.prog w0=.ok (.value (.slice (some ⟨w0.heap.size,0,none⟩) 15 15)) (w0.alloc (.cells #[.string (⟨#[43]⟩),.string (⟨#[45]⟩),.string (⟨#[42]⟩),.string (⟨#[47,47]⟩),.string (⟨#[114,101,109]⟩),.string (⟨#[109,111,100]⟩),.string (⟨#[109,105,110]⟩),.string (⟨#[109,97,120]⟩),.string (⟨#[47,92]⟩),.string (⟨#[92,47]⟩),.string (⟨#[120,111,114]⟩),.string (⟨#[62,62]⟩),.string (⟨#[60,60]⟩),.string (⟨#[94]⟩),.string (⟨#[42,42]⟩)] 9)):=by unfold oH5_0;go_simp
 have B73:=Blk.new w0 9 #[.string (⟨#[43]⟩),.string (⟨#[45]⟩),.string (⟨#[42]⟩),.string (⟨#[47,47]⟩),.string (⟨#[114,101,109]⟩),.string (⟨#[109,111,100]⟩),.string (⟨#[109,105,110]⟩),.string (⟨#[109,97,120]⟩),.string (⟨#[47,92]⟩),.string (⟨#[92,47]⟩),.string (⟨#[120,111,114]⟩),.string (⟨#[62,62]⟩),.string (⟨#[60,60]⟩),.string (⟨#[94]⟩),.string (⟨#[42,42]⟩)]
 obtain ⟨w74,hw⟩:∃ x,x=w0.alloc (.cells #[.string (⟨#[43]⟩),.string (⟨#[45]⟩),.string (⟨#[42]⟩),.string (⟨#[47,47]⟩),.string (⟨#[114,101,109]⟩),.string (⟨#[109,111,100]⟩),.string (⟨#[109,105,110]⟩),.string (⟨#[109,97,120]⟩),.string (⟨#[47,92]⟩),.string (⟨#[92,47]⟩),.string (⟨#[120,111,114]⟩),.string (⟨#[62,62]⟩),.string (⟨#[60,60]⟩),.string (⟨#[94]⟩),.string (⟨#[42,42]⟩)] 9):=⟨_,rfl⟩;rw [← hw] at Y B73
 obtain ⟨b73,hb⟩:∃ x,x=w0.heap.size:=⟨_,rfl⟩;rw [← hb] at Y B73
 have LK1_b73:=lk_ hb K1;replace K1:=ka_ hw K1;clear hw hb
 refine sw_ gH5_0 Y F fun a75 F h29=>?_;clear Y
 refine sv_ gH5_1 (ya_ rfl h29) fun a76 e=>?_
 clear h29;have h5:=pt_ F e;replace F:=pu_ F e;clear e
 refine st_end ?_
 replace h0:=F.of h0;replace h4:=F.of h4;clear h28;have R:=F.r;clear F
 change (cH20).wp _ _ _ _
 refine wp_seq (x:=cH21) (y:=cH41) ?_
 refine wp_seq (x:=cH22) (y:=cH23) ?_
 change (Code.region 6 OH6 false).wp _ _ _ _
 refine reg_in (l:=[0]) rfl ?_
 have F:=fe_ R;clear R
 have Y:(execOp a76.eval oH6_0).run Try.prog w74=.ok (.value (.int .i64 0)) w74:=by unfold oH6_0;go_simp
 refine sw_ gH6_0 Y F fun a77 F h6=>?_;clear Y
 refine st_end ?_
 replace h0:=F.of h0;replace h4:=F.of h4;replace h5:=F.of h5;have R:=F.r;clear F
 change (cH23).wp _ _ _ _
 refine wp_block (id:=0) (c:=cH24) ?_
 refine wp_loop_ghost (c:=cH25) (fun n fX wX=>∃ j:Nat,n=15 - j∧FrS 42 fX∧fX.tmps[0]? = some (.string (str nm))∧fX.tmps[4]? = some (.bool false)∧fX.tmps[5]? = some (.slice (some ⟨b73,0,none⟩) 15 15)∧fX.tmps[6]? = some (.int .i64 (j:Int))∧Keep (fun g=>g < W.heap.size) W wX∧Blk wX b73 9 #[.string (⟨#[43]⟩),.string (⟨#[45]⟩),.string (⟨#[42]⟩),.string (⟨#[47,47]⟩),.string (⟨#[114,101,109]⟩),.string (⟨#[109,111,100]⟩),.string (⟨#[109,105,110]⟩),.string (⟨#[109,97,120]⟩),.string (⟨#[47,92]⟩),.string (⟨#[92,47]⟩),.string (⟨#[120,111,114]⟩),.string (⟨#[62,62]⟩),.string (⟨#[60,60]⟩),.string (⟨#[94]⟩),.string (⟨#[42,42]⟩)]∧j ≤ 15∧(∀ i,i < j→¬ TW.getD i []=nm)) (15 - 0) ⟨0,rfl,R,h0,h4,h5,h6,K1,B73,(by decide),(fun i hi=>absurd hi (Nat.not_lt_zero i))⟩ ?_
 clear R h0 h4 h5 h6 K1 B73
 rintro n80 a78 w79 ⟨j,rfl,R,h0,h4,h5,h6,K1,B73,hj,hne⟩
 refine wp_seq (x:=cH26) (y:=cH31) ?_
 refine wp_seq (x:=cH27) (y:=cH28) ?_
 change (Code.region 7 OH7 false).wp _ _ _ _
 refine reg_in (l:=[0,1,2,3]) rfl ?_
 have F:=fe_ R;clear R
 refine sw_ gH7_0 (ym_ rfl (F.of h6)) F fun a81 F h30=>?_
 refine sv_ gH7_1 (ym_ rfl (F.of h5)) fun a82 e=>?_
 have h31:=pt_ F e;replace F:=pu_ F e;replace h30:=so_ e h30;clear e
 have Y:(execOp a82.eval oH7_2).run Try.prog w79=.ok (.value (.int .i64 15)) w79:=by unfold oH7_2;go_simp
 refine sv_ gH7_2 Y fun a83 e=>?_;clear Y
 have h32:=pt_ F e;replace F:=pu_ F e;replace h30:=so_ e h30;replace h31:=so_ e h31;clear e
 obtain ⟨b84,hb84⟩:∃ x,(decide (((j:Int):Int) < (15:Int)))=x:=⟨_,rfl⟩
 have Y:(execOp a83.eval oH7_3).run Try.prog w79=.ok (.value (.bool b84)) w79:=by rw [← hb84];unfold oH7_3;go_simp
 refine sv_ gH7_3 Y fun a85 e=>?_;clear Y
 have h33:=pt_ F e;replace F:=pu_ F e;replace h30:=so_ e h30;replace h31:=so_ e h31;replace h32:=so_ e h32;clear e
 refine st_end ?_
 replace h0:=F.of h0;replace h4:=F.of h4;replace h5:=F.of h5;replace h6:=F.of h6;have R:=F.r;clear F
 change (cH28).wp _ _ _ _
 cases b84 with
 | false =>
  have fb84:=hb84;clear hb84
  simp only [dd_] at fb84
  refine wp_cond_false (x:=Code.skip) (y:=cH30) (eval_slot h33) ?_
  refine wp_exit ?_
  change (cH41).wp _ _ _ _
  refine wp_seq (x:=cH42) (y:=Code.ret) ?_
  change (Code.region 11 OH11 false).wp _ _ _ _
  refine reg_in (l:=[0]) rfl ?_
  have F:=fe_ R;clear R
  have Y:(execOp a85.eval oH11_0).run Try.prog w79=.ok (.value (.bool false)) w79:=by unfold oH11_0;go_simp
  refine sw_ gH11_0 Y F fun a86 F h4=>?_;clear Y
  refine st_end ?_
  replace h0:=F.of h0;replace h5:=F.of h5;replace h6:=F.of h6;replace h30:=F.of h30;replace h31:=F.of h31;replace h32:=F.of h32;replace h33:=F.of h33;have R:=F.r;clear F
  change (Code.ret).wp _ _ _ _
  refine wp_ret ?_
  change bodyPost Try.prog Try.f32 (fun e w'=>e=.returned (.bool (isFn nm n))∧Keep (fun g=>g < W.heap.size) W w') .ret a86 w79
  refine ret_one rfl R h4 ?_
  have hc:=HC.out;subst hc;exact ⟨by rw [tw_no fun i hi=>hne i (by omega)],K1⟩
 | true =>
  have fb84:=hb84;clear hb84
  simp only [dd_] at fb84
  refine wp_cond_true (x:=Code.skip) (y:=cH30) (eval_slot h33) ?_
  refine wp_skip ?_
  change (cH31).wp _ _ _ _
  refine wp_seq (x:=cH32) (y:=cH40) ?_
  refine wp_block (id:=1) (c:=cH33) ?_
  refine wp_seq (x:=cH34) (y:=cH35) ?_
  change (Code.region 9 OH9 false).wp _ _ _ _
  refine reg_in (l:=[0,1,2,3,4,5]) rfl ?_
  have F:=fe_ R;clear R
  refine sw_ gH9_0 (ym_ rfl (F.of h5)) F fun a87 F h36=>?_
  refine sv_ gH9_1 (ym_ rfl (F.of h6)) fun a88 e=>?_
  have h37:=pt_ F e;replace F:=pu_ F e;replace h36:=so_ e h36;clear e
  have hcl:w79.cell? ⟨b73,j,none⟩=some (.string (str (TW.getD j []))):=(B73.cell j).trans (tw_cell j (by omega))
  have Y:(execOp a88.eval oH9_2).run Try.prog w79=.ok (.value (.pointer (some ⟨b73,j,none⟩))) w79:=by have h9:(j:Int) < 15:=(by omega);unfold oH9_2;go_simp
  refine sv_ gH9_2 Y fun a89 e=>?_;clear Y
  have h38:=pt_ F e;replace F:=pu_ F e;replace h36:=so_ e h36;replace h37:=so_ e h37;clear e
  have Y:(execOp a89.eval oH9_3).run Try.prog w79=.ok (.value (.string (str (TW.getD j [])))) w79:=by unfold oH9_3;go_simp
  refine sv_ gH9_3 Y fun a90 e=>?_;clear Y
  have h39:=pt_ F e;replace F:=pu_ F e;replace h36:=so_ e h36;replace h37:=so_ e h37;replace h38:=so_ e h38;clear e
  refine sv_ gH9_4 (ym_ rfl (F.of h0)) fun a91 e=>?_
  have h40:=pt_ F e;replace F:=pu_ F e;replace h36:=so_ e h36;replace h37:=so_ e h37;replace h38:=so_ e h38;replace h39:=so_ e h39;clear e
  obtain ⟨b92,hb92⟩:∃ x,(((str (TW.getD j [])).toList == (str nm).toList))=x:=⟨_,rfl⟩
  have Y:(execOp a91.eval oH9_5).run Try.prog w79=.ok (.value (.bool b92)) w79:=by rw [← hb92];unfold oH9_5;go_simp
  refine sv_ gH9_5 Y fun a93 e=>?_;clear Y
  have h41:=pt_ F e;replace F:=pu_ F e;replace h36:=so_ e h36;replace h37:=so_ e h37;replace h38:=so_ e h38;replace h39:=so_ e h39;replace h40:=so_ e h40;clear e
  refine st_end ?_
  replace h0:=F.of h0;replace h4:=F.of h4;replace h5:=F.of h5;replace h6:=F.of h6;replace h30:=F.of h30;replace h31:=F.of h31;replace h32:=F.of h32;replace h33:=F.of h33;have R:=F.r;clear F
  change (cH35).wp _ _ _ _
  cases b92 with
  | false =>
   have fb92:=hb92;clear hb92
   simp only [dd_] at fb92
   refine wp_cond_false (x:=cH36) (y:=Code.skip) (eval_slot h41) ?_
   refine wp_skip ?_
   change (cH40).wp _ _ _ _
   change (Code.region 8 OH8 false).wp _ _ _ _
   refine reg_in (l:=[0,1,2]) rfl ?_
   have F:=fe_ R;clear R
   refine sw_ gH8_0 (ym_ rfl (F.of h6)) F fun a94 F h34=>?_
   have Y:(execOp a94.eval oH8_1).run Try.prog w79=.ok (.value (.int .i64 ((j:Int) + 1))) w79:=by have hwj:IntKind.i64.wrap ((j:Int) + 1)=(j:Int) + 1:=(by rw [IntKind.wrap_i64];omega);unfold oH8_1;go_simp
   refine sv_ gH8_1 Y fun a95 e=>?_;clear Y
   have h35:=pt_ F e;replace F:=pu_ F e;replace h34:=so_ e h34;clear e
   refine sv_ gH8_2 (ya_ rfl h35) fun a96 e=>?_
   clear h6;have h6:=pt_ F e;replace F:=pu_ F e;replace h34:=so_ e h34;replace h35:=so_ e h35;clear e
   refine st_end ?_
   replace h0:=F.of h0;replace h4:=F.of h4;replace h5:=F.of h5;replace h30:=F.of h30;replace h31:=F.of h31;replace h32:=F.of h32;replace h33:=F.of h33;replace h36:=F.of h36;replace h37:=F.of h37;replace h38:=F.of h38;replace h39:=F.of h39;replace h40:=F.of h40;replace h41:=F.of h41;have R:=F.r;clear F
   exact ⟨_,(by omega),j + 1,rfl,R,h0,h4,h5,h6,K1,B73,(by omega),(fun i hi=>by by_cases h:i < j;exact hne i h;rw [show i=j by omega];simpa [str_list] using fb92)⟩
  | true =>
   have fb92:=hb92;clear hb92
   simp only [dd_] at fb92
   refine wp_cond_true (x:=cH36) (y:=Code.skip) (eval_slot h41) ?_
   refine wp_seq (x:=cH37) (y:=Code.ret) ?_
   change (Code.region 10 OH10 false).wp _ _ _ _
   refine reg_in (l:=[0]) rfl ?_
   have F:=fe_ R;clear R
   have Y:(execOp a93.eval oH10_0).run Try.prog w79=.ok (.value (.bool true)) w79:=by unfold oH10_0;go_simp
   refine sw_ gH10_0 Y F fun a97 F h4=>?_;clear Y
   refine st_end ?_
   replace h0:=F.of h0;replace h5:=F.of h5;replace h6:=F.of h6;replace h30:=F.of h30;replace h31:=F.of h31;replace h32:=F.of h32;replace h33:=F.of h33;replace h36:=F.of h36;replace h37:=F.of h37;replace h38:=F.of h38;replace h39:=F.of h39;replace h40:=F.of h40;replace h41:=F.of h41;have R:=F.r;clear F
   change (Code.ret).wp _ _ _ _
   refine wp_ret ?_
   change bodyPost Try.prog Try.f32 (fun e w'=>e=.returned (.bool (isFn nm n))∧Keep (fun g=>g < W.heap.size) W w') .ret a97 w79
   refine ret_one rfl R h4 ?_
   have hc:=HC.out;subst hc;have hq:TW.getD j []=nm:=by simpa [str_list] using fb92
   exact ⟨by rw [← hq,tw_fn j (by omega)],K1⟩
set_option maxRecDepth 100000 in
set_option maxHeartbeats 4000000 in
theorem has_3 {W:World} {nm:List UInt8} {n:Nat} {f0:Act} {w0:World} (R:FrS 42 f0) (h0:f0.tmps[0]? = some (.string (str nm))) (h1:f0.tmps[1]? = some (.int .i64 (n:Int))) (K1:Keep (fun g=>g < W.heap.size) W w0)  (HC:Hid (¬ n=1∧¬ n=2)):cH0.wp Try.prog (bodyPost Try.prog Try.f32 (fun e w'=>e=.returned (.bool (isFn nm n))∧Keep (fun g=>g < W.heap.size) W w')) f0 w0:=by
 refine wp_seq (x:=cH1) (y:=cH2) ?_
 change (Code.region 0 OH0 false).wp _ _ _ _
 refine reg_in (l:=[0]) rfl ?_
 have F:=fe_ R;clear R
 have Y:(execOp f0.eval oH0_0).run Try.prog w0=.ok (.value (.bool false)) w0:=by unfold oH0_0;go_simp
 refine sw_ gH0_0 Y F fun a98 F h4=>?_;clear Y
 refine st_end ?_
 replace h0:=F.of h0;replace h1:=F.of h1;have R:=F.r;clear F
 change (cH2).wp _ _ _ _
 refine wp_seq (x:=cH3) (y:=cH10) ?_
 refine wp_seq (x:=cH4) (y:=cH5) ?_
 change (Code.region 1 OH1 false).wp _ _ _ _
 refine reg_in (l:=[0,1]) rfl ?_
 have F:=fe_ R;clear R
 refine sw_ gH1_0 (ym_ rfl (F.of h1)) F fun a99 F h7=>?_
 have Y:(execOp a99.eval oH1_1).run Try.prog w0=.ok (.value (.bool false)) w0:=by have h8:¬ (n:Int)=1:=(by have:=HC.out;omega);have h7:¬ (n:Int)=2:=(by have:=HC.out;omega);unfold oH1_1;go_simp
 refine sw_ gH1_1 Y F fun a100 F h8=>?_;clear Y h7
 refine st_end ?_
 replace h0:=F.of h0;replace h1:=F.of h1;replace h4:=F.of h4;have R:=F.r;clear F
 change (cH5).wp _ _ _ _
 refine wp_cond_false (x:=cH6) (y:=Code.skip) (eval_slot h8) ?_
 refine wp_skip ?_
 change (cH10).wp _ _ _ _
 refine wp_seq (x:=cH11) (y:=cH18) ?_
 refine wp_seq (x:=cH12) (y:=cH13) ?_
 change (Code.region 3 OH3 false).wp _ _ _ _
 refine reg_in (l:=[0,1]) rfl ?_
 have F:=fe_ R;clear R
 refine sw_ gH3_0 (ym_ rfl (F.of h1)) F fun a101 F h27=>?_
 have Y:(execOp a101.eval oH3_1).run Try.prog w0=.ok (.value (.bool true)) w0:=by have h8:¬ (n:Int)=1:=(by have:=HC.out;omega);have h7:¬ (n:Int)=2:=(by have:=HC.out;omega);unfold oH3_1;go_simp
 refine sw_ gH3_1 Y F fun a102 F h28=>?_;clear Y h27
 refine st_end ?_
 replace h0:=F.of h0;clear h1;replace h4:=F.of h4;clear h8;have R:=F.r;clear F
 change (cH13).wp _ _ _ _
 refine wp_cond_true (x:=cH14) (y:=Code.skip) (eval_slot h28) ?_
 refine wp_seq (x:=cH15) (y:=Code.ret) ?_
 change (Code.region 4 OH4 false).wp _ _ _ _
 refine reg_in (l:=[0]) rfl ?_
 have F:=fe_ R;clear R
 have Y:(execOp a102.eval oH4_0).run Try.prog w0=.ok (.value (.bool false)) w0:=by unfold oH4_0;go_simp
 refine sw_ gH4_0 Y F fun a103 F h4=>?_;clear Y
 refine st_end ?_
 replace h0:=F.of h0;clear h28;have R:=F.r;clear F
 change (Code.ret).wp _ _ _ _
 refine wp_ret ?_
 change bodyPost Try.prog Try.f32 (fun e w'=>e=.returned (.bool (isFn nm n))∧Keep (fun g=>g < W.heap.size) W w') .ret a103 w0
 refine ret_one rfl R h4 ?_
 exact ⟨by rw [fn_other HC.out.1 HC.out.2],K1⟩
theorem has_any (W:World) (nm:List UInt8) (n:Nat):Calls Try.prog 32 #[.string (str nm),.int .i64 n] W fun e w'=>e=.returned (.bool (isFn nm n))∧Keep (fun g=>g < W.heap.size) W w':=by
  refine enter_sx Try.func32 bodyA32 rfl (by show (2:Nat) ≤ 42;decide) fun f0 R hs=>?_
  by_cases h1:n=1
  · exact has_1 R (hs 0 _ rfl) (hs 1 _ rfl) (Keep.refl _ W) (Lib.hid h1)
  · by_cases h2:n=2
    · exact has_2 R (hs 0 _ rfl) (hs 1 _ rfl) (Keep.refl _ W) (Lib.hid h2)
    · exact has_3 R (hs 0 _ rfl) (hs 1 _ rfl) (Keep.refl _ W) (Lib.hid ⟨h1,h2⟩)
theorem has_sx {W:World} {nm:List UInt8} {n:Nat} {z:Bool} (h:isFn nm n=z):Calls Try.prog 32 #[.string (str nm),.int .i64 n] W fun e w'=>e=.returned (.bool z)∧Keep (fun g=>g < W.heap.size) W w':=by
  subst h;exact has_any W nm n
def oC0_0:Oper:=⟨some 6,Op.alloc 30,0, "ref.go:134",#[],none⟩
def OC0:Array Oper:=List.toArray (oC0_0::[])
theorem gC0_0:OC0[0]? = some oC0_0:=rfl
def cC1:Code:=Code.region 0 OC0 false
def oC1_0:Oper:=⟨some 7,Op.move (Operand.tmp 0),9, "ref.go:135",#[],none⟩
def OC1:Array Oper:=List.toArray (oC1_0::[])
theorem gC1_0:OC1[0]? = some oC1_0:=rfl
def cC4:Code:=Code.region 1 OC1 false
def oC2_0:Oper:=⟨some 9,Op.binOp Go.BinOp.eql 9 (Operand.tmp 7) (Operand.const (Value.string { data:=#[43] })) 9,4, "ref.go:136",#[],none⟩
def oC2_1:Oper:=⟨some 8,Op.assign (Operand.tmp 9),4, "ref.go:136",#[ed_ 0],none⟩
def OC2:Array Oper:=List.toArray (oC2_0::oC2_1::[])
theorem gC2_0:OC2[0]? = some oC2_0:=rfl
theorem gC2_1:OC2[1]? = some oC2_1:=rfl
def cC7:Code:=Code.region 2 OC2 false
def oC3_0:Oper:=⟨some 10,Op.move (Operand.tmp 1),2, "ref.go:137",#[],none⟩
def oC3_1:Oper:=⟨some 11,Op.move (Operand.tmp 2),2, "ref.go:137",#[],none⟩
def oC3_2:Oper:=⟨some 12,Op.call { callee:=Callee.value (Operand.func 44),args:=#[Operand.tmp 10,Operand.tmp 11],argTypes:=#[2,2] },30, "ref.go:137",#[ed_ 0,ed_ 1],none⟩
def oC3_3:Oper:=⟨none,Op.store 30 (Operand.tmp 6) (Operand.tmp 12),0, "ref.go:137",#[ed_ 2,ec_ 2,ep_ 0,ep_ 1,ep_ 2],none⟩
def OC3:Array Oper:=List.toArray (oC3_0::oC3_1::oC3_2::oC3_3::[])
theorem gC3_0:OC3[0]? = some oC3_0:=rfl
theorem gC3_1:OC3[1]? = some oC3_1:=rfl
theorem gC3_2:OC3[2]? = some oC3_2:=rfl
theorem gC3_3:OC3[3]? = some oC3_3:=rfl
def cC10:Code:=Code.region 3 OC3 false
def cC9:Code:=Code.seq cC10 Code.ret
def oC4_0:Oper:=⟨some 14,Op.binOp Go.BinOp.eql 9 (Operand.tmp 7) (Operand.const (Value.string { data:=#[45] })) 9,4, "ref.go:138",#[],none⟩
def oC4_1:Oper:=⟨some 13,Op.assign (Operand.tmp 14),4, "ref.go:138",#[ed_ 0],none⟩
def OC4:Array Oper:=List.toArray (oC4_0::oC4_1::[])
theorem gC4_0:OC4[0]? = some oC4_0:=rfl
theorem gC4_1:OC4[1]? = some oC4_1:=rfl
def cC13:Code:=Code.region 4 OC4 false
def oC5_0:Oper:=⟨some 15,Op.move (Operand.tmp 1),2, "ref.go:139",#[],none⟩
def oC5_1:Oper:=⟨some 16,Op.move (Operand.tmp 2),2, "ref.go:139",#[],none⟩
def oC5_2:Oper:=⟨some 17,Op.call { callee:=Callee.value (Operand.func 43),args:=#[Operand.tmp 15,Operand.tmp 16],argTypes:=#[2,2] },30, "ref.go:139",#[ed_ 0,ed_ 1],none⟩
def oC5_3:Oper:=⟨none,Op.store 30 (Operand.tmp 6) (Operand.tmp 17),0, "ref.go:139",#[ed_ 2,ec_ 2,ep_ 0,ep_ 1,ep_ 2],none⟩
def OC5:Array Oper:=List.toArray (oC5_0::oC5_1::oC5_2::oC5_3::[])
theorem gC5_0:OC5[0]? = some oC5_0:=rfl
theorem gC5_1:OC5[1]? = some oC5_1:=rfl
theorem gC5_2:OC5[2]? = some oC5_2:=rfl
theorem gC5_3:OC5[3]? = some oC5_3:=rfl
def cC16:Code:=Code.region 5 OC5 false
def cC15:Code:=Code.seq cC16 Code.ret
def oC6_0:Oper:=⟨some 19,Op.binOp Go.BinOp.eql 9 (Operand.tmp 7) (Operand.const (Value.string { data:=#[42] })) 9,4, "ref.go:140",#[],none⟩
def oC6_1:Oper:=⟨some 18,Op.assign (Operand.tmp 19),4, "ref.go:140",#[ed_ 0],none⟩
def OC6:Array Oper:=List.toArray (oC6_0::oC6_1::[])
theorem gC6_0:OC6[0]? = some oC6_0:=rfl
theorem gC6_1:OC6[1]? = some oC6_1:=rfl
def cC19:Code:=Code.region 6 OC6 false
def oC7_0:Oper:=⟨some 20,Op.move (Operand.tmp 1),2, "ref.go:141",#[],none⟩
def oC7_1:Oper:=⟨some 21,Op.move (Operand.tmp 2),2, "ref.go:141",#[],none⟩
def oC7_2:Oper:=⟨some 22,Op.call { callee:=Callee.value (Operand.func 45),args:=#[Operand.tmp 20,Operand.tmp 21],argTypes:=#[2,2] },30, "ref.go:141",#[ed_ 0,ed_ 1],none⟩
def oC7_3:Oper:=⟨none,Op.store 30 (Operand.tmp 6) (Operand.tmp 22),0, "ref.go:141",#[ed_ 2,ec_ 2,ep_ 0,ep_ 1,ep_ 2],none⟩
def OC7:Array Oper:=List.toArray (oC7_0::oC7_1::oC7_2::oC7_3::[])
theorem gC7_0:OC7[0]? = some oC7_0:=rfl
theorem gC7_1:OC7[1]? = some oC7_1:=rfl
theorem gC7_2:OC7[2]? = some oC7_2:=rfl
theorem gC7_3:OC7[3]? = some oC7_3:=rfl
def cC22:Code:=Code.region 7 OC7 false
def cC21:Code:=Code.seq cC22 Code.ret
def oC8_0:Oper:=⟨some 24,Op.binOp Go.BinOp.eql 9 (Operand.tmp 7) (Operand.const (Value.string { data:=#[109,105,110] })) 9,4, "ref.go:142",#[],none⟩
def oC8_1:Oper:=⟨some 23,Op.assign (Operand.tmp 24),4, "ref.go:142",#[ed_ 0],none⟩
def OC8:Array Oper:=List.toArray (oC8_0::oC8_1::[])
theorem gC8_0:OC8[0]? = some oC8_0:=rfl
theorem gC8_1:OC8[1]? = some oC8_1:=rfl
def cC25:Code:=Code.region 8 OC8 false
def oC9_0:Oper:=⟨some 25,Op.move (Operand.tmp 1),2, "ref.go:143",#[],none⟩
def oC9_1:Oper:=⟨some 26,Op.move (Operand.tmp 2),2, "ref.go:143",#[],none⟩
def oC9_2:Oper:=⟨some 27,Op.binOp Go.BinOp.lss 2 (Operand.tmp 25) (Operand.tmp 26) 2,4, "ref.go:143",#[ed_ 0,ed_ 1],none⟩
def OC9:Array Oper:=List.toArray (oC9_0::oC9_1::oC9_2::[])
theorem gC9_0:OC9[0]? = some oC9_0:=rfl
theorem gC9_1:OC9[1]? = some oC9_1:=rfl
theorem gC9_2:OC9[2]? = some oC9_2:=rfl
def cC29:Code:=Code.region 9 OC9 false
def oC10_0:Oper:=⟨some 28,Op.move (Operand.tmp 1),2, "ref.go:144",#[],none⟩
def oC10_1:Oper:=⟨some 29,Op.call { callee:=Callee.value (Operand.func 31),args:=#[Operand.tmp 28],argTypes:=#[2] },30, "ref.go:144",#[ed_ 0],none⟩
def oC10_2:Oper:=⟨none,Op.store 30 (Operand.tmp 6) (Operand.tmp 29),0, "ref.go:144",#[ed_ 1,ec_ 1,ep_ 0,ep_ 1],none⟩
def OC10:Array Oper:=List.toArray (oC10_0::oC10_1::oC10_2::[])
theorem gC10_0:OC10[0]? = some oC10_0:=rfl
theorem gC10_1:OC10[1]? = some oC10_1:=rfl
theorem gC10_2:OC10[2]? = some oC10_2:=rfl
def cC32:Code:=Code.region 10 OC10 false
def cC31:Code:=Code.seq cC32 Code.ret
def cC30:Code:=Code.cond (Operand.tmp 27) cC31 Code.skip
def cC28:Code:=Code.seq cC29 cC30
def oC11_0:Oper:=⟨some 30,Op.move (Operand.tmp 2),2, "ref.go:146",#[],none⟩
def oC11_1:Oper:=⟨some 31,Op.call { callee:=Callee.value (Operand.func 31),args:=#[Operand.tmp 30],argTypes:=#[2] },30, "ref.go:146",#[ed_ 0],none⟩
def oC11_2:Oper:=⟨none,Op.store 30 (Operand.tmp 6) (Operand.tmp 31),0, "ref.go:146",#[ed_ 1,ec_ 1,ep_ 0,ep_ 1],none⟩
def OC11:Array Oper:=List.toArray (oC11_0::oC11_1::oC11_2::[])
theorem gC11_0:OC11[0]? = some oC11_0:=rfl
theorem gC11_1:OC11[1]? = some oC11_1:=rfl
theorem gC11_2:OC11[2]? = some oC11_2:=rfl
def cC36:Code:=Code.region 11 OC11 false
def cC35:Code:=Code.seq cC36 Code.ret
def cC27:Code:=Code.seq cC28 cC35
def oC12_0:Oper:=⟨some 33,Op.binOp Go.BinOp.eql 9 (Operand.tmp 7) (Operand.const (Value.string { data:=#[109,97,120] })) 9,4, "ref.go:147",#[],none⟩
def oC12_1:Oper:=⟨some 32,Op.assign (Operand.tmp 33),4, "ref.go:147",#[ed_ 0],none⟩
def OC12:Array Oper:=List.toArray (oC12_0::oC12_1::[])
theorem gC12_0:OC12[0]? = some oC12_0:=rfl
theorem gC12_1:OC12[1]? = some oC12_1:=rfl
def cC39:Code:=Code.region 12 OC12 false
def oC13_0:Oper:=⟨some 34,Op.move (Operand.tmp 1),2, "ref.go:148",#[],none⟩
def oC13_1:Oper:=⟨some 35,Op.move (Operand.tmp 2),2, "ref.go:148",#[],none⟩
def oC13_2:Oper:=⟨some 36,Op.binOp Go.BinOp.gtr 2 (Operand.tmp 34) (Operand.tmp 35) 2,4, "ref.go:148",#[ed_ 0,ed_ 1],none⟩
def OC13:Array Oper:=List.toArray (oC13_0::oC13_1::oC13_2::[])
theorem gC13_0:OC13[0]? = some oC13_0:=rfl
theorem gC13_1:OC13[1]? = some oC13_1:=rfl
theorem gC13_2:OC13[2]? = some oC13_2:=rfl
def cC43:Code:=Code.region 13 OC13 false
def oC14_0:Oper:=⟨some 37,Op.move (Operand.tmp 1),2, "ref.go:149",#[],none⟩
def oC14_1:Oper:=⟨some 38,Op.call { callee:=Callee.value (Operand.func 31),args:=#[Operand.tmp 37],argTypes:=#[2] },30, "ref.go:149",#[ed_ 0],none⟩
def oC14_2:Oper:=⟨none,Op.store 30 (Operand.tmp 6) (Operand.tmp 38),0, "ref.go:149",#[ed_ 1,ec_ 1,ep_ 0,ep_ 1],none⟩
def OC14:Array Oper:=List.toArray (oC14_0::oC14_1::oC14_2::[])
theorem gC14_0:OC14[0]? = some oC14_0:=rfl
theorem gC14_1:OC14[1]? = some oC14_1:=rfl
theorem gC14_2:OC14[2]? = some oC14_2:=rfl
def cC46:Code:=Code.region 14 OC14 false
def cC45:Code:=Code.seq cC46 Code.ret
def cC44:Code:=Code.cond (Operand.tmp 36) cC45 Code.skip
def cC42:Code:=Code.seq cC43 cC44
def oC15_0:Oper:=⟨some 39,Op.move (Operand.tmp 2),2, "ref.go:151",#[],none⟩
def oC15_1:Oper:=⟨some 40,Op.call { callee:=Callee.value (Operand.func 31),args:=#[Operand.tmp 39],argTypes:=#[2] },30, "ref.go:151",#[ed_ 0],none⟩
def oC15_2:Oper:=⟨none,Op.store 30 (Operand.tmp 6) (Operand.tmp 40),0, "ref.go:151",#[ed_ 1,ec_ 1,ep_ 0,ep_ 1],none⟩
def OC15:Array Oper:=List.toArray (oC15_0::oC15_1::oC15_2::[])
theorem gC15_0:OC15[0]? = some oC15_0:=rfl
theorem gC15_1:OC15[1]? = some oC15_1:=rfl
theorem gC15_2:OC15[2]? = some oC15_2:=rfl
def cC50:Code:=Code.region 15 OC15 false
def cC49:Code:=Code.seq cC50 Code.ret
def cC41:Code:=Code.seq cC42 cC49
def oC16_0:Oper:=⟨some 42,Op.binOp Go.BinOp.eql 9 (Operand.tmp 7) (Operand.const (Value.string { data:=#[47,92] })) 9,4, "ref.go:152",#[],none⟩
def oC16_1:Oper:=⟨some 41,Op.assign (Operand.tmp 42),4, "ref.go:152",#[ed_ 0],none⟩
def OC16:Array Oper:=List.toArray (oC16_0::oC16_1::[])
theorem gC16_0:OC16[0]? = some oC16_0:=rfl
theorem gC16_1:OC16[1]? = some oC16_1:=rfl
def cC53:Code:=Code.region 16 OC16 false
def oC17_0:Oper:=⟨some 43,Op.move (Operand.tmp 1),2, "ref.go:153",#[],none⟩
def oC17_1:Oper:=⟨some 44,Op.move (Operand.tmp 2),2, "ref.go:153",#[],none⟩
def oC17_2:Oper:=⟨some 45,Op.binOp Go.BinOp.and 2 (Operand.tmp 43) (Operand.tmp 44) 2,2, "ref.go:153",#[ed_ 0,ed_ 1],none⟩
def oC17_3:Oper:=⟨some 46,Op.call { callee:=Callee.value (Operand.func 31),args:=#[Operand.tmp 45],argTypes:=#[2] },30, "ref.go:153",#[ed_ 2],none⟩
def oC17_4:Oper:=⟨none,Op.store 30 (Operand.tmp 6) (Operand.tmp 46),0, "ref.go:153",#[ed_ 3,ec_ 3,ep_ 0,ep_ 1,ep_ 2,ep_ 3],none⟩
def OC17:Array Oper:=List.toArray (oC17_0::oC17_1::oC17_2::oC17_3::oC17_4::[])
theorem gC17_0:OC17[0]? = some oC17_0:=rfl
theorem gC17_1:OC17[1]? = some oC17_1:=rfl
theorem gC17_2:OC17[2]? = some oC17_2:=rfl
theorem gC17_3:OC17[3]? = some oC17_3:=rfl
theorem gC17_4:OC17[4]? = some oC17_4:=rfl
def cC56:Code:=Code.region 17 OC17 false
def cC55:Code:=Code.seq cC56 Code.ret
def oC18_0:Oper:=⟨some 48,Op.binOp Go.BinOp.eql 9 (Operand.tmp 7) (Operand.const (Value.string { data:=#[92,47] })) 9,4, "ref.go:154",#[],none⟩
def oC18_1:Oper:=⟨some 47,Op.assign (Operand.tmp 48),4, "ref.go:154",#[ed_ 0],none⟩
def OC18:Array Oper:=List.toArray (oC18_0::oC18_1::[])
theorem gC18_0:OC18[0]? = some oC18_0:=rfl
theorem gC18_1:OC18[1]? = some oC18_1:=rfl
def cC59:Code:=Code.region 18 OC18 false
def oC19_0:Oper:=⟨some 49,Op.move (Operand.tmp 1),2, "ref.go:155",#[],none⟩
def oC19_1:Oper:=⟨some 50,Op.move (Operand.tmp 2),2, "ref.go:155",#[],none⟩
def oC19_2:Oper:=⟨some 51,Op.binOp Go.BinOp.or 2 (Operand.tmp 49) (Operand.tmp 50) 2,2, "ref.go:155",#[ed_ 0,ed_ 1],none⟩
def oC19_3:Oper:=⟨some 52,Op.call { callee:=Callee.value (Operand.func 31),args:=#[Operand.tmp 51],argTypes:=#[2] },30, "ref.go:155",#[ed_ 2],none⟩
def oC19_4:Oper:=⟨none,Op.store 30 (Operand.tmp 6) (Operand.tmp 52),0, "ref.go:155",#[ed_ 3,ec_ 3,ep_ 0,ep_ 1,ep_ 2,ep_ 3],none⟩
def OC19:Array Oper:=List.toArray (oC19_0::oC19_1::oC19_2::oC19_3::oC19_4::[])
theorem gC19_0:OC19[0]? = some oC19_0:=rfl
theorem gC19_1:OC19[1]? = some oC19_1:=rfl
theorem gC19_2:OC19[2]? = some oC19_2:=rfl
theorem gC19_3:OC19[3]? = some oC19_3:=rfl
theorem gC19_4:OC19[4]? = some oC19_4:=rfl
def cC62:Code:=Code.region 19 OC19 false
def cC61:Code:=Code.seq cC62 Code.ret
def oC20_0:Oper:=⟨some 54,Op.binOp Go.BinOp.eql 9 (Operand.tmp 7) (Operand.const (Value.string { data:=#[120,111,114] })) 9,4, "ref.go:156",#[],none⟩
def oC20_1:Oper:=⟨some 53,Op.assign (Operand.tmp 54),4, "ref.go:156",#[ed_ 0],none⟩
def OC20:Array Oper:=List.toArray (oC20_0::oC20_1::[])
theorem gC20_0:OC20[0]? = some oC20_0:=rfl
theorem gC20_1:OC20[1]? = some oC20_1:=rfl
def cC65:Code:=Code.region 20 OC20 false
def oC21_0:Oper:=⟨some 55,Op.move (Operand.tmp 1),2, "ref.go:157",#[],none⟩
def oC21_1:Oper:=⟨some 56,Op.move (Operand.tmp 2),2, "ref.go:157",#[],none⟩
def oC21_2:Oper:=⟨some 57,Op.binOp Go.BinOp.xor 2 (Operand.tmp 55) (Operand.tmp 56) 2,2, "ref.go:157",#[ed_ 0,ed_ 1],none⟩
def oC21_3:Oper:=⟨some 58,Op.call { callee:=Callee.value (Operand.func 31),args:=#[Operand.tmp 57],argTypes:=#[2] },30, "ref.go:157",#[ed_ 2],none⟩
def oC21_4:Oper:=⟨none,Op.store 30 (Operand.tmp 6) (Operand.tmp 58),0, "ref.go:157",#[ed_ 3,ec_ 3,ep_ 0,ep_ 1,ep_ 2,ep_ 3],none⟩
def OC21:Array Oper:=List.toArray (oC21_0::oC21_1::oC21_2::oC21_3::oC21_4::[])
theorem gC21_0:OC21[0]? = some oC21_0:=rfl
theorem gC21_1:OC21[1]? = some oC21_1:=rfl
theorem gC21_2:OC21[2]? = some oC21_2:=rfl
theorem gC21_3:OC21[3]? = some oC21_3:=rfl
theorem gC21_4:OC21[4]? = some oC21_4:=rfl
def cC68:Code:=Code.region 21 OC21 false
def cC67:Code:=Code.seq cC68 Code.ret
def oC22_0:Oper:=⟨some 60,Op.binOp Go.BinOp.eql 9 (Operand.tmp 7) (Operand.const (Value.string { data:=#[47,47] })) 9,4, "ref.go:158",#[],none⟩
def oC22_1:Oper:=⟨some 59,Op.assign (Operand.tmp 60),4, "ref.go:158",#[ed_ 0],none⟩
def OC22:Array Oper:=List.toArray (oC22_0::oC22_1::[])
theorem gC22_0:OC22[0]? = some oC22_0:=rfl
theorem gC22_1:OC22[1]? = some oC22_1:=rfl
def cC72:Code:=Code.region 22 OC22 false
def oC23_0:Oper:=⟨some 61,Op.binOp Go.BinOp.eql 9 (Operand.tmp 7) (Operand.const (Value.string { data:=#[114,101,109] })) 9,4, "ref.go:158",#[],none⟩
def oC23_1:Oper:=⟨some 59,Op.assign (Operand.tmp 61),4, "ref.go:158",#[ed_ 0],none⟩
def OC23:Array Oper:=List.toArray (oC23_0::oC23_1::[])
theorem gC23_0:OC23[0]? = some oC23_0:=rfl
theorem gC23_1:OC23[1]? = some oC23_1:=rfl
def cC76:Code:=Code.region 23 OC23 false
def oC24_0:Oper:=⟨some 62,Op.binOp Go.BinOp.eql 9 (Operand.tmp 7) (Operand.const (Value.string { data:=#[109,111,100] })) 9,4, "ref.go:158",#[],none⟩
def oC24_1:Oper:=⟨some 59,Op.assign (Operand.tmp 62),4, "ref.go:158",#[ed_ 0],none⟩
def OC24:Array Oper:=List.toArray (oC24_0::oC24_1::[])
theorem gC24_0:OC24[0]? = some oC24_0:=rfl
theorem gC24_1:OC24[1]? = some oC24_1:=rfl
def cC79:Code:=Code.region 24 OC24 false
def cC77:Code:=Code.cond (Operand.tmp 59) Code.skip cC79
def cC75:Code:=Code.seq cC76 cC77
def cC73:Code:=Code.cond (Operand.tmp 59) Code.skip cC75
def cC71:Code:=Code.seq cC72 cC73
def oC25_0:Oper:=⟨some 63,Op.move (Operand.tmp 0),9, "ref.go:159",#[],none⟩
def oC25_1:Oper:=⟨some 64,Op.move (Operand.tmp 1),2, "ref.go:159",#[],none⟩
def oC25_2:Oper:=⟨some 65,Op.move (Operand.tmp 2),2, "ref.go:159",#[],none⟩
def oC25_3:Oper:=⟨some 66,Op.call { callee:=Callee.value (Operand.func 46),args:=#[Operand.tmp 63,Operand.tmp 64,Operand.tmp 65],argTypes:=#[9,2,2] },30, "ref.go:159",#[ed_ 0,ed_ 1,ed_ 2],none⟩
def oC25_4:Oper:=⟨none,Op.store 30 (Operand.tmp 6) (Operand.tmp 66),0, "ref.go:159",#[ed_ 3,ec_ 3,ep_ 0,ep_ 1,ep_ 2,ep_ 3],none⟩
def OC25:Array Oper:=List.toArray (oC25_0::oC25_1::oC25_2::oC25_3::oC25_4::[])
theorem gC25_0:OC25[0]? = some oC25_0:=rfl
theorem gC25_1:OC25[1]? = some oC25_1:=rfl
theorem gC25_2:OC25[2]? = some oC25_2:=rfl
theorem gC25_3:OC25[3]? = some oC25_3:=rfl
theorem gC25_4:OC25[4]? = some oC25_4:=rfl
def cC82:Code:=Code.region 25 OC25 false
def cC81:Code:=Code.seq cC82 Code.ret
def oC26_0:Oper:=⟨some 68,Op.binOp Go.BinOp.eql 9 (Operand.tmp 7) (Operand.const (Value.string { data:=#[62,62] })) 9,4, "ref.go:160",#[],none⟩
def oC26_1:Oper:=⟨some 67,Op.assign (Operand.tmp 68),4, "ref.go:160",#[ed_ 0],none⟩
def OC26:Array Oper:=List.toArray (oC26_0::oC26_1::[])
theorem gC26_0:OC26[0]? = some oC26_0:=rfl
theorem gC26_1:OC26[1]? = some oC26_1:=rfl
def cC86:Code:=Code.region 26 OC26 false
def oC27_0:Oper:=⟨some 69,Op.binOp Go.BinOp.eql 9 (Operand.tmp 7) (Operand.const (Value.string { data:=#[60,60] })) 9,4, "ref.go:160",#[],none⟩
def oC27_1:Oper:=⟨some 67,Op.assign (Operand.tmp 69),4, "ref.go:160",#[ed_ 0],none⟩
def OC27:Array Oper:=List.toArray (oC27_0::oC27_1::[])
theorem gC27_0:OC27[0]? = some oC27_0:=rfl
theorem gC27_1:OC27[1]? = some oC27_1:=rfl
def cC89:Code:=Code.region 27 OC27 false
def cC87:Code:=Code.cond (Operand.tmp 67) Code.skip cC89
def cC85:Code:=Code.seq cC86 cC87
def oC28_0:Oper:=⟨some 70,Op.move (Operand.tmp 0),9, "ref.go:161",#[],none⟩
def oC28_1:Oper:=⟨some 71,Op.move (Operand.tmp 1),2, "ref.go:161",#[],none⟩
def oC28_2:Oper:=⟨some 72,Op.move (Operand.tmp 2),2, "ref.go:161",#[],none⟩
def oC28_3:Oper:=⟨some 73,Op.call { callee:=Callee.value (Operand.func 47),args:=#[Operand.tmp 70,Operand.tmp 71,Operand.tmp 72],argTypes:=#[9,2,2] },30, "ref.go:161",#[ed_ 0,ed_ 1,ed_ 2],none⟩
def oC28_4:Oper:=⟨none,Op.store 30 (Operand.tmp 6) (Operand.tmp 73),0, "ref.go:161",#[ed_ 3,ec_ 3,ep_ 0,ep_ 1,ep_ 2,ep_ 3],none⟩
def OC28:Array Oper:=List.toArray (oC28_0::oC28_1::oC28_2::oC28_3::oC28_4::[])
theorem gC28_0:OC28[0]? = some oC28_0:=rfl
theorem gC28_1:OC28[1]? = some oC28_1:=rfl
theorem gC28_2:OC28[2]? = some oC28_2:=rfl
theorem gC28_3:OC28[3]? = some oC28_3:=rfl
theorem gC28_4:OC28[4]? = some oC28_4:=rfl
def cC92:Code:=Code.region 28 OC28 false
def cC91:Code:=Code.seq cC92 Code.ret
def cC90:Code:=Code.cond (Operand.tmp 67) cC91 Code.skip
def cC84:Code:=Code.seq cC85 cC90
def cC80:Code:=Code.cond (Operand.tmp 59) cC81 cC84
def cC70:Code:=Code.seq cC71 cC80
def cC66:Code:=Code.cond (Operand.tmp 53) cC67 cC70
def cC64:Code:=Code.seq cC65 cC66
def cC60:Code:=Code.cond (Operand.tmp 47) cC61 cC64
def cC58:Code:=Code.seq cC59 cC60
def cC54:Code:=Code.cond (Operand.tmp 41) cC55 cC58
def cC52:Code:=Code.seq cC53 cC54
def cC40:Code:=Code.cond (Operand.tmp 32) cC41 cC52
def cC38:Code:=Code.seq cC39 cC40
def cC26:Code:=Code.cond (Operand.tmp 23) cC27 cC38
def cC24:Code:=Code.seq cC25 cC26
def cC20:Code:=Code.cond (Operand.tmp 18) cC21 cC24
def cC18:Code:=Code.seq cC19 cC20
def cC14:Code:=Code.cond (Operand.tmp 13) cC15 cC18
def cC12:Code:=Code.seq cC13 cC14
def cC8:Code:=Code.cond (Operand.tmp 8) cC9 cC12
def cC6:Code:=Code.seq cC7 cC8
def cC5:Code:=Code.block 0 cC6
def cC3:Code:=Code.seq cC4 cC5
def oC29_0:Oper:=⟨some 74,Op.move (Operand.tmp 1),2, "ref.go:163",#[],none⟩
def oC29_1:Oper:=⟨some 75,Op.move (Operand.tmp 2),2, "ref.go:163",#[],none⟩
def oC29_2:Oper:=⟨some 76,Op.call { callee:=Callee.value (Operand.func 48),args:=#[Operand.tmp 74,Operand.tmp 75],argTypes:=#[2,2] },30, "ref.go:163",#[ed_ 0,ed_ 1],none⟩
def oC29_3:Oper:=⟨none,Op.store 30 (Operand.tmp 6) (Operand.tmp 76),0, "ref.go:163",#[ed_ 2,ec_ 2,ep_ 0,ep_ 1,ep_ 2],none⟩
def OC29:Array Oper:=List.toArray (oC29_0::oC29_1::oC29_2::oC29_3::[])
theorem gC29_0:OC29[0]? = some oC29_0:=rfl
theorem gC29_1:OC29[1]? = some oC29_1:=rfl
theorem gC29_2:OC29[2]? = some oC29_2:=rfl
theorem gC29_3:OC29[3]? = some oC29_3:=rfl
def cC96:Code:=Code.region 29 OC29 false
def cC95:Code:=Code.seq cC96 Code.ret
def cC2:Code:=Code.seq cC3 cC95
def cC0:Code:=Code.seq cC1 cC2
theorem enA34_31:Enters Try.prog 31:=enters_of Try.func31 (by kernel_rfl) rfl
theorem enA34_43:Enters Try.prog 43:=enters_of Try.func43 (by kernel_rfl) rfl
theorem enA34_44:Enters Try.prog 44:=enters_of Try.func44 (by kernel_rfl) rfl
theorem enA34_45:Enters Try.prog 45:=enters_of Try.func45 (by kernel_rfl) rfl
theorem enA34_48:Enters Try.prog 48:=enters_of Try.func48 (by kernel_rfl) rfl
theorem bodyA34:Try.f34.body=some cC0:=by kernel_rfl
set_option maxRecDepth 100000 in
set_option maxHeartbeats 4000000 in
theorem rtwo_w {W:World} {nm:List UInt8} {a b:Int} {f0:Act} {w0:World} (R:FrS 77 f0) (h0:f0.tmps[0]? = some (.string (str nm))) (h1:f0.tmps[1]? = some (.int .i64 a)) (h2:f0.tmps[2]? = some (.int .i64 b)) (K1:Keep (fun g=>g < W.heap.size) W w0)  (HA:Hid (inR a)) (HB:Hid (inR b)):cC0.wp Try.prog (bodyPost Try.prog Try.f34 (fun e w'=>WA (resW (twoR nm a b)) W e w')) f0 w0:=by
 refine wp_seq (x:=cC1) (y:=cC2) ?_
 change (Code.region 0 OC0 false).wp _ _ _ _
 refine reg_in (l:=[0]) rfl ?_
 have F:=fe_ R;clear R
 have Y:(execOp f0.eval oC0_0).run Try.prog w0=.ok (.value (.pointer (some ⟨w0.heap.size,0,none⟩))) (w0.alloc (.cells #[.int .i64 0,.int .i64 0,.string (⟨#[]⟩),.int .i64 0,.slice none 0 0,.bool false] 30)):=by unfold oC0_0;go_simp
 have B1:=Blk.new w0 30 #[.int .i64 0,.int .i64 0,.string (⟨#[]⟩),.int .i64 0,.slice none 0 0,.bool false]
 obtain ⟨w2,hw⟩:∃ x,x=w0.alloc (.cells #[.int .i64 0,.int .i64 0,.string (⟨#[]⟩),.int .i64 0,.slice none 0 0,.bool false] 30):=⟨_,rfl⟩;rw [← hw] at Y B1
 obtain ⟨b1,hb⟩:∃ x,x=w0.heap.size:=⟨_,rfl⟩;rw [← hb] at Y B1
 have LK1_b1:=lk_ hb K1;replace K1:=ka_ hw K1;clear hw hb
 refine sw_ gC0_0 Y F fun a3 F h6=>?_;clear Y
 refine st_end ?_
 replace h0:=F.of h0;replace h1:=F.of h1;replace h2:=F.of h2;have R:=F.r;clear F
 change (cC2).wp _ _ _ _
 refine wp_seq (x:=cC3) (y:=cC95) ?_
 refine wp_seq (x:=cC4) (y:=cC5) ?_
 change (Code.region 1 OC1 false).wp _ _ _ _
 refine reg_in (l:=[0]) rfl ?_
 have F:=fe_ R;clear R
 refine sw_ gC1_0 (ym_ rfl (F.of h0)) F fun a4 F h7=>?_
 refine st_end ?_
 replace h0:=F.of h0;replace h1:=F.of h1;replace h2:=F.of h2;replace h6:=F.of h6;have R:=F.r;clear F
 change (cC5).wp _ _ _ _
 refine wp_block (id:=0) (c:=cC6) ?_
 refine wp_seq (x:=cC7) (y:=cC8) ?_
 change (Code.region 2 OC2 false).wp _ _ _ _
 refine reg_in (l:=[0,1]) rfl ?_
 have F:=fe_ R;clear R
 obtain ⟨b5,hb5⟩:∃ x,(((str nm).toList == [43]))=x:=⟨_,rfl⟩
 have Y:(execOp a4.eval oC2_0).run Try.prog w2=.ok (.value (.bool b5)) w2:=by have r7:=F.of h7;rw [← hb5];unfold oC2_0;go_simp
 refine sw_ gC2_0 Y F fun a6 F h9=>?_;clear Y
 refine sv_ gC2_1 (ya_ rfl h9) fun a7 e=>?_
 clear h9;have h8:=pt_ F e;replace F:=pu_ F e;clear e
 refine st_end ?_
 replace h0:=F.of h0;replace h1:=F.of h1;replace h2:=F.of h2;replace h6:=F.of h6;replace h7:=F.of h7;have R:=F.r;clear F
 change (cC8).wp _ _ _ _
 cases b5 with
 | false =>
  have fb5:=hb5;clear hb5
  simp only [dd_] at fb5
  refine wp_cond_false (x:=cC9) (y:=cC12) (eval_slot h8) ?_
  refine wp_seq (x:=cC13) (y:=cC14) ?_
  change (Code.region 4 OC4 false).wp _ _ _ _
  refine reg_in (l:=[0,1]) rfl ?_
  have F:=fe_ R;clear R
  obtain ⟨b8,hb8⟩:∃ x,(((str nm).toList == [45]))=x:=⟨_,rfl⟩
  have Y:(execOp a7.eval oC4_0).run Try.prog w2=.ok (.value (.bool b8)) w2:=by have r7:=F.of h7;rw [← hb8];unfold oC4_0;go_simp
  refine sw_ gC4_0 Y F fun a9 F h14=>?_;clear Y
  refine sv_ gC4_1 (ya_ rfl h14) fun a10 e=>?_
  clear h14;have h13:=pt_ F e;replace F:=pu_ F e;clear e
  refine st_end ?_
  replace h0:=F.of h0;replace h1:=F.of h1;replace h2:=F.of h2;replace h6:=F.of h6;replace h7:=F.of h7;clear h8;have R:=F.r;clear F
  change (cC14).wp _ _ _ _
  cases b8 with
  | false =>
   have fb8:=hb8;clear hb8
   simp only [dd_] at fb8
   refine wp_cond_false (x:=cC15) (y:=cC18) (eval_slot h13) ?_
   refine wp_seq (x:=cC19) (y:=cC20) ?_
   change (Code.region 6 OC6 false).wp _ _ _ _
   refine reg_in (l:=[0,1]) rfl ?_
   have F:=fe_ R;clear R
   obtain ⟨b11,hb11⟩:∃ x,(((str nm).toList == [42]))=x:=⟨_,rfl⟩
   have Y:(execOp a10.eval oC6_0).run Try.prog w2=.ok (.value (.bool b11)) w2:=by have r7:=F.of h7;rw [← hb11];unfold oC6_0;go_simp
   refine sw_ gC6_0 Y F fun a12 F h19=>?_;clear Y
   refine sv_ gC6_1 (ya_ rfl h19) fun a13 e=>?_
   clear h19;have h18:=pt_ F e;replace F:=pu_ F e;clear e
   refine st_end ?_
   replace h0:=F.of h0;replace h1:=F.of h1;replace h2:=F.of h2;replace h6:=F.of h6;replace h7:=F.of h7;clear h13;have R:=F.r;clear F
   change (cC20).wp _ _ _ _
   cases b11 with
   | false =>
    have fb11:=hb11;clear hb11
    simp only [dd_] at fb11
    refine wp_cond_false (x:=cC21) (y:=cC24) (eval_slot h18) ?_
    refine wp_seq (x:=cC25) (y:=cC26) ?_
    change (Code.region 8 OC8 false).wp _ _ _ _
    refine reg_in (l:=[0,1]) rfl ?_
    have F:=fe_ R;clear R
    obtain ⟨b14,hb14⟩:∃ x,(((str nm).toList == [109,105,110]))=x:=⟨_,rfl⟩
    have Y:(execOp a13.eval oC8_0).run Try.prog w2=.ok (.value (.bool b14)) w2:=by have r7:=F.of h7;rw [← hb14];unfold oC8_0;go_simp
    refine sw_ gC8_0 Y F fun a15 F h24=>?_;clear Y
    refine sv_ gC8_1 (ya_ rfl h24) fun a16 e=>?_
    clear h24;have h23:=pt_ F e;replace F:=pu_ F e;clear e
    refine st_end ?_
    replace h0:=F.of h0;replace h1:=F.of h1;replace h2:=F.of h2;replace h6:=F.of h6;replace h7:=F.of h7;clear h18;have R:=F.r;clear F
    change (cC26).wp _ _ _ _
    cases b14 with
    | false =>
     have fb14:=hb14;clear hb14
     simp only [dd_] at fb14
     refine wp_cond_false (x:=cC27) (y:=cC38) (eval_slot h23) ?_
     refine wp_seq (x:=cC39) (y:=cC40) ?_
     change (Code.region 12 OC12 false).wp _ _ _ _
     refine reg_in (l:=[0,1]) rfl ?_
     have F:=fe_ R;clear R
     obtain ⟨b17,hb17⟩:∃ x,(((str nm).toList == [109,97,120]))=x:=⟨_,rfl⟩
     have Y:(execOp a16.eval oC12_0).run Try.prog w2=.ok (.value (.bool b17)) w2:=by have r7:=F.of h7;rw [← hb17];unfold oC12_0;go_simp
     refine sw_ gC12_0 Y F fun a18 F h33=>?_;clear Y
     refine sv_ gC12_1 (ya_ rfl h33) fun a19 e=>?_
     clear h33;have h32:=pt_ F e;replace F:=pu_ F e;clear e
     refine st_end ?_
     replace h0:=F.of h0;replace h1:=F.of h1;replace h2:=F.of h2;replace h6:=F.of h6;replace h7:=F.of h7;clear h23;have R:=F.r;clear F
     change (cC40).wp _ _ _ _
     cases b17 with
     | false =>
      have fb17:=hb17;clear hb17
      simp only [dd_] at fb17
      refine wp_cond_false (x:=cC41) (y:=cC52) (eval_slot h32) ?_
      refine wp_seq (x:=cC53) (y:=cC54) ?_
      change (Code.region 16 OC16 false).wp _ _ _ _
      refine reg_in (l:=[0,1]) rfl ?_
      have F:=fe_ R;clear R
      obtain ⟨b20,hb20⟩:∃ x,(((str nm).toList == [47,92]))=x:=⟨_,rfl⟩
      have Y:(execOp a19.eval oC16_0).run Try.prog w2=.ok (.value (.bool b20)) w2:=by have r7:=F.of h7;rw [← hb20];unfold oC16_0;go_simp
      refine sw_ gC16_0 Y F fun a21 F h42=>?_;clear Y
      refine sv_ gC16_1 (ya_ rfl h42) fun a22 e=>?_
      clear h42;have h41:=pt_ F e;replace F:=pu_ F e;clear e
      refine st_end ?_
      replace h0:=F.of h0;replace h1:=F.of h1;replace h2:=F.of h2;replace h6:=F.of h6;replace h7:=F.of h7;clear h32;have R:=F.r;clear F
      change (cC54).wp _ _ _ _
      cases b20 with
      | false =>
       have fb20:=hb20;clear hb20
       simp only [dd_] at fb20
       refine wp_cond_false (x:=cC55) (y:=cC58) (eval_slot h41) ?_
       refine wp_seq (x:=cC59) (y:=cC60) ?_
       change (Code.region 18 OC18 false).wp _ _ _ _
       refine reg_in (l:=[0,1]) rfl ?_
       have F:=fe_ R;clear R
       obtain ⟨b23,hb23⟩:∃ x,(((str nm).toList == [92,47]))=x:=⟨_,rfl⟩
       have Y:(execOp a22.eval oC18_0).run Try.prog w2=.ok (.value (.bool b23)) w2:=by have r7:=F.of h7;rw [← hb23];unfold oC18_0;go_simp
       refine sw_ gC18_0 Y F fun a24 F h48=>?_;clear Y
       refine sv_ gC18_1 (ya_ rfl h48) fun a25 e=>?_
       clear h48;have h47:=pt_ F e;replace F:=pu_ F e;clear e
       refine st_end ?_
       replace h0:=F.of h0;replace h1:=F.of h1;replace h2:=F.of h2;replace h6:=F.of h6;replace h7:=F.of h7;clear h41;have R:=F.r;clear F
       change (cC60).wp _ _ _ _
       cases b23 with
       | false =>
        have fb23:=hb23;clear hb23
        simp only [dd_] at fb23
        refine wp_cond_false (x:=cC61) (y:=cC64) (eval_slot h47) ?_
        refine wp_seq (x:=cC65) (y:=cC66) ?_
        change (Code.region 20 OC20 false).wp _ _ _ _
        refine reg_in (l:=[0,1]) rfl ?_
        have F:=fe_ R;clear R
        obtain ⟨b26,hb26⟩:∃ x,(((str nm).toList == [120,111,114]))=x:=⟨_,rfl⟩
        have Y:(execOp a25.eval oC20_0).run Try.prog w2=.ok (.value (.bool b26)) w2:=by have r7:=F.of h7;rw [← hb26];unfold oC20_0;go_simp
        refine sw_ gC20_0 Y F fun a27 F h54=>?_;clear Y
        refine sv_ gC20_1 (ya_ rfl h54) fun a28 e=>?_
        clear h54;have h53:=pt_ F e;replace F:=pu_ F e;clear e
        refine st_end ?_
        replace h0:=F.of h0;replace h1:=F.of h1;replace h2:=F.of h2;replace h6:=F.of h6;replace h7:=F.of h7;clear h47;have R:=F.r;clear F
        change (cC66).wp _ _ _ _
        cases b26 with
        | false =>
         have fb26:=hb26;clear hb26
         simp only [dd_] at fb26
         refine wp_cond_false (x:=cC67) (y:=cC70) (eval_slot h53) ?_
         refine wp_seq (x:=cC71) (y:=cC80) ?_
         refine wp_seq (x:=cC72) (y:=cC73) ?_
         change (Code.region 22 OC22 false).wp _ _ _ _
         refine reg_in (l:=[0,1]) rfl ?_
         have F:=fe_ R;clear R
         obtain ⟨b29,hb29⟩:∃ x,(((str nm).toList == [47,47]))=x:=⟨_,rfl⟩
         have Y:(execOp a28.eval oC22_0).run Try.prog w2=.ok (.value (.bool b29)) w2:=by have r7:=F.of h7;rw [← hb29];unfold oC22_0;go_simp
         refine sw_ gC22_0 Y F fun a30 F h60=>?_;clear Y
         refine sv_ gC22_1 (ya_ rfl h60) fun a31 e=>?_
         clear h60;have h59:=pt_ F e;replace F:=pu_ F e;clear e
         refine st_end ?_
         replace h0:=F.of h0;replace h1:=F.of h1;replace h2:=F.of h2;replace h6:=F.of h6;replace h7:=F.of h7;clear h53;have R:=F.r;clear F
         change (cC73).wp _ _ _ _
         cases b29 with
         | false =>
          have fb29:=hb29;clear hb29
          simp only [dd_] at fb29
          refine wp_cond_false (x:=Code.skip) (y:=cC75) (eval_slot h59) ?_
          refine wp_seq (x:=cC76) (y:=cC77) ?_
          change (Code.region 23 OC23 false).wp _ _ _ _
          refine reg_in (l:=[0,1]) rfl ?_
          have F:=fe_ R;clear R
          obtain ⟨b32,hb32⟩:∃ x,(((str nm).toList == [114,101,109]))=x:=⟨_,rfl⟩
          have Y:(execOp a31.eval oC23_0).run Try.prog w2=.ok (.value (.bool b32)) w2:=by have r7:=F.of h7;rw [← hb32];unfold oC23_0;go_simp
          refine sw_ gC23_0 Y F fun a33 F h61=>?_;clear Y
          refine sv_ gC23_1 (ya_ rfl h61) fun a34 e=>?_
          clear h61 h59;have h59:=pt_ F e;replace F:=pu_ F e;clear e
          refine st_end ?_
          replace h0:=F.of h0;replace h1:=F.of h1;replace h2:=F.of h2;replace h6:=F.of h6;replace h7:=F.of h7;have R:=F.r;clear F
          change (cC77).wp _ _ _ _
          cases b32 with
          | false =>
           have fb32:=hb32;clear hb32
           simp only [dd_] at fb32
           refine wp_cond_false (x:=Code.skip) (y:=cC79) (eval_slot h59) ?_
           change (Code.region 24 OC24 false).wp _ _ _ _
           refine reg_in (l:=[0,1]) rfl ?_
           have F:=fe_ R;clear R
           obtain ⟨b35,hb35⟩:∃ x,(((str nm).toList == [109,111,100]))=x:=⟨_,rfl⟩
           have Y:(execOp a34.eval oC24_0).run Try.prog w2=.ok (.value (.bool b35)) w2:=by have r7:=F.of h7;rw [← hb35];unfold oC24_0;go_simp
           refine sw_ gC24_0 Y F fun a36 F h62=>?_;clear Y
           refine sv_ gC24_1 (ya_ rfl h62) fun a37 e=>?_
           clear h62 h59;have h59:=pt_ F e;replace F:=pu_ F e;clear e
           refine st_end ?_
           replace h0:=F.of h0;replace h1:=F.of h1;replace h2:=F.of h2;replace h6:=F.of h6;replace h7:=F.of h7;have R:=F.r;clear F
           change (cC80).wp _ _ _ _
           cases b35 with
           | false =>
            have fb35:=hb35;clear hb35
            simp only [dd_] at fb35
            refine wp_cond_false (x:=cC81) (y:=cC84) (eval_slot h59) ?_
            refine wp_seq (x:=cC85) (y:=cC90) ?_
            refine wp_seq (x:=cC86) (y:=cC87) ?_
            change (Code.region 26 OC26 false).wp _ _ _ _
            refine reg_in (l:=[0,1]) rfl ?_
            have F:=fe_ R;clear R
            obtain ⟨b38,hb38⟩:∃ x,(((str nm).toList == [62,62]))=x:=⟨_,rfl⟩
            have Y:(execOp a37.eval oC26_0).run Try.prog w2=.ok (.value (.bool b38)) w2:=by have r7:=F.of h7;rw [← hb38];unfold oC26_0;go_simp
            refine sw_ gC26_0 Y F fun a39 F h68=>?_;clear Y
            refine sv_ gC26_1 (ya_ rfl h68) fun a40 e=>?_
            clear h68;have h67:=pt_ F e;replace F:=pu_ F e;clear e
            refine st_end ?_
            replace h0:=F.of h0;replace h1:=F.of h1;replace h2:=F.of h2;replace h6:=F.of h6;replace h7:=F.of h7;clear h59;have R:=F.r;clear F
            change (cC87).wp _ _ _ _
            cases b38 with
            | false =>
             have fb38:=hb38;clear hb38
             simp only [dd_] at fb38
             refine wp_cond_false (x:=Code.skip) (y:=cC89) (eval_slot h67) ?_
             change (Code.region 27 OC27 false).wp _ _ _ _
             refine reg_in (l:=[0,1]) rfl ?_
             have F:=fe_ R;clear R
             obtain ⟨b41,hb41⟩:∃ x,(((str nm).toList == [60,60]))=x:=⟨_,rfl⟩
             have Y:(execOp a40.eval oC27_0).run Try.prog w2=.ok (.value (.bool b41)) w2:=by have r7:=F.of h7;rw [← hb41];unfold oC27_0;go_simp
             refine sw_ gC27_0 Y F fun a42 F h69=>?_;clear Y
             refine sv_ gC27_1 (ya_ rfl h69) fun a43 e=>?_
             clear h69 h67;have h67:=pt_ F e;replace F:=pu_ F e;clear e
             refine st_end ?_
             replace h0:=F.of h0;replace h1:=F.of h1;replace h2:=F.of h2;replace h6:=F.of h6;clear h7;have R:=F.r;clear F
             change (cC90).wp _ _ _ _
             cases b41 with
             | false =>
              have fb41:=hb41;clear hb41
              simp only [dd_] at fb41
              refine wp_cond_false (x:=cC91) (y:=Code.skip) (eval_slot h67) ?_
              refine wp_skip ?_
              change (cC95).wp _ _ _ _
              refine wp_seq (x:=cC96) (y:=Code.ret) ?_
              change (Code.region 29 OC29 false).wp _ _ _ _
              refine reg_in (l:=[0,1,2,3]) rfl ?_
              have F:=fe_ R;clear R
              refine sw_ gC29_0 (ym_ rfl (F.of h1)) F fun a44 F h74=>?_
              refine sv_ gC29_1 (ym_ rfl (F.of h2)) fun a45 e=>?_
              have h75:=pt_ F e;replace F:=pu_ F e;replace h74:=so_ e h74;clear e
              have hca:=rpow_any w2 HA.out HB.out
              have UKX_b1:=B1.lt
              have HWKX:W.heap.size ≤ w2.heap.size:=K1.size
              refine st_call gC29_2 rfl (wanted_free rfl) (yc2_ enA34_48 rfl h74 h75) ((hca).mono ?_)
              rintro e9 w46 ⟨ax,cx,rfl,hx,kk⟩
              replace K1:=keep_onto K1 kk
              replace B1:=blk_on B1 kk
              clear kk
              clear hca
              have HX:=Lib.hid hx;clear hx
              have KX:=Keep.refl (fun g=>w2.heap.size ≤ g∧g < w46.heap.size) w46
              refine ⟨_,rfl,fun a47 e=>?_⟩
              clear h74 h75;have h76:=pt_ F e;replace F:=pu_ F e;clear e
              obtain ⟨w48,Y,hk,hB⟩:=ys6_ (o:=oC29_3) rfl (F.of h6) h76 B1
              replace K1:=kx_ hk K1 (Nat.not_lt.2 LK1_b1);replace KX:=kx_ hk KX (fun hx=>absurd hx.1 (Nat.not_le.2 UKX_b1));clear B1;have B1:=hB;clear hB hk
              refine st_skip gC29_3 rfl (wanted_free rfl) Y ?_;clear Y
              refine st_end ?_
              clear h0;clear h1;clear h2;replace h6:=F.of h6;clear h67;clear h76;have R:=F.r;clear F
              change (Code.ret).wp _ _ _ _
              refine wp_ret ?_
              change bodyPost Try.prog Try.f34 (fun e w'=>WA (resW (twoR nm a b)) W e w') .ret a47 w48
              refine ret_cell6 (fn:=Try.f34) rfl R h6 B1 ?_
              simp only [str_list] at *;exact (show WA (resW (twoR nm a b)) W _ _ by rw [show twoR nm a b=powR a b by simp only [twoR, *,if_false]];exact ⟨ax,cx,rfl,(HX.out.on KX).up HWKX,K1⟩)
             | true =>
              have fb41:=hb41;clear hb41
              simp only [dd_] at fb41
              refine wp_cond_true (x:=cC91) (y:=Code.skip) (eval_slot h67) ?_
              refine wp_seq (x:=cC92) (y:=Code.ret) ?_
              change (Code.region 28 OC28 false).wp _ _ _ _
              refine reg_in (l:=[0,1,2,3,4]) rfl ?_
              have F:=fe_ R;clear R
              refine sw_ gC28_0 (ym_ rfl (F.of h0)) F fun a49 F h70=>?_
              refine sv_ gC28_1 (ym_ rfl (F.of h1)) fun a50 e=>?_
              have h71:=pt_ F e;replace F:=pu_ F e;replace h70:=so_ e h70;clear e
              refine sv_ gC28_2 (ym_ rfl (F.of h2)) fun a51 e=>?_
              have h72:=pt_ F e;replace F:=pu_ F e;replace h70:=so_ e h70;replace h71:=so_ e h71;clear e
              have Y:(execOp a51.eval oC28_3).run Try.prog w2=.ok (.enter 47 #[.string (str nm),.int .i64 a,.int .i64 b]) w2:=by unfold oC28_3;go_simp
              have hnm:nm=[60,60]:=by simpa [str_list] using fb41
              have hca:=rshift_shl_any w2 HA.out HB.out
              rw [← hnm] at hca
              have UKX_b1:=B1.lt
              have HWKX:W.heap.size ≤ w2.heap.size:=K1.size
              refine st_call gC28_3 rfl (wanted_free rfl) Y ((hca).mono ?_);clear Y
              rintro e9 w52 ⟨ax,cx,rfl,hx,kk⟩
              replace K1:=keep_onto K1 kk
              replace B1:=blk_on B1 kk
              clear kk
              clear hca
              have HX:=Lib.hid hx;clear hx
              have KX:=Keep.refl (fun g=>w2.heap.size ≤ g∧g < w52.heap.size) w52
              refine ⟨_,rfl,fun a53 e=>?_⟩
              clear h70 h71 h72;have h73:=pt_ F e;replace F:=pu_ F e;clear e
              obtain ⟨w54,Y,hk,hB⟩:=ys6_ (o:=oC28_4) rfl (F.of h6) h73 B1
              replace K1:=kx_ hk K1 (Nat.not_lt.2 LK1_b1);replace KX:=kx_ hk KX (fun hx=>absurd hx.1 (Nat.not_le.2 UKX_b1));clear B1;have B1:=hB;clear hB hk
              refine st_skip gC28_4 rfl (wanted_free rfl) Y ?_;clear Y
              refine st_end ?_
              clear h0;replace h1:=F.of h1;replace h2:=F.of h2;replace h6:=F.of h6;clear h67;clear h73;have R:=F.r;clear F
              change (Code.ret).wp _ _ _ _
              refine wp_ret ?_
              change bodyPost Try.prog Try.f34 (fun e w'=>WA (resW (twoR nm a b)) W e w') .ret a53 w54
              refine ret_cell6 (fn:=Try.f34) rfl R h6 B1 ?_
              exact (show WA (resW (twoR nm a b)) W _ _ by rw [show twoR nm a b=shlR a b by rw [hnm];rfl];exact ⟨ax,cx,rfl,(HX.out.on KX).up HWKX,K1⟩)
            | true =>
             have fb38:=hb38;clear hb38
             simp only [dd_] at fb38
             refine wp_cond_true (x:=Code.skip) (y:=cC89) (eval_slot h67) ?_
             refine wp_skip ?_
             change (cC90).wp _ _ _ _
             refine wp_cond_true (x:=cC91) (y:=Code.skip) (eval_slot h67) ?_
             refine wp_seq (x:=cC92) (y:=Code.ret) ?_
             change (Code.region 28 OC28 false).wp _ _ _ _
             refine reg_in (l:=[0,1,2,3,4]) rfl ?_
             have F:=fe_ R;clear R
             refine sw_ gC28_0 (ym_ rfl (F.of h0)) F fun a55 F h70=>?_
             refine sv_ gC28_1 (ym_ rfl (F.of h1)) fun a56 e=>?_
             have h71:=pt_ F e;replace F:=pu_ F e;replace h70:=so_ e h70;clear e
             refine sv_ gC28_2 (ym_ rfl (F.of h2)) fun a57 e=>?_
             have h72:=pt_ F e;replace F:=pu_ F e;replace h70:=so_ e h70;replace h71:=so_ e h71;clear e
             have Y:(execOp a57.eval oC28_3).run Try.prog w2=.ok (.enter 47 #[.string (str nm),.int .i64 a,.int .i64 b]) w2:=by unfold oC28_3;go_simp
             have hnm:nm=[62,62]:=by simpa [str_list] using fb38
             have hca:=rshift_shr_any w2 HA.out HB.out
             rw [← hnm] at hca
             have UKX_b1:=B1.lt
             have HWKX:W.heap.size ≤ w2.heap.size:=K1.size
             refine st_call gC28_3 rfl (wanted_free rfl) Y ((hca).mono ?_);clear Y
             rintro e9 w58 ⟨ax,cx,rfl,hx,kk⟩
             replace K1:=keep_onto K1 kk
             replace B1:=blk_on B1 kk
             clear kk
             clear hca
             have HX:=Lib.hid hx;clear hx
             have KX:=Keep.refl (fun g=>w2.heap.size ≤ g∧g < w58.heap.size) w58
             refine ⟨_,rfl,fun a59 e=>?_⟩
             clear h70 h71 h72;have h73:=pt_ F e;replace F:=pu_ F e;clear e
             obtain ⟨w60,Y,hk,hB⟩:=ys6_ (o:=oC28_4) rfl (F.of h6) h73 B1
             replace K1:=kx_ hk K1 (Nat.not_lt.2 LK1_b1);replace KX:=kx_ hk KX (fun hx=>absurd hx.1 (Nat.not_le.2 UKX_b1));clear B1;have B1:=hB;clear hB hk
             refine st_skip gC28_4 rfl (wanted_free rfl) Y ?_;clear Y
             refine st_end ?_
             clear h0;replace h1:=F.of h1;replace h2:=F.of h2;replace h6:=F.of h6;clear h7;clear h67;clear h73;have R:=F.r;clear F
             change (Code.ret).wp _ _ _ _
             refine wp_ret ?_
             change bodyPost Try.prog Try.f34 (fun e w'=>WA (resW (twoR nm a b)) W e w') .ret a59 w60
             refine ret_cell6 (fn:=Try.f34) rfl R h6 B1 ?_
             exact (show WA (resW (twoR nm a b)) W _ _ by rw [show twoR nm a b=shrR a b by rw [hnm];rfl];exact ⟨ax,cx,rfl,(HX.out.on KX).up HWKX,K1⟩)
           | true =>
            have fb35:=hb35;clear hb35
            simp only [dd_] at fb35
            refine wp_cond_true (x:=cC81) (y:=cC84) (eval_slot h59) ?_
            refine wp_seq (x:=cC82) (y:=Code.ret) ?_
            change (Code.region 25 OC25 false).wp _ _ _ _
            refine reg_in (l:=[0,1,2,3,4]) rfl ?_
            have F:=fe_ R;clear R
            refine sw_ gC25_0 (ym_ rfl (F.of h0)) F fun a61 F h63=>?_
            refine sv_ gC25_1 (ym_ rfl (F.of h1)) fun a62 e=>?_
            have h64:=pt_ F e;replace F:=pu_ F e;replace h63:=so_ e h63;clear e
            refine sv_ gC25_2 (ym_ rfl (F.of h2)) fun a63 e=>?_
            have h65:=pt_ F e;replace F:=pu_ F e;replace h63:=so_ e h63;replace h64:=so_ e h64;clear e
            have Y:(execOp a63.eval oC25_3).run Try.prog w2=.ok (.enter 46 #[.string (str nm),.int .i64 a,.int .i64 b]) w2:=by unfold oC25_3;go_simp
            have hnm:nm=[109,111,100]:=by simpa [str_list] using fb35
            have hca:=rdiv_mod_any w2 HA.out HB.out
            rw [← hnm] at hca
            have UKX_b1:=B1.lt
            have HWKX:W.heap.size ≤ w2.heap.size:=K1.size
            refine st_call gC25_3 rfl (wanted_free rfl) Y ((hca).mono ?_);clear Y
            rintro e9 w64 ⟨ax,cx,rfl,hx,kk⟩
            replace K1:=keep_onto K1 kk
            replace B1:=blk_on B1 kk
            clear kk
            clear hca
            have HX:=Lib.hid hx;clear hx
            have KX:=Keep.refl (fun g=>w2.heap.size ≤ g∧g < w64.heap.size) w64
            refine ⟨_,rfl,fun a65 e=>?_⟩
            clear h63 h64 h65;have h66:=pt_ F e;replace F:=pu_ F e;clear e
            obtain ⟨w66,Y,hk,hB⟩:=ys6_ (o:=oC25_4) rfl (F.of h6) h66 B1
            replace K1:=kx_ hk K1 (Nat.not_lt.2 LK1_b1);replace KX:=kx_ hk KX (fun hx=>absurd hx.1 (Nat.not_le.2 UKX_b1));clear B1;have B1:=hB;clear hB hk
            refine st_skip gC25_4 rfl (wanted_free rfl) Y ?_;clear Y
            refine st_end ?_
            replace h0:=F.of h0;replace h1:=F.of h1;replace h2:=F.of h2;replace h6:=F.of h6;replace h7:=F.of h7;clear h59;clear h66;have R:=F.r;clear F
            change (Code.ret).wp _ _ _ _
            refine wp_ret ?_
            change bodyPost Try.prog Try.f34 (fun e w'=>WA (resW (twoR nm a b)) W e w') .ret a65 w66
            refine ret_cell6 (fn:=Try.f34) rfl R h6 B1 ?_
            exact (show WA (resW (twoR nm a b)) W _ _ by rw [show twoR nm a b=modR a b by rw [hnm];rfl];exact ⟨ax,cx,rfl,(HX.out.on KX).up HWKX,K1⟩)
          | true =>
           have fb32:=hb32;clear hb32
           simp only [dd_] at fb32
           refine wp_cond_true (x:=Code.skip) (y:=cC79) (eval_slot h59) ?_
           refine wp_skip ?_
           change (cC80).wp _ _ _ _
           refine wp_cond_true (x:=cC81) (y:=cC84) (eval_slot h59) ?_
           refine wp_seq (x:=cC82) (y:=Code.ret) ?_
           change (Code.region 25 OC25 false).wp _ _ _ _
           refine reg_in (l:=[0,1,2,3,4]) rfl ?_
           have F:=fe_ R;clear R
           refine sw_ gC25_0 (ym_ rfl (F.of h0)) F fun a67 F h63=>?_
           refine sv_ gC25_1 (ym_ rfl (F.of h1)) fun a68 e=>?_
           have h64:=pt_ F e;replace F:=pu_ F e;replace h63:=so_ e h63;clear e
           refine sv_ gC25_2 (ym_ rfl (F.of h2)) fun a69 e=>?_
           have h65:=pt_ F e;replace F:=pu_ F e;replace h63:=so_ e h63;replace h64:=so_ e h64;clear e
           have Y:(execOp a69.eval oC25_3).run Try.prog w2=.ok (.enter 46 #[.string (str nm),.int .i64 a,.int .i64 b]) w2:=by unfold oC25_3;go_simp
           have hnm:nm=[114,101,109]:=by simpa [str_list] using fb32
           have hca:=rdiv_rem_any w2 HA.out HB.out
           rw [← hnm] at hca
           have UKX_b1:=B1.lt
           have HWKX:W.heap.size ≤ w2.heap.size:=K1.size
           refine st_call gC25_3 rfl (wanted_free rfl) Y ((hca).mono ?_);clear Y
           rintro e9 w70 ⟨ax,cx,rfl,hx,kk⟩
           replace K1:=keep_onto K1 kk
           replace B1:=blk_on B1 kk
           clear kk
           clear hca
           have HX:=Lib.hid hx;clear hx
           have KX:=Keep.refl (fun g=>w2.heap.size ≤ g∧g < w70.heap.size) w70
           refine ⟨_,rfl,fun a71 e=>?_⟩
           clear h63 h64 h65;have h66:=pt_ F e;replace F:=pu_ F e;clear e
           obtain ⟨w72,Y,hk,hB⟩:=ys6_ (o:=oC25_4) rfl (F.of h6) h66 B1
           replace K1:=kx_ hk K1 (Nat.not_lt.2 LK1_b1);replace KX:=kx_ hk KX (fun hx=>absurd hx.1 (Nat.not_le.2 UKX_b1));clear B1;have B1:=hB;clear hB hk
           refine st_skip gC25_4 rfl (wanted_free rfl) Y ?_;clear Y
           refine st_end ?_
           replace h0:=F.of h0;replace h1:=F.of h1;replace h2:=F.of h2;replace h6:=F.of h6;replace h7:=F.of h7;clear h59;clear h66;have R:=F.r;clear F
           change (Code.ret).wp _ _ _ _
           refine wp_ret ?_
           change bodyPost Try.prog Try.f34 (fun e w'=>WA (resW (twoR nm a b)) W e w') .ret a71 w72
           refine ret_cell6 (fn:=Try.f34) rfl R h6 B1 ?_
           exact (show WA (resW (twoR nm a b)) W _ _ by rw [show twoR nm a b=remR a b by rw [hnm];rfl];exact ⟨ax,cx,rfl,(HX.out.on KX).up HWKX,K1⟩)
         | true =>
          have fb29:=hb29;clear hb29
          simp only [dd_] at fb29
          refine wp_cond_true (x:=Code.skip) (y:=cC75) (eval_slot h59) ?_
          refine wp_skip ?_
          change (cC80).wp _ _ _ _
          refine wp_cond_true (x:=cC81) (y:=cC84) (eval_slot h59) ?_
          refine wp_seq (x:=cC82) (y:=Code.ret) ?_
          change (Code.region 25 OC25 false).wp _ _ _ _
          refine reg_in (l:=[0,1,2,3,4]) rfl ?_
          have F:=fe_ R;clear R
          refine sw_ gC25_0 (ym_ rfl (F.of h0)) F fun a73 F h63=>?_
          refine sv_ gC25_1 (ym_ rfl (F.of h1)) fun a74 e=>?_
          have h64:=pt_ F e;replace F:=pu_ F e;replace h63:=so_ e h63;clear e
          refine sv_ gC25_2 (ym_ rfl (F.of h2)) fun a75 e=>?_
          have h65:=pt_ F e;replace F:=pu_ F e;replace h63:=so_ e h63;replace h64:=so_ e h64;clear e
          have Y:(execOp a75.eval oC25_3).run Try.prog w2=.ok (.enter 46 #[.string (str nm),.int .i64 a,.int .i64 b]) w2:=by unfold oC25_3;go_simp
          have hnm:nm=[47,47]:=by simpa [str_list] using fb29
          have hca:=rdiv_quo_any w2 HA.out HB.out
          rw [← hnm] at hca
          have UKX_b1:=B1.lt
          have HWKX:W.heap.size ≤ w2.heap.size:=K1.size
          refine st_call gC25_3 rfl (wanted_free rfl) Y ((hca).mono ?_);clear Y
          rintro e9 w76 ⟨ax,cx,rfl,hx,kk⟩
          replace K1:=keep_onto K1 kk
          replace B1:=blk_on B1 kk
          clear kk
          clear hca
          have HX:=Lib.hid hx;clear hx
          have KX:=Keep.refl (fun g=>w2.heap.size ≤ g∧g < w76.heap.size) w76
          refine ⟨_,rfl,fun a77 e=>?_⟩
          clear h63 h64 h65;have h66:=pt_ F e;replace F:=pu_ F e;clear e
          obtain ⟨w78,Y,hk,hB⟩:=ys6_ (o:=oC25_4) rfl (F.of h6) h66 B1
          replace K1:=kx_ hk K1 (Nat.not_lt.2 LK1_b1);replace KX:=kx_ hk KX (fun hx=>absurd hx.1 (Nat.not_le.2 UKX_b1));clear B1;have B1:=hB;clear hB hk
          refine st_skip gC25_4 rfl (wanted_free rfl) Y ?_;clear Y
          refine st_end ?_
          replace h0:=F.of h0;replace h1:=F.of h1;replace h2:=F.of h2;replace h6:=F.of h6;replace h7:=F.of h7;clear h59;clear h66;have R:=F.r;clear F
          change (Code.ret).wp _ _ _ _
          refine wp_ret ?_
          change bodyPost Try.prog Try.f34 (fun e w'=>WA (resW (twoR nm a b)) W e w') .ret a77 w78
          refine ret_cell6 (fn:=Try.f34) rfl R h6 B1 ?_
          exact (show WA (resW (twoR nm a b)) W _ _ by rw [show twoR nm a b=quoR a b by rw [hnm];rfl];exact ⟨ax,cx,rfl,(HX.out.on KX).up HWKX,K1⟩)
        | true =>
         have fb26:=hb26;clear hb26
         simp only [dd_] at fb26
         refine wp_cond_true (x:=cC67) (y:=cC70) (eval_slot h53) ?_
         refine wp_seq (x:=cC68) (y:=Code.ret) ?_
         change (Code.region 21 OC21 false).wp _ _ _ _
         refine reg_in (l:=[0,1,2,3,4]) rfl ?_
         have F:=fe_ R;clear R
         refine sw_ gC21_0 (ym_ rfl (F.of h1)) F fun a79 F h55=>?_
         refine sv_ gC21_1 (ym_ rfl (F.of h2)) fun a80 e=>?_
         have h56:=pt_ F e;replace F:=pu_ F e;replace h55:=so_ e h55;clear e
         have Y:(execOp a80.eval oC21_2).run Try.prog w2=.ok (.value (.int .i64 (bits .xor .i64 a b))) w2:=by unfold oC21_2;go_simp
         refine sw_ gC21_2 Y F fun a81 F h57=>?_;clear Y h55 h56
         refine st_call gC21_3 rfl (wanted_free rfl) (yc1_ enA34_31 rfl h57) ((of_any _ (bits .xor .i64 a b)).mono ?_)
         rintro e9 w82 ⟨rfl,kk⟩
         replace K1:=keep_onto K1 kk
         replace B1:=blk_on B1 kk
         clear kk
         refine ⟨_,rfl,fun a83 e=>?_⟩
         clear h57;have h58:=pt_ F e;replace F:=pu_ F e;clear e
         obtain ⟨w84,Y,hk,hB⟩:=ys6_ (o:=oC21_4) rfl (F.of h6) h58 B1
         replace K1:=kx_ hk K1 (Nat.not_lt.2 LK1_b1);clear B1;have B1:=hB;clear hB hk
         refine st_skip gC21_4 rfl (wanted_free rfl) Y ?_;clear Y
         refine st_end ?_
         replace h0:=F.of h0;replace h1:=F.of h1;replace h2:=F.of h2;replace h6:=F.of h6;replace h7:=F.of h7;clear h53;clear h58;have R:=F.r;clear F
         change (Code.ret).wp _ _ _ _
         refine wp_ret ?_
         change bodyPost Try.prog Try.f34 (fun e w'=>WA (resW (twoR nm a b)) W e w') .ret a83 w84
         refine ret_cell6 (fn:=Try.f34) rfl R h6 B1 ?_
         have hnm:nm=[120,111,114]:=by simpa [str_list] using fb26
         exact (show WA (resW (twoR nm a b)) W _ _ by rw [show twoR nm a b=(bits .xor .i64 a b,[]) by rw [hnm];rfl,resW_n];exact ⟨none,0,rfl,own_zero,K1⟩)
       | true =>
        have fb23:=hb23;clear hb23
        simp only [dd_] at fb23
        refine wp_cond_true (x:=cC61) (y:=cC64) (eval_slot h47) ?_
        refine wp_seq (x:=cC62) (y:=Code.ret) ?_
        change (Code.region 19 OC19 false).wp _ _ _ _
        refine reg_in (l:=[0,1,2,3,4]) rfl ?_
        have F:=fe_ R;clear R
        refine sw_ gC19_0 (ym_ rfl (F.of h1)) F fun a85 F h49=>?_
        refine sv_ gC19_1 (ym_ rfl (F.of h2)) fun a86 e=>?_
        have h50:=pt_ F e;replace F:=pu_ F e;replace h49:=so_ e h49;clear e
        have Y:(execOp a86.eval oC19_2).run Try.prog w2=.ok (.value (.int .i64 (bits .or .i64 a b))) w2:=by unfold oC19_2;go_simp
        refine sw_ gC19_2 Y F fun a87 F h51=>?_;clear Y h49 h50
        refine st_call gC19_3 rfl (wanted_free rfl) (yc1_ enA34_31 rfl h51) ((of_any _ (bits .or .i64 a b)).mono ?_)
        rintro e9 w88 ⟨rfl,kk⟩
        replace K1:=keep_onto K1 kk
        replace B1:=blk_on B1 kk
        clear kk
        refine ⟨_,rfl,fun a89 e=>?_⟩
        clear h51;have h52:=pt_ F e;replace F:=pu_ F e;clear e
        obtain ⟨w90,Y,hk,hB⟩:=ys6_ (o:=oC19_4) rfl (F.of h6) h52 B1
        replace K1:=kx_ hk K1 (Nat.not_lt.2 LK1_b1);clear B1;have B1:=hB;clear hB hk
        refine st_skip gC19_4 rfl (wanted_free rfl) Y ?_;clear Y
        refine st_end ?_
        replace h0:=F.of h0;replace h1:=F.of h1;replace h2:=F.of h2;replace h6:=F.of h6;replace h7:=F.of h7;clear h47;clear h52;have R:=F.r;clear F
        change (Code.ret).wp _ _ _ _
        refine wp_ret ?_
        change bodyPost Try.prog Try.f34 (fun e w'=>WA (resW (twoR nm a b)) W e w') .ret a89 w90
        refine ret_cell6 (fn:=Try.f34) rfl R h6 B1 ?_
        have hnm:nm=[92,47]:=by simpa [str_list] using fb23
        exact (show WA (resW (twoR nm a b)) W _ _ by rw [show twoR nm a b=(bits .or .i64 a b,[]) by rw [hnm];rfl,resW_n];exact ⟨none,0,rfl,own_zero,K1⟩)
      | true =>
       have fb20:=hb20;clear hb20
       simp only [dd_] at fb20
       refine wp_cond_true (x:=cC55) (y:=cC58) (eval_slot h41) ?_
       refine wp_seq (x:=cC56) (y:=Code.ret) ?_
       change (Code.region 17 OC17 false).wp _ _ _ _
       refine reg_in (l:=[0,1,2,3,4]) rfl ?_
       have F:=fe_ R;clear R
       refine sw_ gC17_0 (ym_ rfl (F.of h1)) F fun a91 F h43=>?_
       refine sv_ gC17_1 (ym_ rfl (F.of h2)) fun a92 e=>?_
       have h44:=pt_ F e;replace F:=pu_ F e;replace h43:=so_ e h43;clear e
       have Y:(execOp a92.eval oC17_2).run Try.prog w2=.ok (.value (.int .i64 (bits .and .i64 a b))) w2:=by unfold oC17_2;go_simp
       refine sw_ gC17_2 Y F fun a93 F h45=>?_;clear Y h43 h44
       refine st_call gC17_3 rfl (wanted_free rfl) (yc1_ enA34_31 rfl h45) ((of_any _ (bits .and .i64 a b)).mono ?_)
       rintro e9 w94 ⟨rfl,kk⟩
       replace K1:=keep_onto K1 kk
       replace B1:=blk_on B1 kk
       clear kk
       refine ⟨_,rfl,fun a95 e=>?_⟩
       clear h45;have h46:=pt_ F e;replace F:=pu_ F e;clear e
       obtain ⟨w96,Y,hk,hB⟩:=ys6_ (o:=oC17_4) rfl (F.of h6) h46 B1
       replace K1:=kx_ hk K1 (Nat.not_lt.2 LK1_b1);clear B1;have B1:=hB;clear hB hk
       refine st_skip gC17_4 rfl (wanted_free rfl) Y ?_;clear Y
       refine st_end ?_
       replace h0:=F.of h0;replace h1:=F.of h1;replace h2:=F.of h2;replace h6:=F.of h6;replace h7:=F.of h7;clear h41;clear h46;have R:=F.r;clear F
       change (Code.ret).wp _ _ _ _
       refine wp_ret ?_
       change bodyPost Try.prog Try.f34 (fun e w'=>WA (resW (twoR nm a b)) W e w') .ret a95 w96
       refine ret_cell6 (fn:=Try.f34) rfl R h6 B1 ?_
       have hnm:nm=[47,92]:=by simpa [str_list] using fb20
       exact (show WA (resW (twoR nm a b)) W _ _ by rw [show twoR nm a b=(bits .and .i64 a b,[]) by rw [hnm];rfl,resW_n];exact ⟨none,0,rfl,own_zero,K1⟩)
     | true =>
      have fb17:=hb17;clear hb17
      simp only [dd_] at fb17
      refine wp_cond_true (x:=cC41) (y:=cC52) (eval_slot h32) ?_
      refine wp_seq (x:=cC42) (y:=cC49) ?_
      refine wp_seq (x:=cC43) (y:=cC44) ?_
      change (Code.region 13 OC13 false).wp _ _ _ _
      refine reg_in (l:=[0,1,2]) rfl ?_
      have F:=fe_ R;clear R
      refine sw_ gC13_0 (ym_ rfl (F.of h1)) F fun a97 F h34=>?_
      refine sv_ gC13_1 (ym_ rfl (F.of h2)) fun a98 e=>?_
      have h35:=pt_ F e;replace F:=pu_ F e;replace h34:=so_ e h34;clear e
      obtain ⟨b99,hb99⟩:∃ x,(decide ((b:Int) < (a:Int)))=x:=⟨_,rfl⟩
      have Y:(execOp a98.eval oC13_2).run Try.prog w2=.ok (.value (.bool b99)) w2:=by rw [← hb99];unfold oC13_2;go_simp
      refine sw_ gC13_2 Y F fun a100 F h36=>?_;clear Y h34 h35
      refine st_end ?_
      replace h0:=F.of h0;replace h1:=F.of h1;replace h2:=F.of h2;replace h6:=F.of h6;replace h7:=F.of h7;clear h32;have R:=F.r;clear F
      change (cC44).wp _ _ _ _
      cases b99 with
      | false =>
       have fb99:=hb99;clear hb99
       simp only [dd_] at fb99
       refine wp_cond_false (x:=cC45) (y:=Code.skip) (eval_slot h36) ?_
       refine wp_skip ?_
       change (cC49).wp _ _ _ _
       refine wp_seq (x:=cC50) (y:=Code.ret) ?_
       change (Code.region 15 OC15 false).wp _ _ _ _
       refine reg_in (l:=[0,1,2]) rfl ?_
       have F:=fe_ R;clear R
       refine sw_ gC15_0 (ym_ rfl (F.of h2)) F fun a101 F h39=>?_
       refine st_call gC15_1 rfl (wanted_free rfl) (yc1_ enA34_31 rfl h39) ((of_any _ (b)).mono ?_)
       rintro e9 w102 ⟨rfl,kk⟩
       replace K1:=keep_onto K1 kk
       replace B1:=blk_on B1 kk
       clear kk
       refine ⟨_,rfl,fun a103 e=>?_⟩
       clear h39;have h40:=pt_ F e;replace F:=pu_ F e;clear e
       obtain ⟨w104,Y,hk,hB⟩:=ys6_ (o:=oC15_2) rfl (F.of h6) h40 B1
       replace K1:=kx_ hk K1 (Nat.not_lt.2 LK1_b1);clear B1;have B1:=hB;clear hB hk
       refine st_skip gC15_2 rfl (wanted_free rfl) Y ?_;clear Y
       refine st_end ?_
       replace h0:=F.of h0;replace h1:=F.of h1;replace h2:=F.of h2;replace h6:=F.of h6;replace h7:=F.of h7;clear h36;clear h40;have R:=F.r;clear F
       change (Code.ret).wp _ _ _ _
       refine wp_ret ?_
       change bodyPost Try.prog Try.f34 (fun e w'=>WA (resW (twoR nm a b)) W e w') .ret a103 w104
       refine ret_cell6 (fn:=Try.f34) rfl R h6 B1 ?_
       have hnm:nm=[109,97,120]:=by simpa [str_list] using fb17
       exact (show WA (resW (twoR nm a b)) W _ _ by rw [show twoR nm a b=(b,[]) by rw [hnm];exact Prod.ext (by show max a b=b;omega) rfl,resW_n];exact ⟨none,0,rfl,own_zero,K1⟩)
      | true =>
       have fb99:=hb99;clear hb99
       simp only [dd_] at fb99
       refine wp_cond_true (x:=cC45) (y:=Code.skip) (eval_slot h36) ?_
       refine wp_seq (x:=cC46) (y:=Code.ret) ?_
       change (Code.region 14 OC14 false).wp _ _ _ _
       refine reg_in (l:=[0,1,2]) rfl ?_
       have F:=fe_ R;clear R
       refine sw_ gC14_0 (ym_ rfl (F.of h1)) F fun a105 F h37=>?_
       refine st_call gC14_1 rfl (wanted_free rfl) (yc1_ enA34_31 rfl h37) ((of_any _ (a)).mono ?_)
       rintro e9 w106 ⟨rfl,kk⟩
       replace K1:=keep_onto K1 kk
       replace B1:=blk_on B1 kk
       clear kk
       refine ⟨_,rfl,fun a107 e=>?_⟩
       clear h37;have h38:=pt_ F e;replace F:=pu_ F e;clear e
       obtain ⟨w108,Y,hk,hB⟩:=ys6_ (o:=oC14_2) rfl (F.of h6) h38 B1
       replace K1:=kx_ hk K1 (Nat.not_lt.2 LK1_b1);clear B1;have B1:=hB;clear hB hk
       refine st_skip gC14_2 rfl (wanted_free rfl) Y ?_;clear Y
       refine st_end ?_
       replace h0:=F.of h0;replace h1:=F.of h1;replace h2:=F.of h2;replace h6:=F.of h6;replace h7:=F.of h7;clear h36;clear h38;have R:=F.r;clear F
       change (Code.ret).wp _ _ _ _
       refine wp_ret ?_
       change bodyPost Try.prog Try.f34 (fun e w'=>WA (resW (twoR nm a b)) W e w') .ret a107 w108
       refine ret_cell6 (fn:=Try.f34) rfl R h6 B1 ?_
       have hnm:nm=[109,97,120]:=by simpa [str_list] using fb17
       exact (show WA (resW (twoR nm a b)) W _ _ by rw [show twoR nm a b=(a,[]) by rw [hnm];exact Prod.ext (by show max a b=a;omega) rfl,resW_n];exact ⟨none,0,rfl,own_zero,K1⟩)
    | true =>
     have fb14:=hb14;clear hb14
     simp only [dd_] at fb14
     refine wp_cond_true (x:=cC27) (y:=cC38) (eval_slot h23) ?_
     refine wp_seq (x:=cC28) (y:=cC35) ?_
     refine wp_seq (x:=cC29) (y:=cC30) ?_
     change (Code.region 9 OC9 false).wp _ _ _ _
     refine reg_in (l:=[0,1,2]) rfl ?_
     have F:=fe_ R;clear R
     refine sw_ gC9_0 (ym_ rfl (F.of h1)) F fun a109 F h25=>?_
     refine sv_ gC9_1 (ym_ rfl (F.of h2)) fun a110 e=>?_
     have h26:=pt_ F e;replace F:=pu_ F e;replace h25:=so_ e h25;clear e
     obtain ⟨b111,hb111⟩:∃ x,(decide ((a:Int) < (b:Int)))=x:=⟨_,rfl⟩
     have Y:(execOp a110.eval oC9_2).run Try.prog w2=.ok (.value (.bool b111)) w2:=by rw [← hb111];unfold oC9_2;go_simp
     refine sw_ gC9_2 Y F fun a112 F h27=>?_;clear Y h25 h26
     refine st_end ?_
     replace h0:=F.of h0;replace h1:=F.of h1;replace h2:=F.of h2;replace h6:=F.of h6;replace h7:=F.of h7;clear h23;have R:=F.r;clear F
     change (cC30).wp _ _ _ _
     cases b111 with
     | false =>
      have fb111:=hb111;clear hb111
      simp only [dd_] at fb111
      refine wp_cond_false (x:=cC31) (y:=Code.skip) (eval_slot h27) ?_
      refine wp_skip ?_
      change (cC35).wp _ _ _ _
      refine wp_seq (x:=cC36) (y:=Code.ret) ?_
      change (Code.region 11 OC11 false).wp _ _ _ _
      refine reg_in (l:=[0,1,2]) rfl ?_
      have F:=fe_ R;clear R
      refine sw_ gC11_0 (ym_ rfl (F.of h2)) F fun a113 F h30=>?_
      refine st_call gC11_1 rfl (wanted_free rfl) (yc1_ enA34_31 rfl h30) ((of_any _ (b)).mono ?_)
      rintro e9 w114 ⟨rfl,kk⟩
      replace K1:=keep_onto K1 kk
      replace B1:=blk_on B1 kk
      clear kk
      refine ⟨_,rfl,fun a115 e=>?_⟩
      clear h30;have h31:=pt_ F e;replace F:=pu_ F e;clear e
      obtain ⟨w116,Y,hk,hB⟩:=ys6_ (o:=oC11_2) rfl (F.of h6) h31 B1
      replace K1:=kx_ hk K1 (Nat.not_lt.2 LK1_b1);clear B1;have B1:=hB;clear hB hk
      refine st_skip gC11_2 rfl (wanted_free rfl) Y ?_;clear Y
      refine st_end ?_
      replace h0:=F.of h0;replace h1:=F.of h1;replace h2:=F.of h2;replace h6:=F.of h6;replace h7:=F.of h7;clear h27;clear h31;have R:=F.r;clear F
      change (Code.ret).wp _ _ _ _
      refine wp_ret ?_
      change bodyPost Try.prog Try.f34 (fun e w'=>WA (resW (twoR nm a b)) W e w') .ret a115 w116
      refine ret_cell6 (fn:=Try.f34) rfl R h6 B1 ?_
      have hnm:nm=[109,105,110]:=by simpa [str_list] using fb14
      exact (show WA (resW (twoR nm a b)) W _ _ by rw [show twoR nm a b=(b,[]) by rw [hnm];exact Prod.ext (by show min a b=b;omega) rfl,resW_n];exact ⟨none,0,rfl,own_zero,K1⟩)
     | true =>
      have fb111:=hb111;clear hb111
      simp only [dd_] at fb111
      refine wp_cond_true (x:=cC31) (y:=Code.skip) (eval_slot h27) ?_
      refine wp_seq (x:=cC32) (y:=Code.ret) ?_
      change (Code.region 10 OC10 false).wp _ _ _ _
      refine reg_in (l:=[0,1,2]) rfl ?_
      have F:=fe_ R;clear R
      refine sw_ gC10_0 (ym_ rfl (F.of h1)) F fun a117 F h28=>?_
      refine st_call gC10_1 rfl (wanted_free rfl) (yc1_ enA34_31 rfl h28) ((of_any _ (a)).mono ?_)
      rintro e9 w118 ⟨rfl,kk⟩
      replace K1:=keep_onto K1 kk
      replace B1:=blk_on B1 kk
      clear kk
      refine ⟨_,rfl,fun a119 e=>?_⟩
      clear h28;have h29:=pt_ F e;replace F:=pu_ F e;clear e
      obtain ⟨w120,Y,hk,hB⟩:=ys6_ (o:=oC10_2) rfl (F.of h6) h29 B1
      replace K1:=kx_ hk K1 (Nat.not_lt.2 LK1_b1);clear B1;have B1:=hB;clear hB hk
      refine st_skip gC10_2 rfl (wanted_free rfl) Y ?_;clear Y
      refine st_end ?_
      replace h0:=F.of h0;replace h1:=F.of h1;replace h2:=F.of h2;replace h6:=F.of h6;replace h7:=F.of h7;clear h27;clear h29;have R:=F.r;clear F
      change (Code.ret).wp _ _ _ _
      refine wp_ret ?_
      change bodyPost Try.prog Try.f34 (fun e w'=>WA (resW (twoR nm a b)) W e w') .ret a119 w120
      refine ret_cell6 (fn:=Try.f34) rfl R h6 B1 ?_
      have hnm:nm=[109,105,110]:=by simpa [str_list] using fb14
      exact (show WA (resW (twoR nm a b)) W _ _ by rw [show twoR nm a b=(a,[]) by rw [hnm];exact Prod.ext (by show min a b=a;omega) rfl,resW_n];exact ⟨none,0,rfl,own_zero,K1⟩)
   | true =>
    have fb11:=hb11;clear hb11
    simp only [dd_] at fb11
    refine wp_cond_true (x:=cC21) (y:=cC24) (eval_slot h18) ?_
    refine wp_seq (x:=cC22) (y:=Code.ret) ?_
    change (Code.region 7 OC7 false).wp _ _ _ _
    refine reg_in (l:=[0,1,2,3]) rfl ?_
    have F:=fe_ R;clear R
    refine sw_ gC7_0 (ym_ rfl (F.of h1)) F fun a121 F h20=>?_
    refine sv_ gC7_1 (ym_ rfl (F.of h2)) fun a122 e=>?_
    have h21:=pt_ F e;replace F:=pu_ F e;replace h20:=so_ e h20;clear e
    have hnm:nm=[42]:=by simpa [str_list] using fb11
    have hca:=rmul_any w2 HA.out HB.out
    have UKX_b1:=B1.lt
    have HWKX:W.heap.size ≤ w2.heap.size:=K1.size
    refine st_call gC7_2 rfl (wanted_free rfl) (yc2_ enA34_45 rfl h20 h21) ((hca).mono ?_)
    rintro e9 w123 ⟨ax,cx,rfl,hx,kk⟩
    replace K1:=keep_onto K1 kk
    replace B1:=blk_on B1 kk
    clear kk
    clear hca
    have HX:=Lib.hid hx;clear hx
    have KX:=Keep.refl (fun g=>w2.heap.size ≤ g∧g < w123.heap.size) w123
    refine ⟨_,rfl,fun a124 e=>?_⟩
    clear h20 h21;have h22:=pt_ F e;replace F:=pu_ F e;clear e
    obtain ⟨w125,Y,hk,hB⟩:=ys6_ (o:=oC7_3) rfl (F.of h6) h22 B1
    replace K1:=kx_ hk K1 (Nat.not_lt.2 LK1_b1);replace KX:=kx_ hk KX (fun hx=>absurd hx.1 (Nat.not_le.2 UKX_b1));clear B1;have B1:=hB;clear hB hk
    refine st_skip gC7_3 rfl (wanted_free rfl) Y ?_;clear Y
    refine st_end ?_
    replace h0:=F.of h0;replace h1:=F.of h1;replace h2:=F.of h2;replace h6:=F.of h6;replace h7:=F.of h7;clear h18;clear h22;have R:=F.r;clear F
    change (Code.ret).wp _ _ _ _
    refine wp_ret ?_
    change bodyPost Try.prog Try.f34 (fun e w'=>WA (resW (twoR nm a b)) W e w') .ret a124 w125
    refine ret_cell6 (fn:=Try.f34) rfl R h6 B1 ?_
    exact (show WA (resW (twoR nm a b)) W _ _ by rw [show twoR nm a b=big (a * b) by rw [hnm];rfl];exact ⟨ax,cx,rfl,(HX.out.on KX).up HWKX,K1⟩)
  | true =>
   have fb8:=hb8;clear hb8
   simp only [dd_] at fb8
   refine wp_cond_true (x:=cC15) (y:=cC18) (eval_slot h13) ?_
   refine wp_seq (x:=cC16) (y:=Code.ret) ?_
   change (Code.region 5 OC5 false).wp _ _ _ _
   refine reg_in (l:=[0,1,2,3]) rfl ?_
   have F:=fe_ R;clear R
   refine sw_ gC5_0 (ym_ rfl (F.of h1)) F fun a126 F h15=>?_
   refine sv_ gC5_1 (ym_ rfl (F.of h2)) fun a127 e=>?_
   have h16:=pt_ F e;replace F:=pu_ F e;replace h15:=so_ e h15;clear e
   have hnm:nm=[45]:=by simpa [str_list] using fb8
   have hca:=rsub_any w2 HA.out HB.out
   have UKX_b1:=B1.lt
   have HWKX:W.heap.size ≤ w2.heap.size:=K1.size
   refine st_call gC5_2 rfl (wanted_free rfl) (yc2_ enA34_43 rfl h15 h16) ((hca).mono ?_)
   rintro e9 w128 ⟨ax,cx,rfl,hx,kk⟩
   replace K1:=keep_onto K1 kk
   replace B1:=blk_on B1 kk
   clear kk
   clear hca
   have HX:=Lib.hid hx;clear hx
   have KX:=Keep.refl (fun g=>w2.heap.size ≤ g∧g < w128.heap.size) w128
   refine ⟨_,rfl,fun a129 e=>?_⟩
   clear h15 h16;have h17:=pt_ F e;replace F:=pu_ F e;clear e
   obtain ⟨w130,Y,hk,hB⟩:=ys6_ (o:=oC5_3) rfl (F.of h6) h17 B1
   replace K1:=kx_ hk K1 (Nat.not_lt.2 LK1_b1);replace KX:=kx_ hk KX (fun hx=>absurd hx.1 (Nat.not_le.2 UKX_b1));clear B1;have B1:=hB;clear hB hk
   refine st_skip gC5_3 rfl (wanted_free rfl) Y ?_;clear Y
   refine st_end ?_
   replace h0:=F.of h0;replace h1:=F.of h1;replace h2:=F.of h2;replace h6:=F.of h6;replace h7:=F.of h7;clear h13;clear h17;have R:=F.r;clear F
   change (Code.ret).wp _ _ _ _
   refine wp_ret ?_
   change bodyPost Try.prog Try.f34 (fun e w'=>WA (resW (twoR nm a b)) W e w') .ret a129 w130
   refine ret_cell6 (fn:=Try.f34) rfl R h6 B1 ?_
   exact (show WA (resW (twoR nm a b)) W _ _ by rw [show twoR nm a b=big (a - b) by rw [hnm];rfl];exact ⟨ax,cx,rfl,(HX.out.on KX).up HWKX,K1⟩)
 | true =>
  have fb5:=hb5;clear hb5
  simp only [dd_] at fb5
  refine wp_cond_true (x:=cC9) (y:=cC12) (eval_slot h8) ?_
  refine wp_seq (x:=cC10) (y:=Code.ret) ?_
  change (Code.region 3 OC3 false).wp _ _ _ _
  refine reg_in (l:=[0,1,2,3]) rfl ?_
  have F:=fe_ R;clear R
  refine sw_ gC3_0 (ym_ rfl (F.of h1)) F fun a131 F h10=>?_
  refine sv_ gC3_1 (ym_ rfl (F.of h2)) fun a132 e=>?_
  have h11:=pt_ F e;replace F:=pu_ F e;replace h10:=so_ e h10;clear e
  have hnm:nm=[43]:=by simpa [str_list] using fb5
  have hca:=radd_any w2 HA.out HB.out
  have UKX_b1:=B1.lt
  have HWKX:W.heap.size ≤ w2.heap.size:=K1.size
  refine st_call gC3_2 rfl (wanted_free rfl) (yc2_ enA34_44 rfl h10 h11) ((hca).mono ?_)
  rintro e9 w133 ⟨ax,cx,rfl,hx,kk⟩
  replace K1:=keep_onto K1 kk
  replace B1:=blk_on B1 kk
  clear kk
  clear hca
  have HX:=Lib.hid hx;clear hx
  have KX:=Keep.refl (fun g=>w2.heap.size ≤ g∧g < w133.heap.size) w133
  refine ⟨_,rfl,fun a134 e=>?_⟩
  clear h10 h11;have h12:=pt_ F e;replace F:=pu_ F e;clear e
  obtain ⟨w135,Y,hk,hB⟩:=ys6_ (o:=oC3_3) rfl (F.of h6) h12 B1
  replace K1:=kx_ hk K1 (Nat.not_lt.2 LK1_b1);replace KX:=kx_ hk KX (fun hx=>absurd hx.1 (Nat.not_le.2 UKX_b1));clear B1;have B1:=hB;clear hB hk
  refine st_skip gC3_3 rfl (wanted_free rfl) Y ?_;clear Y
  refine st_end ?_
  replace h0:=F.of h0;replace h1:=F.of h1;replace h2:=F.of h2;replace h6:=F.of h6;replace h7:=F.of h7;clear h8;clear h12;have R:=F.r;clear F
  change (Code.ret).wp _ _ _ _
  refine wp_ret ?_
  change bodyPost Try.prog Try.f34 (fun e w'=>WA (resW (twoR nm a b)) W e w') .ret a134 w135
  refine ret_cell6 (fn:=Try.f34) rfl R h6 B1 ?_
  exact (show WA (resW (twoR nm a b)) W _ _ by rw [show twoR nm a b=big (a + b) by rw [hnm];rfl];exact ⟨ax,cx,rfl,(HX.out.on KX).up HWKX,K1⟩)
theorem rtwo_any (W:World) {nm:List UInt8} {a b:Int} (ha:inR a) (hb:inR b):Calls Try.prog 34 #[.string (str nm),.int .i64 a,.int .i64 b] W fun e w'=>WA (resW (twoR nm a b)) W e w':=by
  refine enter_sx Try.func34 bodyA34 rfl (by show (3:Nat) ≤ 77;decide) fun f0 R hs=>?_
  exact rtwo_w R (hs 0 _ rfl) (hs 1 _ rfl) (hs 2 _ rfl) (Keep.refl _ W) (Lib.hid ha) (Lib.hid hb)
def oK0_0:Oper:=⟨some 4,Op.alloc 30,0, "ref.go:112",#[],none⟩
def OK0:Array Oper:=List.toArray (oK0_0::[])
theorem gK0_0:OK0[0]? = some oK0_0:=rfl
def cK1:Code:=Code.region 0 OK0 false
def oK1_0:Oper:=⟨some 5,Op.move (Operand.tmp 0),9, "ref.go:113",#[],none⟩
def OK1:Array Oper:=List.toArray (oK1_0::[])
theorem gK1_0:OK1[0]? = some oK1_0:=rfl
def cK4:Code:=Code.region 1 OK1 false
def oK2_0:Oper:=⟨some 7,Op.binOp Go.BinOp.eql 9 (Operand.tmp 5) (Operand.const (Value.string { data:=#[43] })) 9,4, "ref.go:114",#[],none⟩
def oK2_1:Oper:=⟨some 6,Op.assign (Operand.tmp 7),4, "ref.go:114",#[ed_ 0],none⟩
def OK2:Array Oper:=List.toArray (oK2_0::oK2_1::[])
theorem gK2_0:OK2[0]? = some oK2_0:=rfl
theorem gK2_1:OK2[1]? = some oK2_1:=rfl
def cK7:Code:=Code.region 2 OK2 false
def oK3_0:Oper:=⟨some 8,Op.move (Operand.tmp 1),2, "ref.go:115",#[],none⟩
def oK3_1:Oper:=⟨some 9,Op.call { callee:=Callee.value (Operand.func 31),args:=#[Operand.tmp 8],argTypes:=#[2] },30, "ref.go:115",#[ed_ 0],none⟩
def oK3_2:Oper:=⟨none,Op.store 30 (Operand.tmp 4) (Operand.tmp 9),0, "ref.go:115",#[ed_ 1,ec_ 1,ep_ 0,ep_ 1],none⟩
def OK3:Array Oper:=List.toArray (oK3_0::oK3_1::oK3_2::[])
theorem gK3_0:OK3[0]? = some oK3_0:=rfl
theorem gK3_1:OK3[1]? = some oK3_1:=rfl
theorem gK3_2:OK3[2]? = some oK3_2:=rfl
def cK10:Code:=Code.region 3 OK3 false
def cK9:Code:=Code.seq cK10 Code.ret
def oK4_0:Oper:=⟨some 11,Op.binOp Go.BinOp.eql 9 (Operand.tmp 5) (Operand.const (Value.string { data:=#[92] })) 9,4, "ref.go:116",#[],none⟩
def oK4_1:Oper:=⟨some 10,Op.assign (Operand.tmp 11),4, "ref.go:116",#[ed_ 0],none⟩
def OK4:Array Oper:=List.toArray (oK4_0::oK4_1::[])
theorem gK4_0:OK4[0]? = some oK4_0:=rfl
theorem gK4_1:OK4[1]? = some oK4_1:=rfl
def cK13:Code:=Code.region 4 OK4 false
def oK5_0:Oper:=⟨some 12,Op.move (Operand.tmp 1),2, "ref.go:117",#[],none⟩
def oK5_1:Oper:=⟨some 13,Op.binOp Go.BinOp.sub 2 (Operand.const (Value.int IntKind.i64 (-1))) (Operand.tmp 12) 2,2, "ref.go:117",#[ed_ 0],none⟩
def oK5_2:Oper:=⟨some 14,Op.call { callee:=Callee.value (Operand.func 31),args:=#[Operand.tmp 13],argTypes:=#[2] },30, "ref.go:117",#[ed_ 1],none⟩
def oK5_3:Oper:=⟨none,Op.store 30 (Operand.tmp 4) (Operand.tmp 14),0, "ref.go:117",#[ed_ 2,ec_ 2,ep_ 0,ep_ 1,ep_ 2],none⟩
def OK5:Array Oper:=List.toArray (oK5_0::oK5_1::oK5_2::oK5_3::[])
theorem gK5_0:OK5[0]? = some oK5_0:=rfl
theorem gK5_1:OK5[1]? = some oK5_1:=rfl
theorem gK5_2:OK5[2]? = some oK5_2:=rfl
theorem gK5_3:OK5[3]? = some oK5_3:=rfl
def cK16:Code:=Code.region 5 OK5 false
def cK15:Code:=Code.seq cK16 Code.ret
def oK6_0:Oper:=⟨some 16,Op.binOp Go.BinOp.eql 9 (Operand.tmp 5) (Operand.const (Value.string { data:=#[115,105,103,110] })) 9,4, "ref.go:118",#[],none⟩
def oK6_1:Oper:=⟨some 15,Op.assign (Operand.tmp 16),4, "ref.go:118",#[ed_ 0],none⟩
def OK6:Array Oper:=List.toArray (oK6_0::oK6_1::[])
theorem gK6_0:OK6[0]? = some oK6_0:=rfl
theorem gK6_1:OK6[1]? = some oK6_1:=rfl
def cK19:Code:=Code.region 6 OK6 false
def oK7_0:Oper:=⟨some 17,Op.move (Operand.tmp 1),2, "ref.go:119",#[],none⟩
def oK7_1:Oper:=⟨some 18,Op.binOp Go.BinOp.gtr 2 (Operand.tmp 17) (Operand.const (Value.int IntKind.i64 0)) 2,4, "ref.go:119",#[ed_ 0],none⟩
def OK7:Array Oper:=List.toArray (oK7_0::oK7_1::[])
theorem gK7_0:OK7[0]? = some oK7_0:=rfl
theorem gK7_1:OK7[1]? = some oK7_1:=rfl
def cK23:Code:=Code.region 7 OK7 false
def oK8_0:Oper:=⟨some 19,Op.call { callee:=Callee.value (Operand.func 31),args:=#[Operand.const (Value.int IntKind.i64 1)],argTypes:=#[2] },30, "ref.go:120",#[],none⟩
def oK8_1:Oper:=⟨none,Op.store 30 (Operand.tmp 4) (Operand.tmp 19),0, "ref.go:120",#[ed_ 0,ec_ 0,ep_ 0],none⟩
def OK8:Array Oper:=List.toArray (oK8_0::oK8_1::[])
theorem gK8_0:OK8[0]? = some oK8_0:=rfl
theorem gK8_1:OK8[1]? = some oK8_1:=rfl
def cK26:Code:=Code.region 8 OK8 false
def cK25:Code:=Code.seq cK26 Code.ret
def cK24:Code:=Code.cond (Operand.tmp 18) cK25 Code.skip
def cK22:Code:=Code.seq cK23 cK24
def oK9_0:Oper:=⟨some 20,Op.move (Operand.tmp 1),2, "ref.go:122",#[],none⟩
def oK9_1:Oper:=⟨some 21,Op.binOp Go.BinOp.lss 2 (Operand.tmp 20) (Operand.const (Value.int IntKind.i64 0)) 2,4, "ref.go:122",#[ed_ 0],none⟩
def OK9:Array Oper:=List.toArray (oK9_0::oK9_1::[])
theorem gK9_0:OK9[0]? = some oK9_0:=rfl
theorem gK9_1:OK9[1]? = some oK9_1:=rfl
def cK31:Code:=Code.region 9 OK9 false
def oK10_0:Oper:=⟨some 22,Op.call { callee:=Callee.value (Operand.func 31),args:=#[Operand.const (Value.int IntKind.i64 (-1))],argTypes:=#[2] },30, "ref.go:123",#[],none⟩
def oK10_1:Oper:=⟨none,Op.store 30 (Operand.tmp 4) (Operand.tmp 22),0, "ref.go:123",#[ed_ 0,ec_ 0,ep_ 0],none⟩
def OK10:Array Oper:=List.toArray (oK10_0::oK10_1::[])
theorem gK10_0:OK10[0]? = some oK10_0:=rfl
theorem gK10_1:OK10[1]? = some oK10_1:=rfl
def cK34:Code:=Code.region 10 OK10 false
def cK33:Code:=Code.seq cK34 Code.ret
def cK32:Code:=Code.cond (Operand.tmp 21) cK33 Code.skip
def cK30:Code:=Code.seq cK31 cK32
def oK11_0:Oper:=⟨some 23,Op.call { callee:=Callee.value (Operand.func 31),args:=#[Operand.const (Value.int IntKind.i64 0)],argTypes:=#[2] },30, "ref.go:125",#[],none⟩
def oK11_1:Oper:=⟨none,Op.store 30 (Operand.tmp 4) (Operand.tmp 23),0, "ref.go:125",#[ed_ 0,ec_ 0,ep_ 0],none⟩
def OK11:Array Oper:=List.toArray (oK11_0::oK11_1::[])
theorem gK11_0:OK11[0]? = some oK11_0:=rfl
theorem gK11_1:OK11[1]? = some oK11_1:=rfl
def cK38:Code:=Code.region 11 OK11 false
def cK37:Code:=Code.seq cK38 Code.ret
def cK29:Code:=Code.seq cK30 cK37
def cK21:Code:=Code.seq cK22 cK29
def oK12_0:Oper:=⟨some 25,Op.binOp Go.BinOp.eql 9 (Operand.tmp 5) (Operand.const (Value.string { data:=#[97,98,115] })) 9,4, "ref.go:126",#[],none⟩
def oK12_1:Oper:=⟨some 24,Op.assign (Operand.tmp 25),4, "ref.go:126",#[ed_ 0],none⟩
def OK12:Array Oper:=List.toArray (oK12_0::oK12_1::[])
theorem gK12_0:OK12[0]? = some oK12_0:=rfl
theorem gK12_1:OK12[1]? = some oK12_1:=rfl
def cK41:Code:=Code.region 12 OK12 false
def oK13_0:Oper:=⟨some 26,Op.move (Operand.tmp 1),2, "ref.go:127",#[],none⟩
def oK13_1:Oper:=⟨some 27,Op.binOp Go.BinOp.gtr 2 (Operand.tmp 26) (Operand.const (Value.int IntKind.i64 0)) 2,4, "ref.go:127",#[ed_ 0],none⟩
def OK13:Array Oper:=List.toArray (oK13_0::oK13_1::[])
theorem gK13_0:OK13[0]? = some oK13_0:=rfl
theorem gK13_1:OK13[1]? = some oK13_1:=rfl
def cK44:Code:=Code.region 13 OK13 false
def oK14_0:Oper:=⟨some 28,Op.move (Operand.tmp 1),2, "ref.go:128",#[],none⟩
def oK14_1:Oper:=⟨some 29,Op.call { callee:=Callee.value (Operand.func 31),args:=#[Operand.tmp 28],argTypes:=#[2] },30, "ref.go:128",#[ed_ 0],none⟩
def oK14_2:Oper:=⟨none,Op.store 30 (Operand.tmp 4) (Operand.tmp 29),0, "ref.go:128",#[ed_ 1,ec_ 1,ep_ 0,ep_ 1],none⟩
def OK14:Array Oper:=List.toArray (oK14_0::oK14_1::oK14_2::[])
theorem gK14_0:OK14[0]? = some oK14_0:=rfl
theorem gK14_1:OK14[1]? = some oK14_1:=rfl
theorem gK14_2:OK14[2]? = some oK14_2:=rfl
def cK47:Code:=Code.region 14 OK14 false
def cK46:Code:=Code.seq cK47 Code.ret
def cK45:Code:=Code.cond (Operand.tmp 27) cK46 Code.skip
def cK43:Code:=Code.seq cK44 cK45
def cK42:Code:=Code.cond (Operand.tmp 24) cK43 Code.skip
def cK40:Code:=Code.seq cK41 cK42
def cK20:Code:=Code.cond (Operand.tmp 15) cK21 cK40
def cK18:Code:=Code.seq cK19 cK20
def cK14:Code:=Code.cond (Operand.tmp 10) cK15 cK18
def cK12:Code:=Code.seq cK13 cK14
def cK8:Code:=Code.cond (Operand.tmp 6) cK9 cK12
def cK6:Code:=Code.seq cK7 cK8
def cK5:Code:=Code.block 0 cK6
def cK3:Code:=Code.seq cK4 cK5
def oK15_0:Oper:=⟨some 30,Op.move (Operand.tmp 1),2, "ref.go:131",#[],none⟩
def oK15_1:Oper:=⟨some 31,Op.call { callee:=Callee.value (Operand.func 43),args:=#[Operand.const (Value.int IntKind.i64 0),Operand.tmp 30],argTypes:=#[2,2] },30, "ref.go:131",#[ed_ 0],none⟩
def oK15_2:Oper:=⟨none,Op.store 30 (Operand.tmp 4) (Operand.tmp 31),0, "ref.go:131",#[ed_ 1,ec_ 1,ep_ 0,ep_ 1],none⟩
def OK15:Array Oper:=List.toArray (oK15_0::oK15_1::oK15_2::[])
theorem gK15_0:OK15[0]? = some oK15_0:=rfl
theorem gK15_1:OK15[1]? = some oK15_1:=rfl
theorem gK15_2:OK15[2]? = some oK15_2:=rfl
def cK52:Code:=Code.region 15 OK15 false
def cK51:Code:=Code.seq cK52 Code.ret
def cK2:Code:=Code.seq cK3 cK51
def cK0:Code:=Code.seq cK1 cK2
theorem enA33_31:Enters Try.prog 31:=enters_of Try.func31 (by kernel_rfl) rfl
theorem bodyA33:Try.f33.body=some cK0:=by kernel_rfl
theorem abs_low {a:Int} (h:a ≤ 0):oneR [97,98,115] a=big (-a):=by
  show (if 0 ≤ a then (a,[]) else big (-a))=_
  by_cases h0:0 ≤ a
  · obtain rfl:a=0:=by omega
    rfl
  · rw [if_neg h0]
theorem abs_high {a:Int} (h:0 < a):resW (oneR [97,98,115] a)=.num a:=by
  rw [show oneR [97,98,115] a=(a,[]) from (show (if 0 ≤ a then ((a,[]):Rs) else big (-a))=(a,[]) from if_pos (by omega))];rfl
theorem rone_minus {nm:List UInt8} {a:Int} (h:isFn nm 1=true) (h1:¬ nm=[43]) (h2:¬ nm=[92]) (h3:¬ nm=[115,105,103,110]) (h4:¬ nm=[97,98,115]):oneR nm a=oneR [45] a:=by
  by_cases h5:nm=[45]
  · rw [h5]
  · exfalso;simp [isFn, *] at h
set_option maxRecDepth 100000 in
set_option maxHeartbeats 4000000 in
theorem rone_w {W:World} {nm:List UInt8} {a:Int} {f0:Act} {w0:World} (R:FrS 32 f0) (h0:f0.tmps[0]? = some (.string (str nm))) (h1:f0.tmps[1]? = some (.int .i64 a)) (K1:Keep (fun g=>g < W.heap.size) W w0)  (HA:Hid (inR a)) (HFN:Hid (isFn nm 1=true)):cK0.wp Try.prog (bodyPost Try.prog Try.f33 (fun e w'=>WA (resW (oneR nm a)) W e w')) f0 w0:=by
 refine wp_seq (x:=cK1) (y:=cK2) ?_
 change (Code.region 0 OK0 false).wp _ _ _ _
 refine reg_in (l:=[0]) rfl ?_
 have F:=fe_ R;clear R
 have Y:(execOp f0.eval oK0_0).run Try.prog w0=.ok (.value (.pointer (some ⟨w0.heap.size,0,none⟩))) (w0.alloc (.cells #[.int .i64 0,.int .i64 0,.string (⟨#[]⟩),.int .i64 0,.slice none 0 0,.bool false] 30)):=by unfold oK0_0;go_simp
 have B1:=Blk.new w0 30 #[.int .i64 0,.int .i64 0,.string (⟨#[]⟩),.int .i64 0,.slice none 0 0,.bool false]
 obtain ⟨w2,hw⟩:∃ x,x=w0.alloc (.cells #[.int .i64 0,.int .i64 0,.string (⟨#[]⟩),.int .i64 0,.slice none 0 0,.bool false] 30):=⟨_,rfl⟩;rw [← hw] at Y B1
 obtain ⟨b1,hb⟩:∃ x,x=w0.heap.size:=⟨_,rfl⟩;rw [← hb] at Y B1
 have LK1_b1:=lk_ hb K1;replace K1:=ka_ hw K1;clear hw hb
 refine sw_ gK0_0 Y F fun a3 F h4=>?_;clear Y
 refine st_end ?_
 replace h0:=F.of h0;replace h1:=F.of h1;have R:=F.r;clear F
 change (cK2).wp _ _ _ _
 refine wp_seq (x:=cK3) (y:=cK51) ?_
 refine wp_seq (x:=cK4) (y:=cK5) ?_
 change (Code.region 1 OK1 false).wp _ _ _ _
 refine reg_in (l:=[0]) rfl ?_
 have F:=fe_ R;clear R
 refine sw_ gK1_0 (ym_ rfl (F.of h0)) F fun a4 F h5=>?_
 refine st_end ?_
 clear h0;replace h1:=F.of h1;replace h4:=F.of h4;have R:=F.r;clear F
 change (cK5).wp _ _ _ _
 refine wp_block (id:=0) (c:=cK6) ?_
 refine wp_seq (x:=cK7) (y:=cK8) ?_
 change (Code.region 2 OK2 false).wp _ _ _ _
 refine reg_in (l:=[0,1]) rfl ?_
 have F:=fe_ R;clear R
 obtain ⟨b5,hb5⟩:∃ x,(((str nm).toList == [43]))=x:=⟨_,rfl⟩
 have Y:(execOp a4.eval oK2_0).run Try.prog w2=.ok (.value (.bool b5)) w2:=by have r5:=F.of h5;rw [← hb5];unfold oK2_0;go_simp
 refine sw_ gK2_0 Y F fun a6 F h7=>?_;clear Y
 refine sv_ gK2_1 (ya_ rfl h7) fun a7 e=>?_
 clear h7;have h6:=pt_ F e;replace F:=pu_ F e;clear e
 refine st_end ?_
 replace h1:=F.of h1;replace h4:=F.of h4;replace h5:=F.of h5;have R:=F.r;clear F
 change (cK8).wp _ _ _ _
 cases b5 with
 | false =>
  have fb5:=hb5;clear hb5
  simp only [dd_] at fb5
  refine wp_cond_false (x:=cK9) (y:=cK12) (eval_slot h6) ?_
  refine wp_seq (x:=cK13) (y:=cK14) ?_
  change (Code.region 4 OK4 false).wp _ _ _ _
  refine reg_in (l:=[0,1]) rfl ?_
  have F:=fe_ R;clear R
  obtain ⟨b8,hb8⟩:∃ x,(((str nm).toList == [92]))=x:=⟨_,rfl⟩
  have Y:(execOp a7.eval oK4_0).run Try.prog w2=.ok (.value (.bool b8)) w2:=by have r5:=F.of h5;rw [← hb8];unfold oK4_0;go_simp
  refine sw_ gK4_0 Y F fun a9 F h11=>?_;clear Y
  refine sv_ gK4_1 (ya_ rfl h11) fun a10 e=>?_
  clear h11;have h10:=pt_ F e;replace F:=pu_ F e;clear e
  refine st_end ?_
  replace h1:=F.of h1;replace h4:=F.of h4;replace h5:=F.of h5;clear h6;have R:=F.r;clear F
  change (cK14).wp _ _ _ _
  cases b8 with
  | false =>
   have fb8:=hb8;clear hb8
   simp only [dd_] at fb8
   refine wp_cond_false (x:=cK15) (y:=cK18) (eval_slot h10) ?_
   refine wp_seq (x:=cK19) (y:=cK20) ?_
   change (Code.region 6 OK6 false).wp _ _ _ _
   refine reg_in (l:=[0,1]) rfl ?_
   have F:=fe_ R;clear R
   obtain ⟨b11,hb11⟩:∃ x,(((str nm).toList == [115,105,103,110]))=x:=⟨_,rfl⟩
   have Y:(execOp a10.eval oK6_0).run Try.prog w2=.ok (.value (.bool b11)) w2:=by have r5:=F.of h5;rw [← hb11];unfold oK6_0;go_simp
   refine sw_ gK6_0 Y F fun a12 F h16=>?_;clear Y
   refine sv_ gK6_1 (ya_ rfl h16) fun a13 e=>?_
   clear h16;have h15:=pt_ F e;replace F:=pu_ F e;clear e
   refine st_end ?_
   replace h1:=F.of h1;replace h4:=F.of h4;replace h5:=F.of h5;clear h10;have R:=F.r;clear F
   change (cK20).wp _ _ _ _
   cases b11 with
   | false =>
    have fb11:=hb11;clear hb11
    simp only [dd_] at fb11
    refine wp_cond_false (x:=cK21) (y:=cK40) (eval_slot h15) ?_
    refine wp_seq (x:=cK41) (y:=cK42) ?_
    change (Code.region 12 OK12 false).wp _ _ _ _
    refine reg_in (l:=[0,1]) rfl ?_
    have F:=fe_ R;clear R
    obtain ⟨b14,hb14⟩:∃ x,(((str nm).toList == [97,98,115]))=x:=⟨_,rfl⟩
    have Y:(execOp a13.eval oK12_0).run Try.prog w2=.ok (.value (.bool b14)) w2:=by have r5:=F.of h5;rw [← hb14];unfold oK12_0;go_simp
    refine sw_ gK12_0 Y F fun a15 F h25=>?_;clear Y
    refine sv_ gK12_1 (ya_ rfl h25) fun a16 e=>?_
    clear h25;have h24:=pt_ F e;replace F:=pu_ F e;clear e
    refine st_end ?_
    replace h1:=F.of h1;replace h4:=F.of h4;clear h5;clear h15;have R:=F.r;clear F
    change (cK42).wp _ _ _ _
    cases b14 with
    | false =>
     have fb14:=hb14;clear hb14
     simp only [dd_] at fb14
     refine wp_cond_false (x:=cK43) (y:=Code.skip) (eval_slot h24) ?_
     refine wp_skip ?_
     change (cK51).wp _ _ _ _
     refine wp_seq (x:=cK52) (y:=Code.ret) ?_
     change (Code.region 15 OK15 false).wp _ _ _ _
     refine reg_in (l:=[0,1,2]) rfl ?_
     have F:=fe_ R;clear R
     refine sw_ gK15_0 (ym_ rfl (F.of h1)) F fun a17 F h30=>?_
     have Y:(execOp a17.eval oK15_1).run Try.prog w2=.ok (.enter 43 #[.int .i64 0,.int .i64 a]) w2:=by unfold oK15_1;go_simp
     have hca:=rsub_any w2 (a:=0) (b:=a) inR_0 HA.out
     have UKX_b1:=B1.lt
     have HWKX:W.heap.size ≤ w2.heap.size:=K1.size
     refine st_call gK15_1 rfl (wanted_free rfl) Y ((hca).mono ?_);clear Y
     rintro e9 w18 ⟨ax,cx,rfl,hx,kk⟩
     replace K1:=keep_onto K1 kk
     replace B1:=blk_on B1 kk
     clear kk
     clear hca
     have HX:=Lib.hid hx;clear hx
     have KX:=Keep.refl (fun g=>w2.heap.size ≤ g∧g < w18.heap.size) w18
     refine ⟨_,rfl,fun a19 e=>?_⟩
     clear h30;have h31:=pt_ F e;replace F:=pu_ F e;clear e
     obtain ⟨w20,Y,hk,hB⟩:=ys6_ (o:=oK15_2) rfl (F.of h4) h31 B1
     replace K1:=kx_ hk K1 (Nat.not_lt.2 LK1_b1);replace KX:=kx_ hk KX (fun hx=>absurd hx.1 (Nat.not_le.2 UKX_b1));clear B1;have B1:=hB;clear hB hk
     refine st_skip gK15_2 rfl (wanted_free rfl) Y ?_;clear Y
     refine st_end ?_
     clear h1;replace h4:=F.of h4;clear h24;clear h31;have R:=F.r;clear F
     change (Code.ret).wp _ _ _ _
     refine wp_ret ?_
     change bodyPost Try.prog Try.f33 (fun e w'=>WA (resW (oneR nm a)) W e w') .ret a19 w20
     refine ret_cell6 (fn:=Try.f33) rfl R h4 B1 ?_
     simp only [str_list] at *;exact (show WA (resW (oneR nm a)) W _ _ by rw [show oneR nm a=big (0 - a) by rw [rone_minus HFN.out (by assumption) (by assumption) (by assumption) (by assumption),Int.zero_sub];rfl];exact ⟨ax,cx,rfl,(HX.out.on KX).up HWKX,K1⟩)
    | true =>
     have fb14:=hb14;clear hb14
     simp only [dd_] at fb14
     refine wp_cond_true (x:=cK43) (y:=Code.skip) (eval_slot h24) ?_
     refine wp_seq (x:=cK44) (y:=cK45) ?_
     change (Code.region 13 OK13 false).wp _ _ _ _
     refine reg_in (l:=[0,1]) rfl ?_
     have F:=fe_ R;clear R
     refine sw_ gK13_0 (ym_ rfl (F.of h1)) F fun a21 F h26=>?_
     obtain ⟨b22,hb22⟩:∃ x,(decide ((0:Int) < (a:Int)))=x:=⟨_,rfl⟩
     have Y:(execOp a21.eval oK13_1).run Try.prog w2=.ok (.value (.bool b22)) w2:=by rw [← hb22];unfold oK13_1;go_simp
     refine sw_ gK13_1 Y F fun a23 F h27=>?_;clear Y h26
     refine st_end ?_
     replace h1:=F.of h1;replace h4:=F.of h4;clear h24;have R:=F.r;clear F
     change (cK45).wp _ _ _ _
     cases b22 with
     | false =>
      have fb22:=hb22;clear hb22
      simp only [dd_] at fb22
      refine wp_cond_false (x:=cK46) (y:=Code.skip) (eval_slot h27) ?_
      refine wp_skip ?_
      change (cK51).wp _ _ _ _
      refine wp_seq (x:=cK52) (y:=Code.ret) ?_
      change (Code.region 15 OK15 false).wp _ _ _ _
      refine reg_in (l:=[0,1,2]) rfl ?_
      have F:=fe_ R;clear R
      refine sw_ gK15_0 (ym_ rfl (F.of h1)) F fun a24 F h30=>?_
      have Y:(execOp a24.eval oK15_1).run Try.prog w2=.ok (.enter 43 #[.int .i64 0,.int .i64 a]) w2:=by unfold oK15_1;go_simp
      have hnm:nm=[97,98,115]:=by simpa [str_list] using fb14
      have hca:=rsub_any w2 (a:=0) (b:=a) inR_0 HA.out
      have UKX_b1:=B1.lt
      have HWKX:W.heap.size ≤ w2.heap.size:=K1.size
      refine st_call gK15_1 rfl (wanted_free rfl) Y ((hca).mono ?_);clear Y
      rintro e9 w25 ⟨ax,cx,rfl,hx,kk⟩
      replace K1:=keep_onto K1 kk
      replace B1:=blk_on B1 kk
      clear kk
      clear hca
      have HX:=Lib.hid hx;clear hx
      have KX:=Keep.refl (fun g=>w2.heap.size ≤ g∧g < w25.heap.size) w25
      refine ⟨_,rfl,fun a26 e=>?_⟩
      clear h30;have h31:=pt_ F e;replace F:=pu_ F e;clear e
      obtain ⟨w27,Y,hk,hB⟩:=ys6_ (o:=oK15_2) rfl (F.of h4) h31 B1
      replace K1:=kx_ hk K1 (Nat.not_lt.2 LK1_b1);replace KX:=kx_ hk KX (fun hx=>absurd hx.1 (Nat.not_le.2 UKX_b1));clear B1;have B1:=hB;clear hB hk
      refine st_skip gK15_2 rfl (wanted_free rfl) Y ?_;clear Y
      refine st_end ?_
      clear h1;replace h4:=F.of h4;clear h27;clear h31;have R:=F.r;clear F
      change (Code.ret).wp _ _ _ _
      refine wp_ret ?_
      change bodyPost Try.prog Try.f33 (fun e w'=>WA (resW (oneR nm a)) W e w') .ret a26 w27
      refine ret_cell6 (fn:=Try.f33) rfl R h4 B1 ?_
      have hnm9:nm=[97,98,115]:=by simpa [str_list] using fb14
      exact (show WA (resW (oneR nm a)) W _ _ by rw [show oneR nm a=big (0 - a) by rw [hnm9,Int.zero_sub];exact abs_low (by omega)];exact ⟨ax,cx,rfl,(HX.out.on KX).up HWKX,K1⟩)
     | true =>
      have fb22:=hb22;clear hb22
      simp only [dd_] at fb22
      refine wp_cond_true (x:=cK46) (y:=Code.skip) (eval_slot h27) ?_
      refine wp_seq (x:=cK47) (y:=Code.ret) ?_
      change (Code.region 14 OK14 false).wp _ _ _ _
      refine reg_in (l:=[0,1,2]) rfl ?_
      have F:=fe_ R;clear R
      refine sw_ gK14_0 (ym_ rfl (F.of h1)) F fun a28 F h28=>?_
      refine st_call gK14_1 rfl (wanted_free rfl) (yc1_ enA33_31 rfl h28) ((of_any _ (a)).mono ?_)
      rintro e9 w29 ⟨rfl,kk⟩
      replace K1:=keep_onto K1 kk
      replace B1:=blk_on B1 kk
      clear kk
      refine ⟨_,rfl,fun a30 e=>?_⟩
      clear h28;have h29:=pt_ F e;replace F:=pu_ F e;clear e
      obtain ⟨w31,Y,hk,hB⟩:=ys6_ (o:=oK14_2) rfl (F.of h4) h29 B1
      replace K1:=kx_ hk K1 (Nat.not_lt.2 LK1_b1);clear B1;have B1:=hB;clear hB hk
      refine st_skip gK14_2 rfl (wanted_free rfl) Y ?_;clear Y
      refine st_end ?_
      replace h1:=F.of h1;replace h4:=F.of h4;clear h27;clear h29;have R:=F.r;clear F
      change (Code.ret).wp _ _ _ _
      refine wp_ret ?_
      change bodyPost Try.prog Try.f33 (fun e w'=>WA (resW (oneR nm a)) W e w') .ret a30 w31
      refine ret_cell6 (fn:=Try.f33) rfl R h4 B1 ?_
      have hnm9:nm=[97,98,115]:=by simpa [str_list] using fb14
      exact (show WA (resW (oneR nm a)) W _ _ by rw [show resW (oneR nm a)=.num (a) by rw [hnm9];exact abs_high (by omega)];exact ⟨none,0,rfl,own_zero,K1⟩)
   | true =>
    have fb11:=hb11;clear hb11
    simp only [dd_] at fb11
    refine wp_cond_true (x:=cK21) (y:=cK40) (eval_slot h15) ?_
    refine wp_seq (x:=cK22) (y:=cK29) ?_
    refine wp_seq (x:=cK23) (y:=cK24) ?_
    change (Code.region 7 OK7 false).wp _ _ _ _
    refine reg_in (l:=[0,1]) rfl ?_
    have F:=fe_ R;clear R
    refine sw_ gK7_0 (ym_ rfl (F.of h1)) F fun a32 F h17=>?_
    obtain ⟨b33,hb33⟩:∃ x,(decide ((0:Int) < (a:Int)))=x:=⟨_,rfl⟩
    have Y:(execOp a32.eval oK7_1).run Try.prog w2=.ok (.value (.bool b33)) w2:=by rw [← hb33];unfold oK7_1;go_simp
    refine sw_ gK7_1 Y F fun a34 F h18=>?_;clear Y h17
    refine st_end ?_
    replace h1:=F.of h1;replace h4:=F.of h4;replace h5:=F.of h5;clear h15;have R:=F.r;clear F
    change (cK24).wp _ _ _ _
    cases b33 with
    | false =>
     have fb33:=hb33;clear hb33
     simp only [dd_] at fb33
     refine wp_cond_false (x:=cK25) (y:=Code.skip) (eval_slot h18) ?_
     refine wp_skip ?_
     change (cK29).wp _ _ _ _
     refine wp_seq (x:=cK30) (y:=cK37) ?_
     refine wp_seq (x:=cK31) (y:=cK32) ?_
     change (Code.region 9 OK9 false).wp _ _ _ _
     refine reg_in (l:=[0,1]) rfl ?_
     have F:=fe_ R;clear R
     refine sw_ gK9_0 (ym_ rfl (F.of h1)) F fun a35 F h20=>?_
     obtain ⟨b36,hb36⟩:∃ x,(decide ((a:Int) < (0:Int)))=x:=⟨_,rfl⟩
     have Y:(execOp a35.eval oK9_1).run Try.prog w2=.ok (.value (.bool b36)) w2:=by rw [← hb36];unfold oK9_1;go_simp
     refine sw_ gK9_1 Y F fun a37 F h21=>?_;clear Y h20
     refine st_end ?_
     replace h1:=F.of h1;replace h4:=F.of h4;replace h5:=F.of h5;clear h18;have R:=F.r;clear F
     change (cK32).wp _ _ _ _
     cases b36 with
     | false =>
      have fb36:=hb36;clear hb36
      simp only [dd_] at fb36
      refine wp_cond_false (x:=cK33) (y:=Code.skip) (eval_slot h21) ?_
      refine wp_skip ?_
      change (cK37).wp _ _ _ _
      refine wp_seq (x:=cK38) (y:=Code.ret) ?_
      change (Code.region 11 OK11 false).wp _ _ _ _
      refine reg_in (l:=[0,1]) rfl ?_
      have F:=fe_ R;clear R
      have Y:(execOp a37.eval oK11_0).run Try.prog w2=.ok (.enter 31 #[.int .i64 0]) w2:=by unfold oK11_0;go_simp
      refine st_call gK11_0 rfl (wanted_free rfl) Y ((of_any _ (0)).mono ?_);clear Y
      rintro e9 w38 ⟨rfl,kk⟩
      replace K1:=keep_onto K1 kk
      replace B1:=blk_on B1 kk
      clear kk
      refine ⟨_,rfl,fun a39 e=>?_⟩
      have h23:=pt_ F e;replace F:=pu_ F e;clear e
      obtain ⟨w40,Y,hk,hB⟩:=ys6_ (o:=oK11_1) rfl (F.of h4) h23 B1
      replace K1:=kx_ hk K1 (Nat.not_lt.2 LK1_b1);clear B1;have B1:=hB;clear hB hk
      refine st_skip gK11_1 rfl (wanted_free rfl) Y ?_;clear Y
      refine st_end ?_
      replace h1:=F.of h1;replace h4:=F.of h4;replace h5:=F.of h5;clear h21;clear h23;have R:=F.r;clear F
      change (Code.ret).wp _ _ _ _
      refine wp_ret ?_
      change bodyPost Try.prog Try.f33 (fun e w'=>WA (resW (oneR nm a)) W e w') .ret a39 w40
      refine ret_cell6 (fn:=Try.f33) rfl R h4 B1 ?_
      have hnm9:nm=[115,105,103,110]:=by simpa [str_list] using fb11
      exact (show WA (resW (oneR nm a)) W _ _ by rw [show resW (oneR nm a)=.num (0) by rw [hnm9];exact rone_sign (by unfold cmpZ;first | rw [if_pos (by omega)] | rw [if_neg (by omega),if_pos (by omega)] | rw [if_neg (by omega),if_neg (by omega)])];exact ⟨none,0,rfl,own_zero,K1⟩)
     | true =>
      have fb36:=hb36;clear hb36
      simp only [dd_] at fb36
      refine wp_cond_true (x:=cK33) (y:=Code.skip) (eval_slot h21) ?_
      refine wp_seq (x:=cK34) (y:=Code.ret) ?_
      change (Code.region 10 OK10 false).wp _ _ _ _
      refine reg_in (l:=[0,1]) rfl ?_
      have F:=fe_ R;clear R
      have Y:(execOp a37.eval oK10_0).run Try.prog w2=.ok (.enter 31 #[.int .i64 (-1)]) w2:=by unfold oK10_0;go_simp
      refine st_call gK10_0 rfl (wanted_free rfl) Y ((of_any _ (-1)).mono ?_);clear Y
      rintro e9 w41 ⟨rfl,kk⟩
      replace K1:=keep_onto K1 kk
      replace B1:=blk_on B1 kk
      clear kk
      refine ⟨_,rfl,fun a42 e=>?_⟩
      have h22:=pt_ F e;replace F:=pu_ F e;clear e
      obtain ⟨w43,Y,hk,hB⟩:=ys6_ (o:=oK10_1) rfl (F.of h4) h22 B1
      replace K1:=kx_ hk K1 (Nat.not_lt.2 LK1_b1);clear B1;have B1:=hB;clear hB hk
      refine st_skip gK10_1 rfl (wanted_free rfl) Y ?_;clear Y
      refine st_end ?_
      replace h1:=F.of h1;replace h4:=F.of h4;replace h5:=F.of h5;clear h21;clear h22;have R:=F.r;clear F
      change (Code.ret).wp _ _ _ _
      refine wp_ret ?_
      change bodyPost Try.prog Try.f33 (fun e w'=>WA (resW (oneR nm a)) W e w') .ret a42 w43
      refine ret_cell6 (fn:=Try.f33) rfl R h4 B1 ?_
      have hnm9:nm=[115,105,103,110]:=by simpa [str_list] using fb11
      exact (show WA (resW (oneR nm a)) W _ _ by rw [show resW (oneR nm a)=.num (-1) by rw [hnm9];exact rone_sign (by unfold cmpZ;first | rw [if_pos (by omega)] | rw [if_neg (by omega),if_pos (by omega)] | rw [if_neg (by omega),if_neg (by omega)])];exact ⟨none,0,rfl,own_zero,K1⟩)
    | true =>
     have fb33:=hb33;clear hb33
     simp only [dd_] at fb33
     refine wp_cond_true (x:=cK25) (y:=Code.skip) (eval_slot h18) ?_
     refine wp_seq (x:=cK26) (y:=Code.ret) ?_
     change (Code.region 8 OK8 false).wp _ _ _ _
     refine reg_in (l:=[0,1]) rfl ?_
     have F:=fe_ R;clear R
     have Y:(execOp a34.eval oK8_0).run Try.prog w2=.ok (.enter 31 #[.int .i64 1]) w2:=by unfold oK8_0;go_simp
     refine st_call gK8_0 rfl (wanted_free rfl) Y ((of_any _ (1)).mono ?_);clear Y
     rintro e9 w44 ⟨rfl,kk⟩
     replace K1:=keep_onto K1 kk
     replace B1:=blk_on B1 kk
     clear kk
     refine ⟨_,rfl,fun a45 e=>?_⟩
     have h19:=pt_ F e;replace F:=pu_ F e;clear e
     obtain ⟨w46,Y,hk,hB⟩:=ys6_ (o:=oK8_1) rfl (F.of h4) h19 B1
     replace K1:=kx_ hk K1 (Nat.not_lt.2 LK1_b1);clear B1;have B1:=hB;clear hB hk
     refine st_skip gK8_1 rfl (wanted_free rfl) Y ?_;clear Y
     refine st_end ?_
     replace h1:=F.of h1;replace h4:=F.of h4;replace h5:=F.of h5;clear h18;clear h19;have R:=F.r;clear F
     change (Code.ret).wp _ _ _ _
     refine wp_ret ?_
     change bodyPost Try.prog Try.f33 (fun e w'=>WA (resW (oneR nm a)) W e w') .ret a45 w46
     refine ret_cell6 (fn:=Try.f33) rfl R h4 B1 ?_
     have hnm9:nm=[115,105,103,110]:=by simpa [str_list] using fb11
     exact (show WA (resW (oneR nm a)) W _ _ by rw [show resW (oneR nm a)=.num (1) by rw [hnm9];exact rone_sign (by unfold cmpZ;first | rw [if_pos (by omega)] | rw [if_neg (by omega),if_pos (by omega)] | rw [if_neg (by omega),if_neg (by omega)])];exact ⟨none,0,rfl,own_zero,K1⟩)
  | true =>
   have fb8:=hb8;clear hb8
   simp only [dd_] at fb8
   refine wp_cond_true (x:=cK15) (y:=cK18) (eval_slot h10) ?_
   refine wp_seq (x:=cK16) (y:=Code.ret) ?_
   change (Code.region 5 OK5 false).wp _ _ _ _
   refine reg_in (l:=[0,1,2,3]) rfl ?_
   have F:=fe_ R;clear R
   refine sw_ gK5_0 (ym_ rfl (F.of h1)) F fun a47 F h12=>?_
   have Y:(execOp a47.eval oK5_1).run Try.prog w2=.ok (.value (.int .i64 (-1 - a))) w2:=by have ha:=HA.out;unfold inR at ha;have h8:IntKind.i64.wrap (-1 - a)=-1 - a:=(by rw [IntKind.wrap_i64];omega);unfold oK5_1;go_simp
   refine sw_ gK5_1 Y F fun a48 F h13=>?_;clear Y h12
   refine st_call gK5_2 rfl (wanted_free rfl) (yc1_ enA33_31 rfl h13) ((of_any _ (-1 - a)).mono ?_)
   rintro e9 w49 ⟨rfl,kk⟩
   replace K1:=keep_onto K1 kk
   replace B1:=blk_on B1 kk
   clear kk
   refine ⟨_,rfl,fun a50 e=>?_⟩
   clear h13;have h14:=pt_ F e;replace F:=pu_ F e;clear e
   obtain ⟨w51,Y,hk,hB⟩:=ys6_ (o:=oK5_3) rfl (F.of h4) h14 B1
   replace K1:=kx_ hk K1 (Nat.not_lt.2 LK1_b1);clear B1;have B1:=hB;clear hB hk
   refine st_skip gK5_3 rfl (wanted_free rfl) Y ?_;clear Y
   refine st_end ?_
   replace h1:=F.of h1;replace h4:=F.of h4;replace h5:=F.of h5;clear h10;clear h14;have R:=F.r;clear F
   change (Code.ret).wp _ _ _ _
   refine wp_ret ?_
   change bodyPost Try.prog Try.f33 (fun e w'=>WA (resW (oneR nm a)) W e w') .ret a50 w51
   refine ret_cell6 (fn:=Try.f33) rfl R h4 B1 ?_
   have hnm9:nm=[92]:=by simpa [str_list] using fb8
   exact (show WA (resW (oneR nm a)) W _ _ by rw [show resW (oneR nm a)=.num (-1 - a) by rw [hnm9];show resW (bits .xor .i64 (-1) a,[])=_;rw [xor_not HA.out];rfl];exact ⟨none,0,rfl,own_zero,K1⟩)
 | true =>
  have fb5:=hb5;clear hb5
  simp only [dd_] at fb5
  refine wp_cond_true (x:=cK9) (y:=cK12) (eval_slot h6) ?_
  refine wp_seq (x:=cK10) (y:=Code.ret) ?_
  change (Code.region 3 OK3 false).wp _ _ _ _
  refine reg_in (l:=[0,1,2]) rfl ?_
  have F:=fe_ R;clear R
  refine sw_ gK3_0 (ym_ rfl (F.of h1)) F fun a52 F h8=>?_
  refine st_call gK3_1 rfl (wanted_free rfl) (yc1_ enA33_31 rfl h8) ((of_any _ (a)).mono ?_)
  rintro e9 w53 ⟨rfl,kk⟩
  replace K1:=keep_onto K1 kk
  replace B1:=blk_on B1 kk
  clear kk
  refine ⟨_,rfl,fun a54 e=>?_⟩
  clear h8;have h9:=pt_ F e;replace F:=pu_ F e;clear e
  obtain ⟨w55,Y,hk,hB⟩:=ys6_ (o:=oK3_2) rfl (F.of h4) h9 B1
  replace K1:=kx_ hk K1 (Nat.not_lt.2 LK1_b1);clear B1;have B1:=hB;clear hB hk
  refine st_skip gK3_2 rfl (wanted_free rfl) Y ?_;clear Y
  refine st_end ?_
  replace h1:=F.of h1;replace h4:=F.of h4;replace h5:=F.of h5;clear h6;clear h9;have R:=F.r;clear F
  change (Code.ret).wp _ _ _ _
  refine wp_ret ?_
  change bodyPost Try.prog Try.f33 (fun e w'=>WA (resW (oneR nm a)) W e w') .ret a54 w55
  refine ret_cell6 (fn:=Try.f33) rfl R h4 B1 ?_
  have hnm9:nm=[43]:=by simpa [str_list] using fb5
  exact (show WA (resW (oneR nm a)) W _ _ by rw [show resW (oneR nm a)=.num (a) by rw [hnm9];rfl];exact ⟨none,0,rfl,own_zero,K1⟩)
theorem rone_any (W:World) {nm:List UInt8} {a:Int} (ha:inR a) (hf:isFn nm 1=true):Calls Try.prog 33 #[.string (str nm),.int .i64 a] W fun e w'=>WA (resW (oneR nm a)) W e w':=by
  refine enter_sx Try.func33 bodyA33 rfl (by show (2:Nat) ≤ 32;decide) fun f0 R hs=>?_
  exact rone_w R (hs 0 _ rfl) (hs 1 _ rfl) (Keep.refl _ W) (Lib.hid ha) (Lib.hid hf)
end Go.Proofs.Ytmgephleogiaoaa
