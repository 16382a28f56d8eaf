/-
  Products. No condition but that they are numbers of 64 bits.
-/
import Derived.Test.YtmgephleogiaoaaNAr3
namespace Go.Proofs.Ytmgephleogiaoaa
open Go.RowKit Go.Maps
set_option linter.unusedVariables false
set_option linter.unusedSimpArgs false
def o67_0_0:Oper:=⟨some 1,Op.box 60 (Operand.tmp 0),0, "function.go:111",#[],none⟩
def o67_0_1:Oper:=⟨some 2,Op.assign (Operand.const (Value.int IntKind.i64 0)),2, "function.go:111",#[],none⟩
def o67_0_2:Oper:=⟨some 3,Op.assign (Operand.const (Value.string { data:=#[] })),9, "function.go:111",#[ec_ 1],none⟩
def O67_0:Array Oper:=List.toArray (o67_0_0::o67_0_1::o67_0_2::[])
theorem g67_0_0:O67_0[0]? = some o67_0_0:=rfl
theorem g67_0_1:O67_0[1]? = some o67_0_1:=rfl
theorem g67_0_2:O67_0[2]? = some o67_0_2:=rfl
def c67_1:Code:=Code.region 0 O67_0 false
def o67_1_0:Oper:=⟨some 9,Op.indexAddr 60 (Operand.tmp 1) (Operand.const (Value.int IntKind.i64 0)),0, "function.go:112",#[],none⟩
def o67_1_1:Oper:=⟨some 10,Op.load 2 (Operand.tmp 9),2, "function.go:112",#[ed_ 0],none⟩
def o67_1_2:Oper:=⟨some 11,Op.call { callee:=Callee.value (Operand.func 78),args:=#[Operand.tmp 10],argTypes:=#[2] },92, "function.go:112",#[ed_ 1],none⟩
def o67_1_3:Oper:=⟨some 12,Op.indexAddr 60 (Operand.tmp 1) (Operand.const (Value.int IntKind.i64 1)),0, "function.go:112",#[],none⟩
def o67_1_4:Oper:=⟨some 13,Op.load 2 (Operand.tmp 12),2, "function.go:112",#[ed_ 3],none⟩
def o67_1_5:Oper:=⟨some 14,Op.call { callee:=Callee.value (Operand.func 78),args:=#[Operand.tmp 13],argTypes:=#[2] },92, "function.go:112",#[ed_ 4,ec_ 2],none⟩
def o67_1_6:Oper:=⟨some 15,Op.call { callee:=Callee.value (Operand.func 77),args:=#[Operand.tmp 11,Operand.tmp 14],argTypes:=#[92,92] },93, "function.go:112",#[ed_ 2,ed_ 5,ec_ 5],none⟩
def o67_1_7:Oper:=⟨some 8,Op.move (Operand.tmp 15),93, "function.go:112",#[ed_ 6],none⟩
def o67_1_8:Oper:=⟨some 16,Op.extract (Operand.tmp 8) 0,92, "function.go:112",#[ed_ 7],none⟩
def o67_1_9:Oper:=⟨some 17,Op.extract (Operand.tmp 8) 1,92, "function.go:112",#[ed_ 7,{ on:=10,ground:=Go.Ground.gcOnly Go.Departure.lateStores }],none⟩
def o67_1_10:Oper:=⟨some 4,Op.assign (Operand.tmp 16),92, "function.go:112",#[ed_ 8,ec_ 6,ep_ 0,ep_ 1,ep_ 2,ep_ 3,ep_ 4,ep_ 5,ep_ 6,ep_ 7,ep_ 8,{ on:=9,ground:=Go.Ground.textOnly Go.Departure.lateStores }],none⟩
def o67_1_11:Oper:=⟨some 5,Op.assign (Operand.tmp 17),92, "function.go:112",#[ed_ 9,ec_ 10,ep_ 0,ep_ 1,ep_ 2,ep_ 3,ep_ 4,ep_ 5,ep_ 6,ep_ 7,ep_ 8,ep_ 9,ep_ 10],none⟩
def O67_1:Array Oper:=List.toArray (o67_1_0::o67_1_1::o67_1_2::o67_1_3::o67_1_4::o67_1_5::o67_1_6::o67_1_7::o67_1_8::o67_1_9::o67_1_10::o67_1_11::[])
theorem g67_1_0:O67_1[0]? = some o67_1_0:=rfl
theorem g67_1_1:O67_1[1]? = some o67_1_1:=rfl
theorem g67_1_2:O67_1[2]? = some o67_1_2:=rfl
theorem g67_1_3:O67_1[3]? = some o67_1_3:=rfl
theorem g67_1_4:O67_1[4]? = some o67_1_4:=rfl
theorem g67_1_5:O67_1[5]? = some o67_1_5:=rfl
theorem g67_1_6:O67_1[6]? = some o67_1_6:=rfl
theorem g67_1_7:O67_1[7]? = some o67_1_7:=rfl
theorem g67_1_8:O67_1[8]? = some o67_1_8:=rfl
theorem g67_1_9:O67_1[9]? = some o67_1_9:=rfl
theorem g67_1_10:O67_1[10]? = some o67_1_10:=rfl
theorem g67_1_11:O67_1[11]? = some o67_1_11:=rfl
theorem ns67_1:Region.noSelect O67_1=true:=by kernel_rfl
def c67_3:Code:=Code.region 1 O67_1 true
def o67_2_0:Oper:=⟨some 6,Op.assign (Operand.const (Value.int IntKind.u64 9223372036854775807)),92, "function.go:113",#[],none⟩
def O67_2:Array Oper:=List.toArray (o67_2_0::[])
theorem g67_2_0:O67_2[0]? = some o67_2_0:=rfl
def c67_5:Code:=Code.region 2 O67_2 false
def o67_3_0:Oper:=⟨some 18,Op.indexAddr 60 (Operand.tmp 1) (Operand.const (Value.int IntKind.i64 0)),0, "function.go:114",#[],none⟩
def o67_3_1:Oper:=⟨some 19,Op.load 2 (Operand.tmp 18),2, "function.go:114",#[ed_ 0],none⟩
def o67_3_2:Oper:=⟨some 20,Op.binOp Go.BinOp.lss 2 (Operand.tmp 19) (Operand.const (Value.int IntKind.i64 0)) 2,4, "function.go:114",#[ed_ 1],none⟩
def o67_3_3:Oper:=⟨some 21,Op.indexAddr 60 (Operand.tmp 1) (Operand.const (Value.int IntKind.i64 1)),0, "function.go:114",#[],none⟩
def o67_3_4:Oper:=⟨some 22,Op.load 2 (Operand.tmp 21),2, "function.go:114",#[ed_ 3],none⟩
def o67_3_5:Oper:=⟨some 23,Op.binOp Go.BinOp.lss 2 (Operand.tmp 22) (Operand.const (Value.int IntKind.i64 0)) 2,4, "function.go:114",#[ed_ 4],none⟩
def o67_3_6:Oper:=⟨some 24,Op.binOp Go.BinOp.neq 4 (Operand.tmp 20) (Operand.tmp 23) 4,4, "function.go:114",#[ed_ 2,ed_ 5],none⟩
def o67_3_7:Oper:=⟨some 7,Op.assign (Operand.tmp 24),4, "function.go:114",#[ed_ 6,ep_ 0,ep_ 1,ep_ 2,ep_ 3,ep_ 4,ep_ 5,ep_ 6],none⟩
def O67_3:Array Oper:=List.toArray (o67_3_0::o67_3_1::o67_3_2::o67_3_3::o67_3_4::o67_3_5::o67_3_6::o67_3_7::[])
theorem g67_3_0:O67_3[0]? = some o67_3_0:=rfl
theorem g67_3_1:O67_3[1]? = some o67_3_1:=rfl
theorem g67_3_2:O67_3[2]? = some o67_3_2:=rfl
theorem g67_3_3:O67_3[3]? = some o67_3_3:=rfl
theorem g67_3_4:O67_3[4]? = some o67_3_4:=rfl
theorem g67_3_5:O67_3[5]? = some o67_3_5:=rfl
theorem g67_3_6:O67_3[6]? = some o67_3_6:=rfl
theorem g67_3_7:O67_3[7]? = some o67_3_7:=rfl
def c67_7:Code:=Code.region 3 O67_3 false
def o67_4_0:Oper:=⟨some 25,Op.move (Operand.tmp 7),4, "function.go:115",#[],none⟩
def O67_4:Array Oper:=List.toArray (o67_4_0::[])
theorem g67_4_0:O67_4[0]? = some o67_4_0:=rfl
def c67_10:Code:=Code.region 4 O67_4 false
def o67_5_0:Oper:=⟨some 26,Op.move (Operand.tmp 6),92, "function.go:116",#[],none⟩
def o67_5_1:Oper:=⟨some 27,Op.binOp Go.BinOp.add 92 (Operand.tmp 26) (Operand.const (Value.int IntKind.u64 1)) 92,92, "function.go:116",#[ed_ 0],none⟩
def o67_5_2:Oper:=⟨some 6,Op.assign (Operand.tmp 27),92, "function.go:116",#[ed_ 1,ep_ 0,ep_ 1],none⟩
def O67_5:Array Oper:=List.toArray (o67_5_0::o67_5_1::o67_5_2::[])
theorem g67_5_0:O67_5[0]? = some o67_5_0:=rfl
theorem g67_5_1:O67_5[1]? = some o67_5_1:=rfl
theorem g67_5_2:O67_5[2]? = some o67_5_2:=rfl
def c67_12:Code:=Code.region 5 O67_5 false
def c67_11:Code:=Code.cond (Operand.tmp 25) c67_12 Code.skip
def c67_9:Code:=Code.seq c67_10 c67_11
def o67_6_0:Oper:=⟨some 28,Op.move (Operand.tmp 4),92, "function.go:118",#[],none⟩
def o67_6_1:Oper:=⟨some 29,Op.binOp Go.BinOp.gtr 92 (Operand.tmp 28) (Operand.const (Value.int IntKind.u64 0)) 92,4, "function.go:118",#[ed_ 0],none⟩
def o67_6_2:Oper:=⟨some 30,Op.move (Operand.tmp 29),4, "function.go:118",#[ed_ 1],none⟩
def o67_6_3:Oper:=⟨some 31,Op.move (Operand.tmp 5),92, "function.go:118",#[eg_ 2],some (2,false)⟩
def o67_6_4:Oper:=⟨some 32,Op.move (Operand.tmp 6),92, "function.go:118",#[eg_ 2],some (2,false)⟩
def o67_6_5:Oper:=⟨some 33,Op.binOp Go.BinOp.gtr 92 (Operand.tmp 31) (Operand.tmp 32) 92,4, "function.go:118",#[ed_ 3,ed_ 4,eg_ 2],some (2,false)⟩
def o67_6_6:Oper:=⟨some 34,Op.pick (Operand.tmp 30) (Operand.const (Value.bool true)) (Operand.tmp 33),4, "function.go:118",#[ed_ 2,ed_ 5],none⟩
def O67_6:Array Oper:=List.toArray (o67_6_0::o67_6_1::o67_6_2::o67_6_3::o67_6_4::o67_6_5::o67_6_6::[])
theorem g67_6_0:O67_6[0]? = some o67_6_0:=rfl
theorem g67_6_1:O67_6[1]? = some o67_6_1:=rfl
theorem g67_6_2:O67_6[2]? = some o67_6_2:=rfl
theorem g67_6_3:O67_6[3]? = some o67_6_3:=rfl
theorem g67_6_4:O67_6[4]? = some o67_6_4:=rfl
theorem g67_6_5:O67_6[5]? = some o67_6_5:=rfl
theorem g67_6_6:O67_6[6]? = some o67_6_6:=rfl
def c67_16:Code:=Code.region 6 O67_6 false
def o67_7_0:Oper:=⟨some 2,Op.assign (Operand.const (Value.int IntKind.i64 0)),2, "function.go:119",#[],none⟩
def o67_7_1:Oper:=⟨some 3,Op.assign (Operand.const (Value.string { data:=#[105,110,116,95,111,118,101,114,102,108,111,119] })),9, "function.go:119",#[ec_ 0,ep_ 0],none⟩
def O67_7:Array Oper:=List.toArray (o67_7_0::o67_7_1::[])
theorem g67_7_0:O67_7[0]? = some o67_7_0:=rfl
theorem g67_7_1:O67_7[1]? = some o67_7_1:=rfl
def c67_19:Code:=Code.region 7 O67_7 false
def c67_18:Code:=Code.seq c67_19 Code.ret
def c67_17:Code:=Code.cond (Operand.tmp 34) c67_18 Code.skip
def c67_15:Code:=Code.seq c67_16 c67_17
def o67_8_0:Oper:=⟨some 35,Op.move (Operand.tmp 7),4, "function.go:121",#[],none⟩
def O67_8:Array Oper:=List.toArray (o67_8_0::[])
theorem g67_8_0:O67_8[0]? = some o67_8_0:=rfl
def c67_24:Code:=Code.region 8 O67_8 false
def o67_9_0:Oper:=⟨some 36,Op.move (Operand.tmp 5),92, "function.go:122",#[],none⟩
def o67_9_1:Oper:=⟨some 37,Op.unOp Go.UnOp.neg 92 (Operand.tmp 36),92, "function.go:122",#[ed_ 0],none⟩
def o67_9_2:Oper:=⟨some 38,Op.convert 92 2 (Operand.tmp 37),2, "function.go:122",#[ed_ 1],none⟩
def o67_9_3:Oper:=⟨some 2,Op.assign (Operand.tmp 38),2, "function.go:122",#[ed_ 2,ep_ 0,ep_ 1,ep_ 2],none⟩
def o67_9_4:Oper:=⟨some 3,Op.assign (Operand.const (Value.string { data:=#[] })),9, "function.go:122",#[ec_ 3,ep_ 0,ep_ 1,ep_ 2,ep_ 3],none⟩
def O67_9:Array Oper:=List.toArray (o67_9_0::o67_9_1::o67_9_2::o67_9_3::o67_9_4::[])
theorem g67_9_0:O67_9[0]? = some o67_9_0:=rfl
theorem g67_9_1:O67_9[1]? = some o67_9_1:=rfl
theorem g67_9_2:O67_9[2]? = some o67_9_2:=rfl
theorem g67_9_3:O67_9[3]? = some o67_9_3:=rfl
theorem g67_9_4:O67_9[4]? = some o67_9_4:=rfl
def c67_27:Code:=Code.region 9 O67_9 false
def c67_26:Code:=Code.seq c67_27 Code.ret
def c67_25:Code:=Code.cond (Operand.tmp 35) c67_26 Code.skip
def c67_23:Code:=Code.seq c67_24 c67_25
def o67_10_0:Oper:=⟨some 39,Op.move (Operand.tmp 5),92, "function.go:124",#[],none⟩
def o67_10_1:Oper:=⟨some 40,Op.convert 92 2 (Operand.tmp 39),2, "function.go:124",#[ed_ 0],none⟩
def o67_10_2:Oper:=⟨some 2,Op.assign (Operand.tmp 40),2, "function.go:124",#[ed_ 1,ep_ 0,ep_ 1],none⟩
def o67_10_3:Oper:=⟨some 3,Op.assign (Operand.const (Value.string { data:=#[] })),9, "function.go:124",#[ec_ 2,ep_ 0,ep_ 1,ep_ 2],none⟩
def O67_10:Array Oper:=List.toArray (o67_10_0::o67_10_1::o67_10_2::o67_10_3::[])
theorem g67_10_0:O67_10[0]? = some o67_10_0:=rfl
theorem g67_10_1:O67_10[1]? = some o67_10_1:=rfl
theorem g67_10_2:O67_10[2]? = some o67_10_2:=rfl
theorem g67_10_3:O67_10[3]? = some o67_10_3:=rfl
def c67_31:Code:=Code.region 10 O67_10 false
def c67_30:Code:=Code.seq c67_31 Code.ret
def c67_22:Code:=Code.seq c67_23 c67_30
def c67_14:Code:=Code.seq c67_15 c67_22
def c67_8:Code:=Code.seq c67_9 c67_14
def c67_6:Code:=Code.seq c67_7 c67_8
def c67_4:Code:=Code.seq c67_5 c67_6
def c67_2:Code:=Code.seq c67_3 c67_4
def c67_0:Code:=Code.seq c67_1 c67_2
theorem en67_77:Enters Try.prog 77:=enters_of Try.func77 (by kernel_rfl) rfl
theorem en67_78:Enters Try.prog 78:=enters_of Try.func78 (by kernel_rfl) rfl
theorem body67:Try.f67.body=some c67_0:=by kernel_rfl
set_option maxRecDepth 100000 in
set_option maxHeartbeats 4000000 in
theorem mul_w {W:World} {a b x y hi lo p:Int} {f0:Act} {w0:World} (R:FrS 41 f0) (h0:f0.tmps[0]? = some (.agg #[.int .i64 a,.int .i64 b])) (K1:Keep (fun g=>g < W.heap.size) W w0)  (HP:Hid (0 ≤ lo∧lo < 18446744073709551616∧0 ≤ hi∧hi * 18446744073709551616 + lo=p∧((a < 0↔b < 0)→a * b=p)∧(¬ (a < 0↔b < 0)→a * b=-p))) (HUA:Hid (∀ w,Calls Try.prog 78 #[.int .i64 a] w fun e w'=>e=.returned (.int .u64 x)∧Keep (fun g=>g < w.heap.size) w w')) (HUB:Hid (∀ w,Calls Try.prog 78 #[.int .i64 b] w fun e w'=>e=.returned (.int .u64 y)∧Keep (fun g=>g < w.heap.size) w w')) (HM:Hid (∀ w,Calls Try.prog 77 #[.int .u64 x,.int .u64 y] w fun e w'=>e=.returned (.tuple #[.int .u64 hi,.int .u64 lo])∧Keep (fun g=>g < w.heap.size) w w')):c67_0.wp Try.prog (bodyPost Try.prog Try.f67 (fun e w'=>e=.returned (.tuple #[.int .i64 (big (a * b)).1,.string (str (big (a * b)).2)])∧Keep (fun g=>g < W.heap.size) W w')) f0 w0:=by
 refine wp_seq (x:=c67_1) (y:=c67_2) ?_
 change (Code.region 0 O67_0 false).wp _ _ _ _
 refine reg_in (l:=[0,1,2]) rfl ?_
 have F:=fe_ R;clear R
 have Y:(execOp f0.eval o67_0_0).run Try.prog w0=.ok (.value (.pointer (some ⟨w0.heap.size,0,none⟩))) (w0.alloc (.cells #[.int .i64 a,.int .i64 b] 60)):=by have r0:=F.of h0;unfold o67_0_0;go_simp
 have B1:=Blk.new w0 60 #[.int .i64 a,.int .i64 b]
 obtain ⟨w2,hw⟩:∃ x,x=w0.alloc (.cells #[.int .i64 a,.int .i64 b] 60):=⟨_,rfl⟩;rw [← hw] at Y B1
 obtain ⟨b1,hb⟩:∃ x,x=w0.heap.size:=⟨_,rfl⟩;rw [← hb] at Y B1
 have LK1_b1:=lk_ hb K1;replace K1:=ka_ hw K1;clear hw hb
 refine sw_ g67_0_0 Y F fun a3 F h1=>?_;clear Y
 have Y:(execOp a3.eval o67_0_1).run Try.prog w2=.ok (.value (.int .i64 0)) w2:=by unfold o67_0_1;go_simp
 refine sv_ g67_0_1 Y fun a4 e=>?_;clear Y
 have h2:=pt_ F e;replace F:=pu_ F e;replace h1:=so_ e h1;clear e
 have Y:(execOp a4.eval o67_0_2).run Try.prog w2=.ok (.value (.string (⟨#[]⟩))) w2:=by unfold o67_0_2;go_simp
 refine sv_ g67_0_2 Y fun a5 e=>?_;clear Y
 have h3:=pt_ F e;replace F:=pu_ F e;replace h1:=so_ e h1;replace h2:=so_ e h2;clear e
 refine st_end ?_
 clear h0;have R:=F.r;clear F
 change (c67_2).wp _ _ _ _
 refine wp_seq (x:=c67_3) (y:=c67_4) ?_
 change (Code.region 1 O67_1 true).wp _ _ _ _
 have D8:=B1
 have K6:=(Keep.refl (fun g=>g < w2.heap.size) w2).drew
 have EK1:=K1
 refine dr_in (S:=(fun W=>Keep (fun g=>g < w2.heap.size) w2 W)) (n:=12) (l:=lb_ 12 0) (by kernel_rfl) K6 rfl (by kernel_rfl) ?_
 replace K1:=K1.drew
 replace B1:=B1.drew
 generalize w2.drew=w7 at K6 K1 B1 ⊢
 have F:=fe_ R;clear R
 have Y:∀ W,Keep (fun g=>g < w2.heap.size) w2 W→(execOp a5.eval o67_1_0).run Try.prog W=.ok (.value (.pointer (some ⟨b1,0,none⟩))) W:=by intro W7 hS;have r1:=F.of h1;unfold o67_1_0;go_simp
 refine dt_ (i:=0) (l':=(lb_ 12 1)) g67_1_0 rfl ns67_1 (wanted_free rfl) K6 Y fun a9 e=>?_;clear Y
 have h9:=pt_ F e;replace F:=pu_ F e;clear e
 have Y:∀ W,Keep (fun g=>g < w2.heap.size) w2 W→(execOp a9.eval o67_1_1).run Try.prog W=.ok (.value (.int .i64 a)) W:=by intro W7 hS;have D:=D8.keep hS D8.lt;have qq0:W7.cell? ⟨b1,0,none⟩=some (.int .i64 a):=D.cell 0;have qq1:W7.cell? ⟨b1,1,none⟩=some (.int .i64 b):=D.cell 1;unfold o67_1_1;go_simp
 refine dt_ (i:=1) (l':=(lb_ 12 3)) g67_1_1 rfl ns67_1 (wanted_free rfl) K6 Y fun a10 e=>?_;clear Y
 clear h9;have h10:=pt_ F e;replace F:=pu_ F e;clear e
 have Y:∀ W,Keep (fun g=>g < w2.heap.size) w2 W→(execOp a10.eval o67_1_3).run Try.prog W=.ok (.value (.pointer (some ⟨b1,1,none⟩))) W:=by intro W7 hS;have r1:=F.of h1;unfold o67_1_3;go_simp
 refine dt_ (i:=3) (l':=(lb_ 12 11)) g67_1_3 rfl ns67_1 (wanted_free rfl) K6 Y fun a11 e=>?_;clear Y
 have h12:=pt_ F e;replace F:=pu_ F e;replace h10:=so_ e h10;clear e
 have Y:∀ W,Keep (fun g=>g < w2.heap.size) w2 W→(execOp a11.eval o67_1_4).run Try.prog W=.ok (.value (.int .i64 b)) W:=by intro W7 hS;have D:=D8.keep hS D8.lt;have qq0:W7.cell? ⟨b1,0,none⟩=some (.int .i64 a):=D.cell 0;have qq1:W7.cell? ⟨b1,1,none⟩=some (.int .i64 b):=D.cell 1;unfold o67_1_4;go_simp
 refine dt_ (i:=4) (l':=(lb_ 12 27)) g67_1_4 rfl ns67_1 (wanted_free rfl) K6 Y fun a12 e=>?_;clear Y
 clear h12;have h13:=pt_ F e;replace F:=pu_ F e;replace h10:=so_ e h10;clear e
 refine dr_only (i:=2) (fuel:=7) (by kernel_rfl) ?_
 refine dr_call (l':=(lb_ 12 31)) g67_1_2 rfl (by kernel_rfl) (wanted_free rfl) (yc1_ en67_78 rfl h10) ((HUA.out _).mono ?_)
 rintro e9 w13 ⟨rfl,kk⟩
 replace K1:=keep_onto K1 kk
 replace K6:=keep_onto K6 kk
 replace B1:=blk_on B1 kk
 clear kk
 refine ⟨_,rfl,K6,fun a14 e=>?_⟩
 clear h10;have h11:=pt_ F e;replace F:=pu_ F e;replace h13:=so_ e h13;clear e
 refine dr_only (i:=5) (fuel:=6) (by kernel_rfl) ?_
 refine dr_call (l':=(lb_ 12 63)) g67_1_5 rfl (by kernel_rfl) (wanted_free rfl) (yc1_ en67_78 rfl h13) ((HUB.out _).mono ?_)
 rintro e9 w15 ⟨rfl,kk⟩
 replace K1:=keep_onto K1 kk
 replace K6:=keep_onto K6 kk
 replace B1:=blk_on B1 kk
 clear kk
 refine ⟨_,rfl,K6,fun a16 e=>?_⟩
 clear h13;have h14:=pt_ F e;replace F:=pu_ F e;replace h11:=so_ e h11;clear e
 refine dr_only (i:=6) (fuel:=5) (by kernel_rfl) ?_
 refine dr_call (l':=(lb_ 12 127)) g67_1_6 rfl (by kernel_rfl) (wanted_free rfl) (yc2_ en67_77 rfl h11 h14) ((HM.out _).mono ?_)
 rintro e9 w17 ⟨rfl,kk⟩
 replace K1:=keep_onto K1 kk
 replace K6:=keep_onto K6 kk
 replace B1:=blk_on B1 kk
 clear kk
 refine ⟨_,rfl,K6,fun a18 e=>?_⟩
 clear h11 h14;have h15:=pt_ F e;replace F:=pu_ F e;clear e
 refine dt_ (i:=7) (l':=(lb_ 12 255)) g67_1_7 rfl ns67_1 (wanted_free rfl) K6 (fun _ _=>(ym_ rfl h15)) fun a19 e=>?_
 clear h15;have h8:=pt_ F e;replace F:=pu_ F e;clear e
 refine dt_ (i:=8) (l':=(lb_ 12 511)) g67_1_8 rfl ns67_1 (wanted_free rfl) K6 (fun _ _=>(ye20_ rfl h8)) fun a20 e=>?_
 have h16:=pt_ F e;replace F:=pu_ F e;replace h8:=so_ e h8;clear e
 refine dt_ (i:=9) (l':=(lb_ 12 1023)) g67_1_9 rfl ns67_1 (wanted_free rfl) K6 (fun _ _=>(ye21_ rfl h8)) fun a21 e=>?_
 clear h8;have h17:=pt_ F e;replace F:=pu_ F e;replace h16:=so_ e h16;clear e
 refine dt_ (i:=10) (l':=(lb_ 12 2047)) g67_1_10 rfl ns67_1 (wanted_free rfl) K6 (fun _ _=>(ya_ rfl h16)) fun a22 e=>?_
 clear h16;have h4:=pt_ F e;replace F:=pu_ F e;replace h17:=so_ e h17;clear e
 refine dt_ (i:=11) (l':=(lb_ 12 4095)) g67_1_11 rfl ns67_1 (wanted_free rfl) K6 (fun _ _=>(ya_ rfl h17)) fun a23 e=>?_
 clear h17;have h5:=pt_ F e;replace F:=pu_ F e;replace h4:=so_ e h4;clear e
 refine dr_end (by kernel_rfl) ?_
 replace h1:=F.of h1;replace h2:=F.of h2;replace h3:=F.of h3;have R:=F.r;clear F
 clear K6 EK1 D8
 change (c67_4).wp _ _ _ _
 refine wp_seq (x:=c67_5) (y:=c67_6) ?_
 change (Code.region 2 O67_2 false).wp _ _ _ _
 refine reg_in (l:=[0]) rfl ?_
 have F:=fe_ R;clear R
 have Y:(execOp a23.eval o67_2_0).run Try.prog w17=.ok (.value (.int .u64 9223372036854775807)) w17:=by unfold o67_2_0;go_simp
 refine sw_ g67_2_0 Y F fun a24 F h6=>?_;clear Y
 refine st_end ?_
 replace h1:=F.of h1;replace h2:=F.of h2;replace h3:=F.of h3;replace h4:=F.of h4;replace h5:=F.of h5;have R:=F.r;clear F
 change (c67_6).wp _ _ _ _
 refine wp_seq (x:=c67_7) (y:=c67_8) ?_
 change (Code.region 3 O67_3 false).wp _ _ _ _
 refine reg_in (l:=[0,1,2,3,4,5,6,7]) rfl ?_
 have F:=fe_ R;clear R
 have Y:(execOp a24.eval o67_3_0).run Try.prog w17=.ok (.value (.pointer (some ⟨b1,0,none⟩))) w17:=by have r1:=F.of h1;unfold o67_3_0;go_simp
 refine sw_ g67_3_0 Y F fun a25 F h18=>?_;clear Y
 have Y:(execOp a25.eval o67_3_1).run Try.prog w17=.ok (.value (.int .i64 a)) w17:=by have qq0:w17.cell? ⟨b1,0,none⟩=some (.int .i64 a):=B1.cell 0;have qq1:w17.cell? ⟨b1,1,none⟩=some (.int .i64 b):=B1.cell 1;unfold o67_3_1;go_simp
 refine sw_ g67_3_1 Y F fun a26 F h19=>?_;clear Y h18
 obtain ⟨b27,hb27⟩:∃ x,(decide ((a:Int) < (0:Int)))=x:=⟨_,rfl⟩
 have Y:(execOp a26.eval o67_3_2).run Try.prog w17=.ok (.value (.bool b27)) w17:=by rw [← hb27];unfold o67_3_2;go_simp
 refine sw_ g67_3_2 Y F fun a28 F h20=>?_;clear Y h19
 have Y:(execOp a28.eval o67_3_3).run Try.prog w17=.ok (.value (.pointer (some ⟨b1,1,none⟩))) w17:=by have r1:=F.of h1;unfold o67_3_3;go_simp
 refine sv_ g67_3_3 Y fun a29 e=>?_;clear Y
 have h21:=pt_ F e;replace F:=pu_ F e;replace h20:=so_ e h20;clear e
 have Y:(execOp a29.eval o67_3_4).run Try.prog w17=.ok (.value (.int .i64 b)) w17:=by have qq0:w17.cell? ⟨b1,0,none⟩=some (.int .i64 a):=B1.cell 0;have qq1:w17.cell? ⟨b1,1,none⟩=some (.int .i64 b):=B1.cell 1;unfold o67_3_4;go_simp
 refine sv_ g67_3_4 Y fun a30 e=>?_;clear Y
 clear h21;have h22:=pt_ F e;replace F:=pu_ F e;replace h20:=so_ e h20;clear e
 obtain ⟨b31,hb31⟩:∃ x,(decide ((b:Int) < (0:Int)))=x:=⟨_,rfl⟩
 have Y:(execOp a30.eval o67_3_5).run Try.prog w17=.ok (.value (.bool b31)) w17:=by rw [← hb31];unfold o67_3_5;go_simp
 refine sv_ g67_3_5 Y fun a32 e=>?_;clear Y
 clear h22;have h23:=pt_ F e;replace F:=pu_ F e;replace h20:=so_ e h20;clear e
 cases b27 with
 | false =>
  have fb27:=hb27;clear hb27
  simp only [dd_] at fb27
  cases b31 with
  | false =>
   have fb31:=hb31;clear hb31
   simp only [dd_] at fb31
   have Y:(execOp a32.eval o67_3_6).run Try.prog w17=.ok (.value (.bool false)) w17:=by unfold o67_3_6;go_simp
   refine sw_ g67_3_6 Y F fun a33 F h24=>?_;clear Y h20 h23
   refine sv_ g67_3_7 (ya_ rfl h24) fun a34 e=>?_
   clear h24;have h7:=pt_ F e;replace F:=pu_ F e;clear e
   refine st_end ?_
   clear h1;replace h2:=F.of h2;replace h3:=F.of h3;replace h4:=F.of h4;replace h5:=F.of h5;replace h6:=F.of h6;have R:=F.r;clear F
   change (c67_8).wp _ _ _ _
   refine wp_seq (x:=c67_9) (y:=c67_14) ?_
   refine wp_seq (x:=c67_10) (y:=c67_11) ?_
   change (Code.region 4 O67_4 false).wp _ _ _ _
   refine reg_in (l:=[0]) rfl ?_
   have F:=fe_ R;clear R
   refine sw_ g67_4_0 (ym_ rfl (F.of h7)) F fun a35 F h25=>?_
   refine st_end ?_
   replace h2:=F.of h2;replace h3:=F.of h3;replace h4:=F.of h4;replace h5:=F.of h5;replace h6:=F.of h6;replace h7:=F.of h7;have R:=F.r;clear F
   change (c67_11).wp _ _ _ _
   refine wp_cond_false (x:=c67_12) (y:=Code.skip) (eval_slot h25) ?_
   refine wp_skip ?_
   change (c67_14).wp _ _ _ _
   refine wp_seq (x:=c67_15) (y:=c67_22) ?_
   refine wp_seq (x:=c67_16) (y:=c67_17) ?_
   change (Code.region 6 O67_6 false).wp _ _ _ _
   refine reg_in (l:=[0,1,2,3,4,5,6]) rfl ?_
   have F:=fe_ R;clear R
   refine sw_ g67_6_0 (ym_ rfl (F.of h4)) F fun a36 F h28=>?_
   obtain ⟨b37,hb37⟩:∃ x,(decide ((0:Int) < (hi:Int)))=x:=⟨_,rfl⟩
   have Y:(execOp a36.eval o67_6_1).run Try.prog w17=.ok (.value (.bool b37)) w17:=by rw [← hb37];unfold o67_6_1;go_simp
   refine sw_ g67_6_1 Y F fun a38 F h29=>?_;clear Y h28
   refine sv_ g67_6_2 (ym_ rfl h29) fun a39 e=>?_
   clear h29;have h30:=pt_ F e;replace F:=pu_ F e;clear e
   cases b37 with
   | false =>
    have fb37:=hb37;clear hb37
    simp only [dd_] at fb37
    refine st_val g67_6_3 rfl (wanted_is (j:=2) (d:=30) rfl rfl h30 rfl) (ym_ rfl (F.of h5)) fun a40 e=>?_
    have h31:=pt_ F e;replace F:=pu_ F e;replace h30:=so_ e h30;clear e
    refine st_val g67_6_4 rfl (wanted_is (j:=2) (d:=30) rfl rfl h30 rfl) (ym_ rfl (F.of h6)) fun a41 e=>?_
    have h32:=pt_ F e;replace F:=pu_ F e;replace h30:=so_ e h30;replace h31:=so_ e h31;clear e
    obtain ⟨b42,hb42⟩:∃ x,(decide ((9223372036854775807:Int) < (lo:Int)))=x:=⟨_,rfl⟩
    have Y:(execOp a41.eval o67_6_5).run Try.prog w17=.ok (.value (.bool b42)) w17:=by rw [← hb42];unfold o67_6_5;go_simp
    refine st_val g67_6_5 rfl (wanted_is (j:=2) (d:=30) rfl rfl h30 rfl) Y fun a43 e=>?_;clear Y
    clear h31 h32;have h33:=pt_ F e;replace F:=pu_ F e;replace h30:=so_ e h30;clear e
    have Y:(execOp a43.eval o67_6_6).run Try.prog w17=.ok (.value (.bool b42)) w17:=by unfold o67_6_6;go_simp
    refine sw_ g67_6_6 Y F fun a44 F h34=>?_;clear Y h30 h33
    refine st_end ?_
    replace h2:=F.of h2;replace h3:=F.of h3;clear h4;replace h5:=F.of h5;clear h6;replace h7:=F.of h7;clear h25;have R:=F.r;clear F
    change (c67_17).wp _ _ _ _
    cases b42 with
    | false =>
     have fb42:=hb42;clear hb42
     simp only [dd_] at fb42
     refine wp_cond_false (x:=c67_18) (y:=Code.skip) (eval_slot h34) ?_
     refine wp_skip ?_
     change (c67_22).wp _ _ _ _
     refine wp_seq (x:=c67_23) (y:=c67_30) ?_
     refine wp_seq (x:=c67_24) (y:=c67_25) ?_
     change (Code.region 8 O67_8 false).wp _ _ _ _
     refine reg_in (l:=[0]) rfl ?_
     have F:=fe_ R;clear R
     refine sw_ g67_8_0 (ym_ rfl (F.of h7)) F fun a45 F h35=>?_
     refine st_end ?_
     replace h2:=F.of h2;replace h3:=F.of h3;replace h5:=F.of h5;clear h7;clear h34;have R:=F.r;clear F
     change (c67_25).wp _ _ _ _
     refine wp_cond_false (x:=c67_26) (y:=Code.skip) (eval_slot h35) ?_
     refine wp_skip ?_
     change (c67_30).wp _ _ _ _
     refine wp_seq (x:=c67_31) (y:=Code.ret) ?_
     change (Code.region 10 O67_10 false).wp _ _ _ _
     refine reg_in (l:=[0,1,2,3]) rfl ?_
     have F:=fe_ R;clear R
     refine sw_ g67_10_0 (ym_ rfl (F.of h5)) F fun a46 F h39=>?_
     have Y:(execOp a46.eval o67_10_1).run Try.prog w17=.ok (.value (.int .i64 (IntKind.i64.wrap lo))) w17:=by unfold o67_10_1;go_simp
     refine sw_ g67_10_1 Y F fun a47 F h40=>?_;clear Y h39
     refine sv_ g67_10_2 (ya_ rfl h40) fun a48 e=>?_
     clear h40 h2;have h2:=pt_ F e;replace F:=pu_ F e;clear e
     have Y:(execOp a48.eval o67_10_3).run Try.prog w17=.ok (.value (.string (⟨#[]⟩))) w17:=by unfold o67_10_3;go_simp
     refine sv_ g67_10_3 Y fun a49 e=>?_;clear Y
     clear h3;have h3:=pt_ F e;replace F:=pu_ F e;replace h2:=so_ e h2;clear e
     refine st_end ?_
     clear h5;clear h35;have R:=F.r;clear F
     change (Code.ret).wp _ _ _ _
     refine wp_ret ?_
     change bodyPost Try.prog Try.f67 (fun e w'=>e=.returned (.tuple #[.int .i64 (big (a * b)).1,.string (str (big (a * b)).2)])∧Keep (fun g=>g < W.heap.size) W w') .ret a49 w17
     refine ret_el2 rfl R.defers h2 h3 ?_
     obtain ⟨hp1,hp2,hp3,hp4,hp5,hp6⟩:=HP.out
     exact ⟨by rw [big_is (z:=a * b) (v:=IntKind.i64.wrap lo) (by simp only [IntKind.wrap_i64,IntKind.wrap_u64];generalize a * b=q9 at *;omega) (by unfold inR;generalize a * b=q9 at *;omega)];rfl,K1⟩
    | true =>
     have fb42:=hb42;clear hb42
     simp only [dd_] at fb42
     refine wp_cond_true (x:=c67_18) (y:=Code.skip) (eval_slot h34) ?_
     refine wp_seq (x:=c67_19) (y:=Code.ret) ?_
     change (Code.region 7 O67_7 false).wp _ _ _ _
     refine reg_in (l:=[0,1]) rfl ?_
     have F:=fe_ R;clear R
     have Y:(execOp a44.eval o67_7_0).run Try.prog w17=.ok (.value (.int .i64 0)) w17:=by unfold o67_7_0;go_simp
     refine sw_ g67_7_0 Y F fun a50 F h2=>?_;clear Y
     have Y:(execOp a50.eval o67_7_1).run Try.prog w17=.ok (.value (.string (⟨#[105,110,116,95,111,118,101,114,102,108,111,119]⟩))) w17:=by unfold o67_7_1;go_simp
     refine sv_ g67_7_1 Y fun a51 e=>?_;clear Y
     clear h3;have h3:=pt_ F e;replace F:=pu_ F e;replace h2:=so_ e h2;clear e
     refine st_end ?_
     replace h5:=F.of h5;replace h7:=F.of h7;clear h34;have R:=F.r;clear F
     change (Code.ret).wp _ _ _ _
     refine wp_ret ?_
     change bodyPost Try.prog Try.f67 (fun e w'=>e=.returned (.tuple #[.int .i64 (big (a * b)).1,.string (str (big (a * b)).2)])∧Keep (fun g=>g < W.heap.size) W w') .ret a51 w17
     refine ret_el2 rfl R.defers h2 h3 ?_
     obtain ⟨hp1,hp2,hp3,hp4,hp5,hp6⟩:=HP.out
     exact ⟨by rw [big_not (z:=a * b) (by unfold inR;generalize a * b=q9 at *;omega)];rfl,K1⟩
   | true =>
    have fb37:=hb37;clear hb37
    simp only [dd_] at fb37
    refine st_not g67_6_3 rfl (wanted_is (j:=2) (d:=30) rfl rfl h30 rfl) fun a52 e=>?_
    have h31:=pt_ F e;replace F:=pu_ F e;replace h30:=so_ e h30;clear e
    refine st_not g67_6_4 rfl (wanted_is (j:=2) (d:=30) rfl rfl h30 rfl) fun a53 e=>?_
    have h32:=pt_ F e;replace F:=pu_ F e;replace h30:=so_ e h30;replace h31:=so_ e h31;clear e
    refine st_not g67_6_5 rfl (wanted_is (j:=2) (d:=30) rfl rfl h30 rfl) fun a54 e=>?_
    clear h31 h32;have h33:=pt_ F e;replace F:=pu_ F e;replace h30:=so_ e h30;clear e
    have Y:(execOp a54.eval o67_6_6).run Try.prog w17=.ok (.value (.bool true)) w17:=by unfold o67_6_6;go_simp
    refine sw_ g67_6_6 Y F fun a55 F h34=>?_;clear Y h30 h33
    refine st_end ?_
    replace h2:=F.of h2;replace h3:=F.of h3;clear h4;replace h5:=F.of h5;clear h6;replace h7:=F.of h7;clear h25;have R:=F.r;clear F
    change (c67_17).wp _ _ _ _
    refine wp_cond_true (x:=c67_18) (y:=Code.skip) (eval_slot h34) ?_
    refine wp_seq (x:=c67_19) (y:=Code.ret) ?_
    change (Code.region 7 O67_7 false).wp _ _ _ _
    refine reg_in (l:=[0,1]) rfl ?_
    have F:=fe_ R;clear R
    have Y:(execOp a55.eval o67_7_0).run Try.prog w17=.ok (.value (.int .i64 0)) w17:=by unfold o67_7_0;go_simp
    refine sw_ g67_7_0 Y F fun a56 F h2=>?_;clear Y
    have Y:(execOp a56.eval o67_7_1).run Try.prog w17=.ok (.value (.string (⟨#[105,110,116,95,111,118,101,114,102,108,111,119]⟩))) w17:=by unfold o67_7_1;go_simp
    refine sv_ g67_7_1 Y fun a57 e=>?_;clear Y
    clear h3;have h3:=pt_ F e;replace F:=pu_ F e;replace h2:=so_ e h2;clear e
    refine st_end ?_
    replace h5:=F.of h5;replace h7:=F.of h7;clear h34;have R:=F.r;clear F
    change (Code.ret).wp _ _ _ _
    refine wp_ret ?_
    change bodyPost Try.prog Try.f67 (fun e w'=>e=.returned (.tuple #[.int .i64 (big (a * b)).1,.string (str (big (a * b)).2)])∧Keep (fun g=>g < W.heap.size) W w') .ret a57 w17
    refine ret_el2 rfl R.defers h2 h3 ?_
    obtain ⟨hp1,hp2,hp3,hp4,hp5,hp6⟩:=HP.out
    exact ⟨by rw [big_not (z:=a * b) (by unfold inR;generalize a * b=q9 at *;omega)];rfl,K1⟩
  | true =>
   have fb31:=hb31;clear hb31
   simp only [dd_] at fb31
   have Y:(execOp a32.eval o67_3_6).run Try.prog w17=.ok (.value (.bool true)) w17:=by unfold o67_3_6;go_simp
   refine sw_ g67_3_6 Y F fun a58 F h24=>?_;clear Y h20 h23
   refine sv_ g67_3_7 (ya_ rfl h24) fun a59 e=>?_
   clear h24;have h7:=pt_ F e;replace F:=pu_ F e;clear e
   refine st_end ?_
   clear h1;replace h2:=F.of h2;replace h3:=F.of h3;replace h4:=F.of h4;replace h5:=F.of h5;replace h6:=F.of h6;have R:=F.r;clear F
   change (c67_8).wp _ _ _ _
   refine wp_seq (x:=c67_9) (y:=c67_14) ?_
   refine wp_seq (x:=c67_10) (y:=c67_11) ?_
   change (Code.region 4 O67_4 false).wp _ _ _ _
   refine reg_in (l:=[0]) rfl ?_
   have F:=fe_ R;clear R
   refine sw_ g67_4_0 (ym_ rfl (F.of h7)) F fun a60 F h25=>?_
   refine st_end ?_
   replace h2:=F.of h2;replace h3:=F.of h3;replace h4:=F.of h4;replace h5:=F.of h5;replace h6:=F.of h6;replace h7:=F.of h7;have R:=F.r;clear F
   change (c67_11).wp _ _ _ _
   refine wp_cond_true (x:=c67_12) (y:=Code.skip) (eval_slot h25) ?_
   change (Code.region 5 O67_5 false).wp _ _ _ _
   refine reg_in (l:=[0,1,2]) rfl ?_
   have F:=fe_ R;clear R
   refine sw_ g67_5_0 (ym_ rfl (F.of h6)) F fun a61 F h26=>?_
   have Y:(execOp a61.eval o67_5_1).run Try.prog w17=.ok (.value (.int .u64 9223372036854775808)) w17:=by have hwr:IntKind.u64.wrap (9223372036854775808)=(9223372036854775808):=(by decide);unfold o67_5_1;go_simp
   refine sw_ g67_5_1 Y F fun a62 F h27=>?_;clear Y h26
   refine sv_ g67_5_2 (ya_ rfl h27) fun a63 e=>?_
   clear h27 h6;have h6:=pt_ F e;replace F:=pu_ F e;clear e
   refine st_end ?_
   replace h2:=F.of h2;replace h3:=F.of h3;replace h4:=F.of h4;replace h5:=F.of h5;replace h7:=F.of h7;clear h25;have R:=F.r;clear F
   change (c67_14).wp _ _ _ _
   refine wp_seq (x:=c67_15) (y:=c67_22) ?_
   refine wp_seq (x:=c67_16) (y:=c67_17) ?_
   change (Code.region 6 O67_6 false).wp _ _ _ _
   refine reg_in (l:=[0,1,2,3,4,5,6]) rfl ?_
   have F:=fe_ R;clear R
   refine sw_ g67_6_0 (ym_ rfl (F.of h4)) F fun a64 F h28=>?_
   obtain ⟨b65,hb65⟩:∃ x,(decide ((0:Int) < (hi:Int)))=x:=⟨_,rfl⟩
   have Y:(execOp a64.eval o67_6_1).run Try.prog w17=.ok (.value (.bool b65)) w17:=by rw [← hb65];unfold o67_6_1;go_simp
   refine sw_ g67_6_1 Y F fun a66 F h29=>?_;clear Y h28
   refine sv_ g67_6_2 (ym_ rfl h29) fun a67 e=>?_
   clear h29;have h30:=pt_ F e;replace F:=pu_ F e;clear e
   cases b65 with
   | false =>
    have fb65:=hb65;clear hb65
    simp only [dd_] at fb65
    refine st_val g67_6_3 rfl (wanted_is (j:=2) (d:=30) rfl rfl h30 rfl) (ym_ rfl (F.of h5)) fun a68 e=>?_
    have h31:=pt_ F e;replace F:=pu_ F e;replace h30:=so_ e h30;clear e
    refine st_val g67_6_4 rfl (wanted_is (j:=2) (d:=30) rfl rfl h30 rfl) (ym_ rfl (F.of h6)) fun a69 e=>?_
    have h32:=pt_ F e;replace F:=pu_ F e;replace h30:=so_ e h30;replace h31:=so_ e h31;clear e
    obtain ⟨b70,hb70⟩:∃ x,(decide ((9223372036854775808:Int) < (lo:Int)))=x:=⟨_,rfl⟩
    have Y:(execOp a69.eval o67_6_5).run Try.prog w17=.ok (.value (.bool b70)) w17:=by rw [← hb70];unfold o67_6_5;go_simp
    refine st_val g67_6_5 rfl (wanted_is (j:=2) (d:=30) rfl rfl h30 rfl) Y fun a71 e=>?_;clear Y
    clear h31 h32;have h33:=pt_ F e;replace F:=pu_ F e;replace h30:=so_ e h30;clear e
    have Y:(execOp a71.eval o67_6_6).run Try.prog w17=.ok (.value (.bool b70)) w17:=by unfold o67_6_6;go_simp
    refine sw_ g67_6_6 Y F fun a72 F h34=>?_;clear Y h30 h33
    refine st_end ?_
    replace h2:=F.of h2;replace h3:=F.of h3;clear h4;replace h5:=F.of h5;clear h6;replace h7:=F.of h7;have R:=F.r;clear F
    change (c67_17).wp _ _ _ _
    cases b70 with
    | false =>
     have fb70:=hb70;clear hb70
     simp only [dd_] at fb70
     refine wp_cond_false (x:=c67_18) (y:=Code.skip) (eval_slot h34) ?_
     refine wp_skip ?_
     change (c67_22).wp _ _ _ _
     refine wp_seq (x:=c67_23) (y:=c67_30) ?_
     refine wp_seq (x:=c67_24) (y:=c67_25) ?_
     change (Code.region 8 O67_8 false).wp _ _ _ _
     refine reg_in (l:=[0]) rfl ?_
     have F:=fe_ R;clear R
     refine sw_ g67_8_0 (ym_ rfl (F.of h7)) F fun a73 F h35=>?_
     refine st_end ?_
     replace h2:=F.of h2;replace h3:=F.of h3;replace h5:=F.of h5;clear h7;clear h34;have R:=F.r;clear F
     change (c67_25).wp _ _ _ _
     refine wp_cond_true (x:=c67_26) (y:=Code.skip) (eval_slot h35) ?_
     refine wp_seq (x:=c67_27) (y:=Code.ret) ?_
     change (Code.region 9 O67_9 false).wp _ _ _ _
     refine reg_in (l:=[0,1,2,3,4]) rfl ?_
     have F:=fe_ R;clear R
     refine sw_ g67_9_0 (ym_ rfl (F.of h5)) F fun a74 F h36=>?_
     have Y:(execOp a74.eval o67_9_1).run Try.prog w17=.ok (.value (.int .u64 (IntKind.u64.wrap (-lo)))) w17:=by unfold o67_9_1;go_simp
     refine sw_ g67_9_1 Y F fun a75 F h37=>?_;clear Y h36
     have Y:(execOp a75.eval o67_9_2).run Try.prog w17=.ok (.value (.int .i64 (IntKind.i64.wrap (IntKind.u64.wrap (-lo))))) w17:=by unfold o67_9_2;go_simp
     refine sw_ g67_9_2 Y F fun a76 F h38=>?_;clear Y h37
     refine sv_ g67_9_3 (ya_ rfl h38) fun a77 e=>?_
     clear h38 h2;have h2:=pt_ F e;replace F:=pu_ F e;clear e
     have Y:(execOp a77.eval o67_9_4).run Try.prog w17=.ok (.value (.string (⟨#[]⟩))) w17:=by unfold o67_9_4;go_simp
     refine sv_ g67_9_4 Y fun a78 e=>?_;clear Y
     clear h3;have h3:=pt_ F e;replace F:=pu_ F e;replace h2:=so_ e h2;clear e
     refine st_end ?_
     replace h5:=F.of h5;clear h35;have R:=F.r;clear F
     change (Code.ret).wp _ _ _ _
     refine wp_ret ?_
     change bodyPost Try.prog Try.f67 (fun e w'=>e=.returned (.tuple #[.int .i64 (big (a * b)).1,.string (str (big (a * b)).2)])∧Keep (fun g=>g < W.heap.size) W w') .ret a78 w17
     refine ret_el2 rfl R.defers h2 h3 ?_
     obtain ⟨hp1,hp2,hp3,hp4,hp5,hp6⟩:=HP.out
     exact ⟨by rw [big_is (z:=a * b) (v:=IntKind.i64.wrap (IntKind.u64.wrap (-lo))) (by simp only [IntKind.wrap_i64,IntKind.wrap_u64];generalize a * b=q9 at *;omega) (by unfold inR;generalize a * b=q9 at *;omega)];rfl,K1⟩
    | true =>
     have fb70:=hb70;clear hb70
     simp only [dd_] at fb70
     refine wp_cond_true (x:=c67_18) (y:=Code.skip) (eval_slot h34) ?_
     refine wp_seq (x:=c67_19) (y:=Code.ret) ?_
     change (Code.region 7 O67_7 false).wp _ _ _ _
     refine reg_in (l:=[0,1]) rfl ?_
     have F:=fe_ R;clear R
     have Y:(execOp a72.eval o67_7_0).run Try.prog w17=.ok (.value (.int .i64 0)) w17:=by unfold o67_7_0;go_simp
     refine sw_ g67_7_0 Y F fun a79 F h2=>?_;clear Y
     have Y:(execOp a79.eval o67_7_1).run Try.prog w17=.ok (.value (.string (⟨#[105,110,116,95,111,118,101,114,102,108,111,119]⟩))) w17:=by unfold o67_7_1;go_simp
     refine sv_ g67_7_1 Y fun a80 e=>?_;clear Y
     clear h3;have h3:=pt_ F e;replace F:=pu_ F e;replace h2:=so_ e h2;clear e
     refine st_end ?_
     replace h5:=F.of h5;replace h7:=F.of h7;clear h34;have R:=F.r;clear F
     change (Code.ret).wp _ _ _ _
     refine wp_ret ?_
     change bodyPost Try.prog Try.f67 (fun e w'=>e=.returned (.tuple #[.int .i64 (big (a * b)).1,.string (str (big (a * b)).2)])∧Keep (fun g=>g < W.heap.size) W w') .ret a80 w17
     refine ret_el2 rfl R.defers h2 h3 ?_
     obtain ⟨hp1,hp2,hp3,hp4,hp5,hp6⟩:=HP.out
     exact ⟨by rw [big_not (z:=a * b) (by unfold inR;generalize a * b=q9 at *;omega)];rfl,K1⟩
   | true =>
    have fb65:=hb65;clear hb65
    simp only [dd_] at fb65
    refine st_not g67_6_3 rfl (wanted_is (j:=2) (d:=30) rfl rfl h30 rfl) fun a81 e=>?_
    have h31:=pt_ F e;replace F:=pu_ F e;replace h30:=so_ e h30;clear e
    refine st_not g67_6_4 rfl (wanted_is (j:=2) (d:=30) rfl rfl h30 rfl) fun a82 e=>?_
    have h32:=pt_ F e;replace F:=pu_ F e;replace h30:=so_ e h30;replace h31:=so_ e h31;clear e
    refine st_not g67_6_5 rfl (wanted_is (j:=2) (d:=30) rfl rfl h30 rfl) fun a83 e=>?_
    clear h31 h32;have h33:=pt_ F e;replace F:=pu_ F e;replace h30:=so_ e h30;clear e
    have Y:(execOp a83.eval o67_6_6).run Try.prog w17=.ok (.value (.bool true)) w17:=by unfold o67_6_6;go_simp
    refine sw_ g67_6_6 Y F fun a84 F h34=>?_;clear Y h30 h33
    refine st_end ?_
    replace h2:=F.of h2;replace h3:=F.of h3;clear h4;replace h5:=F.of h5;clear h6;replace h7:=F.of h7;have R:=F.r;clear F
    change (c67_17).wp _ _ _ _
    refine wp_cond_true (x:=c67_18) (y:=Code.skip) (eval_slot h34) ?_
    refine wp_seq (x:=c67_19) (y:=Code.ret) ?_
    change (Code.region 7 O67_7 false).wp _ _ _ _
    refine reg_in (l:=[0,1]) rfl ?_
    have F:=fe_ R;clear R
    have Y:(execOp a84.eval o67_7_0).run Try.prog w17=.ok (.value (.int .i64 0)) w17:=by unfold o67_7_0;go_simp
    refine sw_ g67_7_0 Y F fun a85 F h2=>?_;clear Y
    have Y:(execOp a85.eval o67_7_1).run Try.prog w17=.ok (.value (.string (⟨#[105,110,116,95,111,118,101,114,102,108,111,119]⟩))) w17:=by unfold o67_7_1;go_simp
    refine sv_ g67_7_1 Y fun a86 e=>?_;clear Y
    clear h3;have h3:=pt_ F e;replace F:=pu_ F e;replace h2:=so_ e h2;clear e
    refine st_end ?_
    replace h5:=F.of h5;replace h7:=F.of h7;clear h34;have R:=F.r;clear F
    change (Code.ret).wp _ _ _ _
    refine wp_ret ?_
    change bodyPost Try.prog Try.f67 (fun e w'=>e=.returned (.tuple #[.int .i64 (big (a * b)).1,.string (str (big (a * b)).2)])∧Keep (fun g=>g < W.heap.size) W w') .ret a86 w17
    refine ret_el2 rfl R.defers h2 h3 ?_
    obtain ⟨hp1,hp2,hp3,hp4,hp5,hp6⟩:=HP.out
    exact ⟨by rw [big_not (z:=a * b) (by unfold inR;generalize a * b=q9 at *;omega)];rfl,K1⟩
 | true =>
  have fb27:=hb27;clear hb27
  simp only [dd_] at fb27
  cases b31 with
  | false =>
   have fb31:=hb31;clear hb31
   simp only [dd_] at fb31
   have Y:(execOp a32.eval o67_3_6).run Try.prog w17=.ok (.value (.bool true)) w17:=by unfold o67_3_6;go_simp
   refine sw_ g67_3_6 Y F fun a87 F h24=>?_;clear Y h20 h23
   refine sv_ g67_3_7 (ya_ rfl h24) fun a88 e=>?_
   clear h24;have h7:=pt_ F e;replace F:=pu_ F e;clear e
   refine st_end ?_
   clear h1;replace h2:=F.of h2;replace h3:=F.of h3;replace h4:=F.of h4;replace h5:=F.of h5;replace h6:=F.of h6;have R:=F.r;clear F
   change (c67_8).wp _ _ _ _
   refine wp_seq (x:=c67_9) (y:=c67_14) ?_
   refine wp_seq (x:=c67_10) (y:=c67_11) ?_
   change (Code.region 4 O67_4 false).wp _ _ _ _
   refine reg_in (l:=[0]) rfl ?_
   have F:=fe_ R;clear R
   refine sw_ g67_4_0 (ym_ rfl (F.of h7)) F fun a89 F h25=>?_
   refine st_end ?_
   replace h2:=F.of h2;replace h3:=F.of h3;replace h4:=F.of h4;replace h5:=F.of h5;replace h6:=F.of h6;replace h7:=F.of h7;have R:=F.r;clear F
   change (c67_11).wp _ _ _ _
   refine wp_cond_true (x:=c67_12) (y:=Code.skip) (eval_slot h25) ?_
   change (Code.region 5 O67_5 false).wp _ _ _ _
   refine reg_in (l:=[0,1,2]) rfl ?_
   have F:=fe_ R;clear R
   refine sw_ g67_5_0 (ym_ rfl (F.of h6)) F fun a90 F h26=>?_
   have Y:(execOp a90.eval o67_5_1).run Try.prog w17=.ok (.value (.int .u64 9223372036854775808)) w17:=by have hwr:IntKind.u64.wrap (9223372036854775808)=(9223372036854775808):=(by decide);unfold o67_5_1;go_simp
   refine sw_ g67_5_1 Y F fun a91 F h27=>?_;clear Y h26
   refine sv_ g67_5_2 (ya_ rfl h27) fun a92 e=>?_
   clear h27 h6;have h6:=pt_ F e;replace F:=pu_ F e;clear e
   refine st_end ?_
   replace h2:=F.of h2;replace h3:=F.of h3;replace h4:=F.of h4;replace h5:=F.of h5;replace h7:=F.of h7;clear h25;have R:=F.r;clear F
   change (c67_14).wp _ _ _ _
   refine wp_seq (x:=c67_15) (y:=c67_22) ?_
   refine wp_seq (x:=c67_16) (y:=c67_17) ?_
   change (Code.region 6 O67_6 false).wp _ _ _ _
   refine reg_in (l:=[0,1,2,3,4,5,6]) rfl ?_
   have F:=fe_ R;clear R
   refine sw_ g67_6_0 (ym_ rfl (F.of h4)) F fun a93 F h28=>?_
   obtain ⟨b94,hb94⟩:∃ x,(decide ((0:Int) < (hi:Int)))=x:=⟨_,rfl⟩
   have Y:(execOp a93.eval o67_6_1).run Try.prog w17=.ok (.value (.bool b94)) w17:=by rw [← hb94];unfold o67_6_1;go_simp
   refine sw_ g67_6_1 Y F fun a95 F h29=>?_;clear Y h28
   refine sv_ g67_6_2 (ym_ rfl h29) fun a96 e=>?_
   clear h29;have h30:=pt_ F e;replace F:=pu_ F e;clear e
   cases b94 with
   | false =>
    have fb94:=hb94;clear hb94
    simp only [dd_] at fb94
    refine st_val g67_6_3 rfl (wanted_is (j:=2) (d:=30) rfl rfl h30 rfl) (ym_ rfl (F.of h5)) fun a97 e=>?_
    have h31:=pt_ F e;replace F:=pu_ F e;replace h30:=so_ e h30;clear e
    refine st_val g67_6_4 rfl (wanted_is (j:=2) (d:=30) rfl rfl h30 rfl) (ym_ rfl (F.of h6)) fun a98 e=>?_
    have h32:=pt_ F e;replace F:=pu_ F e;replace h30:=so_ e h30;replace h31:=so_ e h31;clear e
    obtain ⟨b99,hb99⟩:∃ x,(decide ((9223372036854775808:Int) < (lo:Int)))=x:=⟨_,rfl⟩
    have Y:(execOp a98.eval o67_6_5).run Try.prog w17=.ok (.value (.bool b99)) w17:=by rw [← hb99];unfold o67_6_5;go_simp
    refine st_val g67_6_5 rfl (wanted_is (j:=2) (d:=30) rfl rfl h30 rfl) Y fun a100 e=>?_;clear Y
    clear h31 h32;have h33:=pt_ F e;replace F:=pu_ F e;replace h30:=so_ e h30;clear e
    have Y:(execOp a100.eval o67_6_6).run Try.prog w17=.ok (.value (.bool b99)) w17:=by unfold o67_6_6;go_simp
    refine sw_ g67_6_6 Y F fun a101 F h34=>?_;clear Y h30 h33
    refine st_end ?_
    replace h2:=F.of h2;replace h3:=F.of h3;clear h4;replace h5:=F.of h5;clear h6;replace h7:=F.of h7;have R:=F.r;clear F
    change (c67_17).wp _ _ _ _
    cases b99 with
    | false =>
     have fb99:=hb99;clear hb99
     simp only [dd_] at fb99
     refine wp_cond_false (x:=c67_18) (y:=Code.skip) (eval_slot h34) ?_
     refine wp_skip ?_
     change (c67_22).wp _ _ _ _
     refine wp_seq (x:=c67_23) (y:=c67_30) ?_
     refine wp_seq (x:=c67_24) (y:=c67_25) ?_
     change (Code.region 8 O67_8 false).wp _ _ _ _
     refine reg_in (l:=[0]) rfl ?_
     have F:=fe_ R;clear R
     refine sw_ g67_8_0 (ym_ rfl (F.of h7)) F fun a102 F h35=>?_
     refine st_end ?_
     replace h2:=F.of h2;replace h3:=F.of h3;replace h5:=F.of h5;clear h7;clear h34;have R:=F.r;clear F
     change (c67_25).wp _ _ _ _
     refine wp_cond_true (x:=c67_26) (y:=Code.skip) (eval_slot h35) ?_
     refine wp_seq (x:=c67_27) (y:=Code.ret) ?_
     change (Code.region 9 O67_9 false).wp _ _ _ _
     refine reg_in (l:=[0,1,2,3,4]) rfl ?_
     have F:=fe_ R;clear R
     refine sw_ g67_9_0 (ym_ rfl (F.of h5)) F fun a103 F h36=>?_
     have Y:(execOp a103.eval o67_9_1).run Try.prog w17=.ok (.value (.int .u64 (IntKind.u64.wrap (-lo)))) w17:=by unfold o67_9_1;go_simp
     refine sw_ g67_9_1 Y F fun a104 F h37=>?_;clear Y h36
     have Y:(execOp a104.eval o67_9_2).run Try.prog w17=.ok (.value (.int .i64 (IntKind.i64.wrap (IntKind.u64.wrap (-lo))))) w17:=by unfold o67_9_2;go_simp
     refine sw_ g67_9_2 Y F fun a105 F h38=>?_;clear Y h37
     refine sv_ g67_9_3 (ya_ rfl h38) fun a106 e=>?_
     clear h38 h2;have h2:=pt_ F e;replace F:=pu_ F e;clear e
     have Y:(execOp a106.eval o67_9_4).run Try.prog w17=.ok (.value (.string (⟨#[]⟩))) w17:=by unfold o67_9_4;go_simp
     refine sv_ g67_9_4 Y fun a107 e=>?_;clear Y
     clear h3;have h3:=pt_ F e;replace F:=pu_ F e;replace h2:=so_ e h2;clear e
     refine st_end ?_
     replace h5:=F.of h5;clear h35;have R:=F.r;clear F
     change (Code.ret).wp _ _ _ _
     refine wp_ret ?_
     change bodyPost Try.prog Try.f67 (fun e w'=>e=.returned (.tuple #[.int .i64 (big (a * b)).1,.string (str (big (a * b)).2)])∧Keep (fun g=>g < W.heap.size) W w') .ret a107 w17
     refine ret_el2 rfl R.defers h2 h3 ?_
     obtain ⟨hp1,hp2,hp3,hp4,hp5,hp6⟩:=HP.out
     exact ⟨by rw [big_is (z:=a * b) (v:=IntKind.i64.wrap (IntKind.u64.wrap (-lo))) (by simp only [IntKind.wrap_i64,IntKind.wrap_u64];generalize a * b=q9 at *;omega) (by unfold inR;generalize a * b=q9 at *;omega)];rfl,K1⟩
    | true =>
     have fb99:=hb99;clear hb99
     simp only [dd_] at fb99
     refine wp_cond_true (x:=c67_18) (y:=Code.skip) (eval_slot h34) ?_
     refine wp_seq (x:=c67_19) (y:=Code.ret) ?_
     change (Code.region 7 O67_7 false).wp _ _ _ _
     refine reg_in (l:=[0,1]) rfl ?_
     have F:=fe_ R;clear R
     have Y:(execOp a101.eval o67_7_0).run Try.prog w17=.ok (.value (.int .i64 0)) w17:=by unfold o67_7_0;go_simp
     refine sw_ g67_7_0 Y F fun a108 F h2=>?_;clear Y
     have Y:(execOp a108.eval o67_7_1).run Try.prog w17=.ok (.value (.string (⟨#[105,110,116,95,111,118,101,114,102,108,111,119]⟩))) w17:=by unfold o67_7_1;go_simp
     refine sv_ g67_7_1 Y fun a109 e=>?_;clear Y
     clear h3;have h3:=pt_ F e;replace F:=pu_ F e;replace h2:=so_ e h2;clear e
     refine st_end ?_
     replace h5:=F.of h5;replace h7:=F.of h7;clear h34;have R:=F.r;clear F
     change (Code.ret).wp _ _ _ _
     refine wp_ret ?_
     change bodyPost Try.prog Try.f67 (fun e w'=>e=.returned (.tuple #[.int .i64 (big (a * b)).1,.string (str (big (a * b)).2)])∧Keep (fun g=>g < W.heap.size) W w') .ret a109 w17
     refine ret_el2 rfl R.defers h2 h3 ?_
     obtain ⟨hp1,hp2,hp3,hp4,hp5,hp6⟩:=HP.out
     exact ⟨by rw [big_not (z:=a * b) (by unfold inR;generalize a * b=q9 at *;omega)];rfl,K1⟩
   | true =>
    have fb94:=hb94;clear hb94
    simp only [dd_] at fb94
    refine st_not g67_6_3 rfl (wanted_is (j:=2) (d:=30) rfl rfl h30 rfl) fun a110 e=>?_
    have h31:=pt_ F e;replace F:=pu_ F e;replace h30:=so_ e h30;clear e
    refine st_not g67_6_4 rfl (wanted_is (j:=2) (d:=30) rfl rfl h30 rfl) fun a111 e=>?_
    have h32:=pt_ F e;replace F:=pu_ F e;replace h30:=so_ e h30;replace h31:=so_ e h31;clear e
    refine st_not g67_6_5 rfl (wanted_is (j:=2) (d:=30) rfl rfl h30 rfl) fun a112 e=>?_
    clear h31 h32;have h33:=pt_ F e;replace F:=pu_ F e;replace h30:=so_ e h30;clear e
    have Y:(execOp a112.eval o67_6_6).run Try.prog w17=.ok (.value (.bool true)) w17:=by unfold o67_6_6;go_simp
    refine sw_ g67_6_6 Y F fun a113 F h34=>?_;clear Y h30 h33
    refine st_end ?_
    replace h2:=F.of h2;replace h3:=F.of h3;clear h4;replace h5:=F.of h5;clear h6;replace h7:=F.of h7;have R:=F.r;clear F
    change (c67_17).wp _ _ _ _
    refine wp_cond_true (x:=c67_18) (y:=Code.skip) (eval_slot h34) ?_
    refine wp_seq (x:=c67_19) (y:=Code.ret) ?_
    change (Code.region 7 O67_7 false).wp _ _ _ _
    refine reg_in (l:=[0,1]) rfl ?_
    have F:=fe_ R;clear R
    have Y:(execOp a113.eval o67_7_0).run Try.prog w17=.ok (.value (.int .i64 0)) w17:=by unfold o67_7_0;go_simp
    refine sw_ g67_7_0 Y F fun a114 F h2=>?_;clear Y
    have Y:(execOp a114.eval o67_7_1).run Try.prog w17=.ok (.value (.string (⟨#[105,110,116,95,111,118,101,114,102,108,111,119]⟩))) w17:=by unfold o67_7_1;go_simp
    refine sv_ g67_7_1 Y fun a115 e=>?_;clear Y
    clear h3;have h3:=pt_ F e;replace F:=pu_ F e;replace h2:=so_ e h2;clear e
    refine st_end ?_
    replace h5:=F.of h5;replace h7:=F.of h7;clear h34;have R:=F.r;clear F
    change (Code.ret).wp _ _ _ _
    refine wp_ret ?_
    change bodyPost Try.prog Try.f67 (fun e w'=>e=.returned (.tuple #[.int .i64 (big (a * b)).1,.string (str (big (a * b)).2)])∧Keep (fun g=>g < W.heap.size) W w') .ret a115 w17
    refine ret_el2 rfl R.defers h2 h3 ?_
    obtain ⟨hp1,hp2,hp3,hp4,hp5,hp6⟩:=HP.out
    exact ⟨by rw [big_not (z:=a * b) (by unfold inR;generalize a * b=q9 at *;omega)];rfl,K1⟩
  | true =>
   have fb31:=hb31;clear hb31
   simp only [dd_] at fb31
   have Y:(execOp a32.eval o67_3_6).run Try.prog w17=.ok (.value (.bool false)) w17:=by unfold o67_3_6;go_simp
   refine sw_ g67_3_6 Y F fun a116 F h24=>?_;clear Y h20 h23
   refine sv_ g67_3_7 (ya_ rfl h24) fun a117 e=>?_
   clear h24;have h7:=pt_ F e;replace F:=pu_ F e;clear e
   refine st_end ?_
   clear h1;replace h2:=F.of h2;replace h3:=F.of h3;replace h4:=F.of h4;replace h5:=F.of h5;replace h6:=F.of h6;have R:=F.r;clear F
   change (c67_8).wp _ _ _ _
   refine wp_seq (x:=c67_9) (y:=c67_14) ?_
   refine wp_seq (x:=c67_10) (y:=c67_11) ?_
   change (Code.region 4 O67_4 false).wp _ _ _ _
   refine reg_in (l:=[0]) rfl ?_
   have F:=fe_ R;clear R
   refine sw_ g67_4_0 (ym_ rfl (F.of h7)) F fun a118 F h25=>?_
   refine st_end ?_
   replace h2:=F.of h2;replace h3:=F.of h3;replace h4:=F.of h4;replace h5:=F.of h5;replace h6:=F.of h6;replace h7:=F.of h7;have R:=F.r;clear F
   change (c67_11).wp _ _ _ _
   refine wp_cond_false (x:=c67_12) (y:=Code.skip) (eval_slot h25) ?_
   refine wp_skip ?_
   change (c67_14).wp _ _ _ _
   refine wp_seq (x:=c67_15) (y:=c67_22) ?_
   refine wp_seq (x:=c67_16) (y:=c67_17) ?_
   change (Code.region 6 O67_6 false).wp _ _ _ _
   refine reg_in (l:=[0,1,2,3,4,5,6]) rfl ?_
   have F:=fe_ R;clear R
   refine sw_ g67_6_0 (ym_ rfl (F.of h4)) F fun a119 F h28=>?_
   obtain ⟨b120,hb120⟩:∃ x,(decide ((0:Int) < (hi:Int)))=x:=⟨_,rfl⟩
   have Y:(execOp a119.eval o67_6_1).run Try.prog w17=.ok (.value (.bool b120)) w17:=by rw [← hb120];unfold o67_6_1;go_simp
   refine sw_ g67_6_1 Y F fun a121 F h29=>?_;clear Y h28
   refine sv_ g67_6_2 (ym_ rfl h29) fun a122 e=>?_
   clear h29;have h30:=pt_ F e;replace F:=pu_ F e;clear e
   cases b120 with
   | false =>
    have fb120:=hb120;clear hb120
    simp only [dd_] at fb120
    refine st_val g67_6_3 rfl (wanted_is (j:=2) (d:=30) rfl rfl h30 rfl) (ym_ rfl (F.of h5)) fun a123 e=>?_
    have h31:=pt_ F e;replace F:=pu_ F e;replace h30:=so_ e h30;clear e
    refine st_val g67_6_4 rfl (wanted_is (j:=2) (d:=30) rfl rfl h30 rfl) (ym_ rfl (F.of h6)) fun a124 e=>?_
    have h32:=pt_ F e;replace F:=pu_ F e;replace h30:=so_ e h30;replace h31:=so_ e h31;clear e
    obtain ⟨b125,hb125⟩:∃ x,(decide ((9223372036854775807:Int) < (lo:Int)))=x:=⟨_,rfl⟩
    have Y:(execOp a124.eval o67_6_5).run Try.prog w17=.ok (.value (.bool b125)) w17:=by rw [← hb125];unfold o67_6_5;go_simp
    refine st_val g67_6_5 rfl (wanted_is (j:=2) (d:=30) rfl rfl h30 rfl) Y fun a126 e=>?_;clear Y
    clear h31 h32;have h33:=pt_ F e;replace F:=pu_ F e;replace h30:=so_ e h30;clear e
    have Y:(execOp a126.eval o67_6_6).run Try.prog w17=.ok (.value (.bool b125)) w17:=by unfold o67_6_6;go_simp
    refine sw_ g67_6_6 Y F fun a127 F h34=>?_;clear Y h30 h33
    refine st_end ?_
    replace h2:=F.of h2;replace h3:=F.of h3;clear h4;replace h5:=F.of h5;clear h6;replace h7:=F.of h7;clear h25;have R:=F.r;clear F
    change (c67_17).wp _ _ _ _
    cases b125 with
    | false =>
     have fb125:=hb125;clear hb125
     simp only [dd_] at fb125
     refine wp_cond_false (x:=c67_18) (y:=Code.skip) (eval_slot h34) ?_
     refine wp_skip ?_
     change (c67_22).wp _ _ _ _
     refine wp_seq (x:=c67_23) (y:=c67_30) ?_
     refine wp_seq (x:=c67_24) (y:=c67_25) ?_
     change (Code.region 8 O67_8 false).wp _ _ _ _
     refine reg_in (l:=[0]) rfl ?_
     have F:=fe_ R;clear R
     refine sw_ g67_8_0 (ym_ rfl (F.of h7)) F fun a128 F h35=>?_
     refine st_end ?_
     replace h2:=F.of h2;replace h3:=F.of h3;replace h5:=F.of h5;clear h7;clear h34;have R:=F.r;clear F
     change (c67_25).wp _ _ _ _
     refine wp_cond_false (x:=c67_26) (y:=Code.skip) (eval_slot h35) ?_
     refine wp_skip ?_
     change (c67_30).wp _ _ _ _
     refine wp_seq (x:=c67_31) (y:=Code.ret) ?_
     change (Code.region 10 O67_10 false).wp _ _ _ _
     refine reg_in (l:=[0,1,2,3]) rfl ?_
     have F:=fe_ R;clear R
     refine sw_ g67_10_0 (ym_ rfl (F.of h5)) F fun a129 F h39=>?_
     have Y:(execOp a129.eval o67_10_1).run Try.prog w17=.ok (.value (.int .i64 (IntKind.i64.wrap lo))) w17:=by unfold o67_10_1;go_simp
     refine sw_ g67_10_1 Y F fun a130 F h40=>?_;clear Y h39
     refine sv_ g67_10_2 (ya_ rfl h40) fun a131 e=>?_
     clear h40 h2;have h2:=pt_ F e;replace F:=pu_ F e;clear e
     have Y:(execOp a131.eval o67_10_3).run Try.prog w17=.ok (.value (.string (⟨#[]⟩))) w17:=by unfold o67_10_3;go_simp
     refine sv_ g67_10_3 Y fun a132 e=>?_;clear Y
     clear h3;have h3:=pt_ F e;replace F:=pu_ F e;replace h2:=so_ e h2;clear e
     refine st_end ?_
     clear h5;clear h35;have R:=F.r;clear F
     change (Code.ret).wp _ _ _ _
     refine wp_ret ?_
     change bodyPost Try.prog Try.f67 (fun e w'=>e=.returned (.tuple #[.int .i64 (big (a * b)).1,.string (str (big (a * b)).2)])∧Keep (fun g=>g < W.heap.size) W w') .ret a132 w17
     refine ret_el2 rfl R.defers h2 h3 ?_
     obtain ⟨hp1,hp2,hp3,hp4,hp5,hp6⟩:=HP.out
     exact ⟨by rw [big_is (z:=a * b) (v:=IntKind.i64.wrap lo) (by simp only [IntKind.wrap_i64,IntKind.wrap_u64];generalize a * b=q9 at *;omega) (by unfold inR;generalize a * b=q9 at *;omega)];rfl,K1⟩
    | true =>
     have fb125:=hb125;clear hb125
     simp only [dd_] at fb125
     refine wp_cond_true (x:=c67_18) (y:=Code.skip) (eval_slot h34) ?_
     refine wp_seq (x:=c67_19) (y:=Code.ret) ?_
     change (Code.region 7 O67_7 false).wp _ _ _ _
     refine reg_in (l:=[0,1]) rfl ?_
     have F:=fe_ R;clear R
     have Y:(execOp a127.eval o67_7_0).run Try.prog w17=.ok (.value (.int .i64 0)) w17:=by unfold o67_7_0;go_simp
     refine sw_ g67_7_0 Y F fun a133 F h2=>?_;clear Y
     have Y:(execOp a133.eval o67_7_1).run Try.prog w17=.ok (.value (.string (⟨#[105,110,116,95,111,118,101,114,102,108,111,119]⟩))) w17:=by unfold o67_7_1;go_simp
     refine sv_ g67_7_1 Y fun a134 e=>?_;clear Y
     clear h3;have h3:=pt_ F e;replace F:=pu_ F e;replace h2:=so_ e h2;clear e
     refine st_end ?_
     replace h5:=F.of h5;replace h7:=F.of h7;clear h34;have R:=F.r;clear F
     change (Code.ret).wp _ _ _ _
     refine wp_ret ?_
     change bodyPost Try.prog Try.f67 (fun e w'=>e=.returned (.tuple #[.int .i64 (big (a * b)).1,.string (str (big (a * b)).2)])∧Keep (fun g=>g < W.heap.size) W w') .ret a134 w17
     refine ret_el2 rfl R.defers h2 h3 ?_
     obtain ⟨hp1,hp2,hp3,hp4,hp5,hp6⟩:=HP.out
     exact ⟨by rw [big_not (z:=a * b) (by unfold inR;generalize a * b=q9 at *;omega)];rfl,K1⟩
   | true =>
    have fb120:=hb120;clear hb120
    simp only [dd_] at fb120
    refine st_not g67_6_3 rfl (wanted_is (j:=2) (d:=30) rfl rfl h30 rfl) fun a135 e=>?_
    have h31:=pt_ F e;replace F:=pu_ F e;replace h30:=so_ e h30;clear e
    refine st_not g67_6_4 rfl (wanted_is (j:=2) (d:=30) rfl rfl h30 rfl) fun a136 e=>?_
    have h32:=pt_ F e;replace F:=pu_ F e;replace h30:=so_ e h30;replace h31:=so_ e h31;clear e
    refine st_not g67_6_5 rfl (wanted_is (j:=2) (d:=30) rfl rfl h30 rfl) fun a137 e=>?_
    clear h31 h32;have h33:=pt_ F e;replace F:=pu_ F e;replace h30:=so_ e h30;clear e
    have Y:(execOp a137.eval o67_6_6).run Try.prog w17=.ok (.value (.bool true)) w17:=by unfold o67_6_6;go_simp
    refine sw_ g67_6_6 Y F fun a138 F h34=>?_;clear Y h30 h33
    refine st_end ?_
    replace h2:=F.of h2;replace h3:=F.of h3;clear h4;replace h5:=F.of h5;clear h6;replace h7:=F.of h7;clear h25;have R:=F.r;clear F
    change (c67_17).wp _ _ _ _
    refine wp_cond_true (x:=c67_18) (y:=Code.skip) (eval_slot h34) ?_
    refine wp_seq (x:=c67_19) (y:=Code.ret) ?_
    change (Code.region 7 O67_7 false).wp _ _ _ _
    refine reg_in (l:=[0,1]) rfl ?_
    have F:=fe_ R;clear R
    have Y:(execOp a138.eval o67_7_0).run Try.prog w17=.ok (.value (.int .i64 0)) w17:=by unfold o67_7_0;go_simp
    refine sw_ g67_7_0 Y F fun a139 F h2=>?_;clear Y
    have Y:(execOp a139.eval o67_7_1).run Try.prog w17=.ok (.value (.string (⟨#[105,110,116,95,111,118,101,114,102,108,111,119]⟩))) w17:=by unfold o67_7_1;go_simp
    refine sv_ g67_7_1 Y fun a140 e=>?_;clear Y
    clear h3;have h3:=pt_ F e;replace F:=pu_ F e;replace h2:=so_ e h2;clear e
    refine st_end ?_
    replace h5:=F.of h5;replace h7:=F.of h7;clear h34;have R:=F.r;clear F
    change (Code.ret).wp _ _ _ _
    refine wp_ret ?_
    change bodyPost Try.prog Try.f67 (fun e w'=>e=.returned (.tuple #[.int .i64 (big (a * b)).1,.string (str (big (a * b)).2)])∧Keep (fun g=>g < W.heap.size) W w') .ret a140 w17
    refine ret_el2 rfl R.defers h2 h3 ?_
    obtain ⟨hp1,hp2,hp3,hp4,hp5,hp6⟩:=HP.out
    exact ⟨by rw [big_not (z:=a * b) (by unfold inR;generalize a * b=q9 at *;omega)];rfl,K1⟩
theorem abs_mul (a b:Int):((a < 0↔b < 0)→a * b=((a.natAbs * b.natAbs:Nat):Int))∧(¬ (a < 0↔b < 0)→a * b=-((a.natAbs * b.natAbs:Nat):Int)):=by
  rw [Int.natCast_mul]
  by_cases h1:a < 0 <;> by_cases h2:b < 0
  · rw [show (a.natAbs:Int)=-a by omega,show (b.natAbs:Int)=-b by omega,Int.neg_mul_neg];exact ⟨fun _=>rfl,fun h=>absurd ⟨fun _=>h2,fun _=>h1⟩ h⟩
  · rw [show (a.natAbs:Int)=-a by omega,show (b.natAbs:Int)=b by omega,Int.neg_mul,Int.neg_neg];exact ⟨fun h=>absurd (h.1 h1) h2,fun _=>rfl⟩
  · rw [show (a.natAbs:Int)=a by omega,show (b.natAbs:Int)=-b by omega,Int.mul_neg,Int.neg_neg];exact ⟨fun h=>absurd (h.2 h2) h1,fun _=>rfl⟩
  · rw [show (a.natAbs:Int)=a by omega,show (b.natAbs:Int)=b by omega];exact ⟨fun _=>rfl,fun h=>absurd ⟨fun h=>absurd h h1,fun h=>absurd h h2⟩ h⟩
theorem mul_any (w:World) (a b:Int) (ha:inR a) (hb:inR b):Calls Try.prog 67 #[.agg #[.int .i64 a,.int .i64 b]] w fun e w'=>e=.returned (.tuple #[.int .i64 (big (a * b)).1,.string (str (big (a * b)).2)])∧Keep (fun g=>g < w.heap.size) w w':=by
  refine enter_sx Try.func67 body67 rfl (by show (1:Nat) ≤ 41;decide) fun f0 R hs=>?_
  have h1:∀ (c:Int),inR c→Hid (∀ w,Calls Try.prog 78 #[.int .i64 c] w fun e w'=>e=.returned (.int .u64 (c.natAbs:Int))∧Keep (fun g=>g < w.heap.size) w w'):=fun c hc=>Lib.hid fun w=>(uns_any w c hc).mono fun e w' h=>⟨h.1,by rw [h.2];exact Keep.refl _ _⟩
  unfold inR at ha hb
  refine mul_w (W:=w) R (hs 0 _ rfl) (Keep.refl _ w) (p:=((a.natAbs * b.natAbs:Nat):Int)) (Lib.hid ⟨?_,?_,?_,?_,(abs_mul a b).1,(abs_mul a b).2⟩) (h1 a ha) (h1 b hb) (Lib.hid fun w=>(mul64_any w a.natAbs b.natAbs (by omega) (by omega)).mono fun e w' h=>⟨h.1,by rw [h.2];exact Keep.refl _ _⟩)
  all_goals (generalize a.natAbs * b.natAbs=q;omega)
end Go.Proofs.Ytmgephleogiaoaa
