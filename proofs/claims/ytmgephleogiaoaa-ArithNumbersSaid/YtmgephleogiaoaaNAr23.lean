/-
  The document's mul, div, shift, power, walked. No condition but that the numbers are of 64 bits.
-/
import Derived.Test.YtmgephleogiaoaaNAr22
namespace Go.Proofs.Ytmgephleogiaoaa
open Go.RowKit Go.Maps
set_option linter.unusedVariables false
set_option linter.unusedSimpArgs false
def oF0_0:Oper:=⟨some 4,Op.alloc 30,0, "ref.go:97",#[],none⟩
def OF0:Array Oper:=List.toArray (oF0_0::[])
theorem gF0_0:OF0[0]? = some oF0_0:=rfl
def cF1:Code:=Code.region 0 OF0 false
def oF1_0:Oper:=⟨some 6,Op.move (Operand.tmp 0),2, "ref.go:98",#[],none⟩
def oF1_1:Oper:=⟨some 7,Op.binOp Go.BinOp.eql 2 (Operand.tmp 6) (Operand.const (Value.int IntKind.i64 0)) 2,4, "ref.go:98",#[ed_ 0],none⟩
def oF1_2:Oper:=⟨some 8,Op.move (Operand.tmp 7),4, "ref.go:98",#[ed_ 1],none⟩
def oF1_3:Oper:=⟨some 9,Op.move (Operand.tmp 1),2, "ref.go:98",#[eg_ 2],some (2,false)⟩
def oF1_4:Oper:=⟨some 10,Op.binOp Go.BinOp.eql 2 (Operand.tmp 9) (Operand.const (Value.int IntKind.i64 0)) 2,4, "ref.go:98",#[ed_ 3,eg_ 2],some (2,false)⟩
def oF1_5:Oper:=⟨some 11,Op.pick (Operand.tmp 8) (Operand.const (Value.bool true)) (Operand.tmp 10),4, "ref.go:98",#[ed_ 2,ed_ 4],none⟩
def OF1:Array Oper:=List.toArray (oF1_0::oF1_1::oF1_2::oF1_3::oF1_4::oF1_5::[])
theorem gF1_0:OF1[0]? = some oF1_0:=rfl
theorem gF1_1:OF1[1]? = some oF1_1:=rfl
theorem gF1_2:OF1[2]? = some oF1_2:=rfl
theorem gF1_3:OF1[3]? = some oF1_3:=rfl
theorem gF1_4:OF1[4]? = some oF1_4:=rfl
theorem gF1_5:OF1[5]? = some oF1_5:=rfl
def cF4:Code:=Code.region 1 OF1 false
def oF2_0:Oper:=⟨some 12,Op.call { callee:=Callee.value (Operand.func 31),args:=#[Operand.const (Value.int IntKind.i64 0)],argTypes:=#[2] },30, "ref.go:99",#[],none⟩
def oF2_1:Oper:=⟨none,Op.store 30 (Operand.tmp 4) (Operand.tmp 12),0, "ref.go:99",#[ed_ 0,ec_ 0,ep_ 0],none⟩
def OF2:Array Oper:=List.toArray (oF2_0::oF2_1::[])
theorem gF2_0:OF2[0]? = some oF2_0:=rfl
theorem gF2_1:OF2[1]? = some oF2_1:=rfl
def cF7:Code:=Code.region 2 OF2 false
def cF6:Code:=Code.seq cF7 Code.ret
def cF5:Code:=Code.cond (Operand.tmp 11) cF6 Code.skip
def cF3:Code:=Code.seq cF4 cF5
def oF3_0:Oper:=⟨some 13,Op.move (Operand.tmp 0),2, "ref.go:101",#[],none⟩
def oF3_1:Oper:=⟨some 14,Op.binOp Go.BinOp.eql 2 (Operand.tmp 13) (Operand.const (Value.int IntKind.i64 (-9223372036854775808))) 2,4, "ref.go:101",#[ed_ 0],none⟩
def oF3_2:Oper:=⟨some 15,Op.move (Operand.tmp 14),4, "ref.go:101",#[ed_ 1],none⟩
def oF3_3:Oper:=⟨some 16,Op.move (Operand.tmp 1),2, "ref.go:101",#[eg_ 2],some (2,true)⟩
def oF3_4:Oper:=⟨some 17,Op.binOp Go.BinOp.eql 2 (Operand.tmp 16) (Operand.const (Value.int IntKind.i64 (-1))) 2,4, "ref.go:101",#[ed_ 3,eg_ 2],some (2,true)⟩
def oF3_5:Oper:=⟨some 18,Op.pick (Operand.tmp 15) (Operand.tmp 17) (Operand.const (Value.bool false)),4, "ref.go:101",#[ed_ 2,ed_ 4],none⟩
def oF3_6:Oper:=⟨some 19,Op.move (Operand.tmp 18),4, "ref.go:101",#[ed_ 5,ec_ 2],none⟩
def oF3_7:Oper:=⟨some 20,Op.move (Operand.tmp 1),2, "ref.go:101",#[eg_ 6],some (6,false)⟩
def oF3_8:Oper:=⟨some 21,Op.binOp Go.BinOp.eql 2 (Operand.tmp 20) (Operand.const (Value.int IntKind.i64 (-9223372036854775808))) 2,4, "ref.go:101",#[ed_ 7,eg_ 6],some (6,false)⟩
def oF3_9:Oper:=⟨some 22,Op.move (Operand.tmp 21),4, "ref.go:101",#[ed_ 8,ec_ 6,eg_ 6],some (6,false)⟩
def oF3_10:Oper:=⟨some 23,Op.move (Operand.tmp 0),2, "ref.go:101",#[eg_ 9],some (9,true)⟩
def oF3_11:Oper:=⟨some 24,Op.binOp Go.BinOp.eql 2 (Operand.tmp 23) (Operand.const (Value.int IntKind.i64 (-1))) 2,4, "ref.go:101",#[ed_ 10,eg_ 9],some (9,true)⟩
def oF3_12:Oper:=⟨some 25,Op.pick (Operand.tmp 22) (Operand.tmp 24) (Operand.const (Value.bool false)),4, "ref.go:101",#[ed_ 9,ed_ 11,eg_ 6],some (6,false)⟩
def oF3_13:Oper:=⟨some 26,Op.pick (Operand.tmp 19) (Operand.const (Value.bool true)) (Operand.tmp 25),4, "ref.go:101",#[ed_ 6,ed_ 12],none⟩
def OF3:Array Oper:=List.toArray (oF3_0::oF3_1::oF3_2::oF3_3::oF3_4::oF3_5::oF3_6::oF3_7::oF3_8::oF3_9::oF3_10::oF3_11::oF3_12::oF3_13::[])
theorem gF3_0:OF3[0]? = some oF3_0:=rfl
theorem gF3_1:OF3[1]? = some oF3_1:=rfl
theorem gF3_2:OF3[2]? = some oF3_2:=rfl
theorem gF3_3:OF3[3]? = some oF3_3:=rfl
theorem gF3_4:OF3[4]? = some oF3_4:=rfl
theorem gF3_5:OF3[5]? = some oF3_5:=rfl
theorem gF3_6:OF3[6]? = some oF3_6:=rfl
theorem gF3_7:OF3[7]? = some oF3_7:=rfl
theorem gF3_8:OF3[8]? = some oF3_8:=rfl
theorem gF3_9:OF3[9]? = some oF3_9:=rfl
theorem gF3_10:OF3[10]? = some oF3_10:=rfl
theorem gF3_11:OF3[11]? = some oF3_11:=rfl
theorem gF3_12:OF3[12]? = some oF3_12:=rfl
theorem gF3_13:OF3[13]? = some oF3_13:=rfl
def cF12:Code:=Code.region 3 OF3 false
def oF4_0:Oper:=⟨some 27,Op.call { callee:=Callee.value (Operand.func 59),args:=#[Operand.const (Value.string { data:=#[105,110,116,95,111,118,101,114,102,108,111,119] })],argTypes:=#[9] },30, "ref.go:102",#[],none⟩
def oF4_1:Oper:=⟨none,Op.store 30 (Operand.tmp 4) (Operand.tmp 27),0, "ref.go:102",#[ed_ 0,ec_ 0,ep_ 0],none⟩
def OF4:Array Oper:=List.toArray (oF4_0::oF4_1::[])
theorem gF4_0:OF4[0]? = some oF4_0:=rfl
theorem gF4_1:OF4[1]? = some oF4_1:=rfl
def cF15:Code:=Code.region 4 OF4 false
def cF14:Code:=Code.seq cF15 Code.ret
def cF13:Code:=Code.cond (Operand.tmp 26) cF14 Code.skip
def cF11:Code:=Code.seq cF12 cF13
def oF5_0:Oper:=⟨some 28,Op.move (Operand.tmp 0),2, "ref.go:104",#[],none⟩
def oF5_1:Oper:=⟨some 29,Op.move (Operand.tmp 1),2, "ref.go:104",#[],none⟩
def oF5_2:Oper:=⟨some 30,Op.binOp Go.BinOp.mul 2 (Operand.tmp 28) (Operand.tmp 29) 2,2, "ref.go:104",#[ed_ 0,ed_ 1],none⟩
def oF5_3:Oper:=⟨some 5,Op.assign (Operand.tmp 30),2, "ref.go:104",#[ed_ 2,ep_ 0,ep_ 1,ep_ 2],none⟩
def OF5:Array Oper:=List.toArray (oF5_0::oF5_1::oF5_2::oF5_3::[])
theorem gF5_0:OF5[0]? = some oF5_0:=rfl
theorem gF5_1:OF5[1]? = some oF5_1:=rfl
theorem gF5_2:OF5[2]? = some oF5_2:=rfl
theorem gF5_3:OF5[3]? = some oF5_3:=rfl
def cF19:Code:=Code.region 5 OF5 false
def oF6_0:Oper:=⟨some 31,Op.move (Operand.tmp 5),2, "ref.go:105",#[],none⟩
def oF6_1:Oper:=⟨some 32,Op.move (Operand.tmp 1),2, "ref.go:105",#[],none⟩
def oF6_2:Oper:=⟨some 33,Op.binOp Go.BinOp.quo 2 (Operand.tmp 31) (Operand.tmp 32) 2,2, "ref.go:105",#[ed_ 0,ed_ 1],none⟩
def oF6_3:Oper:=⟨some 34,Op.move (Operand.tmp 0),2, "ref.go:105",#[],none⟩
def oF6_4:Oper:=⟨some 35,Op.binOp Go.BinOp.neq 2 (Operand.tmp 33) (Operand.tmp 34) 2,4, "ref.go:105",#[ed_ 2,ed_ 3],none⟩
def OF6:Array Oper:=List.toArray (oF6_0::oF6_1::oF6_2::oF6_3::oF6_4::[])
theorem gF6_0:OF6[0]? = some oF6_0:=rfl
theorem gF6_1:OF6[1]? = some oF6_1:=rfl
theorem gF6_2:OF6[2]? = some oF6_2:=rfl
theorem gF6_3:OF6[3]? = some oF6_3:=rfl
theorem gF6_4:OF6[4]? = some oF6_4:=rfl
def cF22:Code:=Code.region 6 OF6 false
def oF7_0:Oper:=⟨some 36,Op.call { callee:=Callee.value (Operand.func 59),args:=#[Operand.const (Value.string { data:=#[105,110,116,95,111,118,101,114,102,108,111,119] })],argTypes:=#[9] },30, "ref.go:106",#[],none⟩
def oF7_1:Oper:=⟨none,Op.store 30 (Operand.tmp 4) (Operand.tmp 36),0, "ref.go:106",#[ed_ 0,ec_ 0,ep_ 0],none⟩
def OF7:Array Oper:=List.toArray (oF7_0::oF7_1::[])
theorem gF7_0:OF7[0]? = some oF7_0:=rfl
theorem gF7_1:OF7[1]? = some oF7_1:=rfl
def cF25:Code:=Code.region 7 OF7 false
def cF24:Code:=Code.seq cF25 Code.ret
def cF23:Code:=Code.cond (Operand.tmp 35) cF24 Code.skip
def cF21:Code:=Code.seq cF22 cF23
def oF8_0:Oper:=⟨some 37,Op.move (Operand.tmp 5),2, "ref.go:108",#[],none⟩
def oF8_1:Oper:=⟨some 38,Op.call { callee:=Callee.value (Operand.func 31),args:=#[Operand.tmp 37],argTypes:=#[2] },30, "ref.go:108",#[ed_ 0],none⟩
def oF8_2:Oper:=⟨none,Op.store 30 (Operand.tmp 4) (Operand.tmp 38),0, "ref.go:108",#[ed_ 1,ec_ 1,ep_ 0,ep_ 1],none⟩
def OF8:Array Oper:=List.toArray (oF8_0::oF8_1::oF8_2::[])
theorem gF8_0:OF8[0]? = some oF8_0:=rfl
theorem gF8_1:OF8[1]? = some oF8_1:=rfl
theorem gF8_2:OF8[2]? = some oF8_2:=rfl
def cF29:Code:=Code.region 8 OF8 false
def cF28:Code:=Code.seq cF29 Code.ret
def cF20:Code:=Code.seq cF21 cF28
def cF18:Code:=Code.seq cF19 cF20
def cF10:Code:=Code.seq cF11 cF18
def cF2:Code:=Code.seq cF3 cF10
def cF0:Code:=Code.seq cF1 cF2
theorem enA45_31:Enters Try.prog 31:=enters_of Try.func31 (by kernel_rfl) rfl
theorem bodyA45:Try.f45.body=some cF0:=by kernel_rfl
set_option maxRecDepth 100000 in
set_option maxHeartbeats 4000000 in
theorem rmul_w {W:World} {a b:Int} {f0:Act} {w0:World} (R:FrS 39 f0) (h0:f0.tmps[0]? = some (.int .i64 a)) (h1:f0.tmps[1]? = some (.int .i64 b)) (K1:Keep (fun g=>g < W.heap.size) W w0)  (HA:Hid (inR a)) (HB:Hid (inR b)):cF0.wp Try.prog (bodyPost Try.prog Try.f45 (fun e w'=>WA (resW (big (a * b))) W e w')) f0 w0:=by
 refine wp_seq (x:=cF1) (y:=cF2) ?_
 change (Code.region 0 OF0 false).wp _ _ _ _
 refine reg_in (l:=[0]) rfl ?_
 have F:=fe_ R;clear R
 have Y:(execOp f0.eval oF0_0).run Try.prog w0=.ok (.value (.pointer (some ⟨w0.heap.size,0,none⟩))) (w0.alloc (.cells #[.int .i64 0,.int .i64 0,.string (⟨#[]⟩),.int .i64 0,.slice none 0 0,.bool false] 30)):=by unfold oF0_0;go_simp
 have B1:=Blk.new w0 30 #[.int .i64 0,.int .i64 0,.string (⟨#[]⟩),.int .i64 0,.slice none 0 0,.bool false]
 obtain ⟨w2,hw⟩:∃ x,x=w0.alloc (.cells #[.int .i64 0,.int .i64 0,.string (⟨#[]⟩),.int .i64 0,.slice none 0 0,.bool false] 30):=⟨_,rfl⟩;rw [← hw] at Y B1
 obtain ⟨b1,hb⟩:∃ x,x=w0.heap.size:=⟨_,rfl⟩;rw [← hb] at Y B1
 have LK1_b1:=lk_ hb K1;replace K1:=ka_ hw K1;clear hw hb
 refine sw_ gF0_0 Y F fun a3 F h4=>?_;clear Y
 refine st_end ?_
 replace h0:=F.of h0;replace h1:=F.of h1;have R:=F.r;clear F
 change (cF2).wp _ _ _ _
 refine wp_seq (x:=cF3) (y:=cF10) ?_
 refine wp_seq (x:=cF4) (y:=cF5) ?_
 change (Code.region 1 OF1 false).wp _ _ _ _
 refine reg_in (l:=[0,1,2,3,4,5]) rfl ?_
 have F:=fe_ R;clear R
 refine sw_ gF1_0 (ym_ rfl (F.of h0)) F fun a4 F h6=>?_
 obtain ⟨b5,hb5⟩:∃ x,(((a:Int) == (0:Int)))=x:=⟨_,rfl⟩
 have Y:(execOp a4.eval oF1_1).run Try.prog w2=.ok (.value (.bool b5)) w2:=by rw [← hb5];unfold oF1_1;go_simp
 refine sw_ gF1_1 Y F fun a6 F h7=>?_;clear Y h6
 refine sv_ gF1_2 (ym_ rfl h7) fun a7 e=>?_
 clear h7;have h8:=pt_ F e;replace F:=pu_ F e;clear e
 cases b5 with
 | false =>
  have fb5:=hb5;clear hb5
  simp only [dd_] at fb5
  refine st_val gF1_3 rfl (wanted_is (j:=2) (d:=8) rfl rfl h8 rfl) (ym_ rfl (F.of h1)) fun a8 e=>?_
  have h9:=pt_ F e;replace F:=pu_ F e;replace h8:=so_ e h8;clear e
  obtain ⟨b9,hb9⟩:∃ x,(((b:Int) == (0:Int)))=x:=⟨_,rfl⟩
  have Y:(execOp a8.eval oF1_4).run Try.prog w2=.ok (.value (.bool b9)) w2:=by rw [← hb9];unfold oF1_4;go_simp
  refine st_val gF1_4 rfl (wanted_is (j:=2) (d:=8) rfl rfl h8 rfl) Y fun a10 e=>?_;clear Y
  clear h9;have h10:=pt_ F e;replace F:=pu_ F e;replace h8:=so_ e h8;clear e
  have Y:(execOp a10.eval oF1_5).run Try.prog w2=.ok (.value (.bool b9)) w2:=by unfold oF1_5;go_simp
  refine sw_ gF1_5 Y F fun a11 F h11=>?_;clear Y h8 h10
  refine st_end ?_
  replace h0:=F.of h0;replace h1:=F.of h1;replace h4:=F.of h4;have R:=F.r;clear F
  change (cF5).wp _ _ _ _
  cases b9 with
  | false =>
   have fb9:=hb9;clear hb9
   simp only [dd_] at fb9
   refine wp_cond_false (x:=cF6) (y:=Code.skip) (eval_slot h11) ?_
   refine wp_skip ?_
   change (cF10).wp _ _ _ _
   refine wp_seq (x:=cF11) (y:=cF18) ?_
   refine wp_seq (x:=cF12) (y:=cF13) ?_
   change (Code.region 3 OF3 false).wp _ _ _ _
   refine reg_in (l:=[0,1,2,3,4,5,6,7,8,9,10,11,12,13]) rfl ?_
   have F:=fe_ R;clear R
   refine sw_ gF3_0 (ym_ rfl (F.of h0)) F fun a12 F h13=>?_
   obtain ⟨b13,hb13⟩:∃ x,(((a:Int) == (-9223372036854775808:Int)))=x:=⟨_,rfl⟩
   have Y:(execOp a12.eval oF3_1).run Try.prog w2=.ok (.value (.bool b13)) w2:=by rw [← hb13];unfold oF3_1;go_simp
   refine sw_ gF3_1 Y F fun a14 F h14=>?_;clear Y h13
   refine sv_ gF3_2 (ym_ rfl h14) fun a15 e=>?_
   clear h14;have h15:=pt_ F e;replace F:=pu_ F e;clear e
   cases b13 with
   | false =>
    have fb13:=hb13;clear hb13
    simp only [dd_] at fb13
    refine st_not gF3_3 rfl (wanted_is (j:=2) (d:=15) rfl rfl h15 rfl) fun a16 e=>?_
    have h16:=pt_ F e;replace F:=pu_ F e;replace h15:=so_ e h15;clear e
    refine st_not gF3_4 rfl (wanted_is (j:=2) (d:=15) rfl rfl h15 rfl) fun a17 e=>?_
    clear h16;have h17:=pt_ F e;replace F:=pu_ F e;replace h15:=so_ e h15;clear e
    have Y:(execOp a17.eval oF3_5).run Try.prog w2=.ok (.value (.bool false)) w2:=by unfold oF3_5;go_simp
    refine sw_ gF3_5 Y F fun a18 F h18=>?_;clear Y h15 h17
    refine sv_ gF3_6 (ym_ rfl h18) fun a19 e=>?_
    clear h18;have h19:=pt_ F e;replace F:=pu_ F e;clear e
    refine st_val gF3_7 rfl (wanted_is (j:=6) (d:=19) rfl rfl h19 rfl) (ym_ rfl (F.of h1)) fun a20 e=>?_
    have h20:=pt_ F e;replace F:=pu_ F e;replace h19:=so_ e h19;clear e
    obtain ⟨b21,hb21⟩:∃ x,(((b:Int) == (-9223372036854775808:Int)))=x:=⟨_,rfl⟩
    have Y:(execOp a20.eval oF3_8).run Try.prog w2=.ok (.value (.bool b21)) w2:=by rw [← hb21];unfold oF3_8;go_simp
    refine st_val gF3_8 rfl (wanted_is (j:=6) (d:=19) rfl rfl h19 rfl) Y fun a22 e=>?_;clear Y
    clear h20;have h21:=pt_ F e;replace F:=pu_ F e;replace h19:=so_ e h19;clear e
    refine st_val gF3_9 rfl (wanted_is (j:=6) (d:=19) rfl rfl h19 rfl) (ym_ rfl h21) fun a23 e=>?_
    clear h21;have h22:=pt_ F e;replace F:=pu_ F e;replace h19:=so_ e h19;clear e
    cases b21 with
    | false =>
     have fb21:=hb21;clear hb21
     simp only [dd_] at fb21
     refine st_not gF3_10 rfl (wanted_is (j:=9) (d:=22) rfl rfl h22 rfl) fun a24 e=>?_
     have h23:=pt_ F e;replace F:=pu_ F e;replace h19:=so_ e h19;replace h22:=so_ e h22;clear e
     refine st_not gF3_11 rfl (wanted_is (j:=9) (d:=22) rfl rfl h22 rfl) fun a25 e=>?_
     clear h23;have h24:=pt_ F e;replace F:=pu_ F e;replace h19:=so_ e h19;replace h22:=so_ e h22;clear e
     have Y:(execOp a25.eval oF3_12).run Try.prog w2=.ok (.value (.bool false)) w2:=by unfold oF3_12;go_simp
     refine st_val gF3_12 rfl (wanted_is (j:=6) (d:=19) rfl rfl h19 rfl) Y fun a26 e=>?_;clear Y
     clear h22 h24;have h25:=pt_ F e;replace F:=pu_ F e;replace h19:=so_ e h19;clear e
     have Y:(execOp a26.eval oF3_13).run Try.prog w2=.ok (.value (.bool false)) w2:=by unfold oF3_13;go_simp
     refine sw_ gF3_13 Y F fun a27 F h26=>?_;clear Y h19 h25
     refine st_end ?_
     replace h0:=F.of h0;replace h1:=F.of h1;replace h4:=F.of h4;clear h11;have R:=F.r;clear F
     change (cF13).wp _ _ _ _
     refine wp_cond_false (x:=cF14) (y:=Code.skip) (eval_slot h26) ?_
     refine wp_skip ?_
     change (cF18).wp _ _ _ _
     refine wp_seq (x:=cF19) (y:=cF20) ?_
     change (Code.region 5 OF5 false).wp _ _ _ _
     refine reg_in (l:=[0,1,2,3]) rfl ?_
     have F:=fe_ R;clear R
     refine sw_ gF5_0 (ym_ rfl (F.of h0)) F fun a28 F h28=>?_
     refine sv_ gF5_1 (ym_ rfl (F.of h1)) fun a29 e=>?_
     have h29:=pt_ F e;replace F:=pu_ F e;replace h28:=so_ e h28;clear e
     have Y:(execOp a29.eval oF5_2).run Try.prog w2=.ok (.value (.int .i64 (IntKind.i64.wrap (a * b)))) w2:=by unfold oF5_2;go_simp
     refine sw_ gF5_2 Y F fun a30 F h30=>?_;clear Y h28 h29
     refine sv_ gF5_3 (ya_ rfl h30) fun a31 e=>?_
     clear h30;have h5:=pt_ F e;replace F:=pu_ F e;clear e
     refine st_end ?_
     replace h0:=F.of h0;replace h1:=F.of h1;replace h4:=F.of h4;clear h26;have R:=F.r;clear F
     change (cF20).wp _ _ _ _
     refine wp_seq (x:=cF21) (y:=cF28) ?_
     refine wp_seq (x:=cF22) (y:=cF23) ?_
     change (Code.region 6 OF6 false).wp _ _ _ _
     refine reg_in (l:=[0,1,2,3,4]) rfl ?_
     have F:=fe_ R;clear R
     refine sw_ gF6_0 (ym_ rfl (F.of h5)) F fun a32 F h31=>?_
     refine sv_ gF6_1 (ym_ rfl (F.of h1)) fun a33 e=>?_
     have h32:=pt_ F e;replace F:=pu_ F e;replace h31:=so_ e h31;clear e
     have Y:(execOp a33.eval oF6_2).run Try.prog w2=.ok (.value (.int .i64 (IntKind.i64.wrap ((IntKind.i64.wrap (a * b)).tdiv b)))) w2:=by have h8:¬ b=0:=(by omega);unfold oF6_2;go_simp
     refine sw_ gF6_2 Y F fun a34 F h33=>?_;clear Y h31 h32
     refine sv_ gF6_3 (ym_ rfl (F.of h0)) fun a35 e=>?_
     have h34:=pt_ F e;replace F:=pu_ F e;replace h33:=so_ e h33;clear e
     obtain ⟨b36,hb36⟩:∃ x,(((IntKind.i64.wrap ((IntKind.i64.wrap (a * b)).tdiv b):Int) != (a:Int)))=x:=⟨_,rfl⟩
     have Y:(execOp a35.eval oF6_4).run Try.prog w2=.ok (.value (.bool b36)) w2:=by rw [← hb36];unfold oF6_4;go_simp
     refine sw_ gF6_4 Y F fun a37 F h35=>?_;clear Y h33 h34
     refine st_end ?_
     clear h0;clear h1;replace h4:=F.of h4;replace h5:=F.of h5;have R:=F.r;clear F
     change (cF23).wp _ _ _ _
     cases b36 with
     | false =>
      have fb36:=hb36;clear hb36
      simp only [dd_] at fb36
      refine wp_cond_false (x:=cF24) (y:=Code.skip) (eval_slot h35) ?_
      refine wp_skip ?_
      change (cF28).wp _ _ _ _
      refine wp_seq (x:=cF29) (y:=Code.ret) ?_
      change (Code.region 8 OF8 false).wp _ _ _ _
      refine reg_in (l:=[0,1,2]) rfl ?_
      have F:=fe_ R;clear R
      refine sw_ gF8_0 (ym_ rfl (F.of h5)) F fun a38 F h37=>?_
      refine st_call gF8_1 rfl (wanted_free rfl) (yc1_ enA45_31 rfl h37) ((of_any _ (IntKind.i64.wrap (a * b))).mono ?_)
      rintro e9 w39 ⟨rfl,kk⟩
      replace K1:=keep_onto K1 kk
      replace B1:=blk_on B1 kk
      clear kk
      refine ⟨_,rfl,fun a40 e=>?_⟩
      clear h37;have h38:=pt_ F e;replace F:=pu_ F e;clear e
      obtain ⟨w41,Y,hk,hB⟩:=ys6_ (o:=oF8_2) rfl (F.of h4) h38 B1
      replace K1:=kx_ hk K1 (Nat.not_lt.2 LK1_b1);clear B1;have B1:=hB;clear hB hk
      refine st_skip gF8_2 rfl (wanted_free rfl) Y ?_;clear Y
      refine st_end ?_
      replace h4:=F.of h4;clear h5;clear h35;clear h38;have R:=F.r;clear F
      change (Code.ret).wp _ _ _ _
      refine wp_ret ?_
      change bodyPost Try.prog Try.f45 (fun e w'=>WA (resW (big (a * b))) W e w') .ret a40 w41
      refine ret_cell6 (fn:=Try.f45) rfl R h4 B1 ?_
      exact (show WA (resW (big (a * b))) W _ _ by rw [refmul_is HA.out HB.out (by omega) (by omega) (by assumption),resW_n];exact ⟨none,0,rfl,own_zero,K1⟩)
     | true =>
      have fb36:=hb36;clear hb36
      simp only [dd_] at fb36
      refine wp_cond_true (x:=cF24) (y:=Code.skip) (eval_slot h35) ?_
      refine wp_seq (x:=cF25) (y:=Code.ret) ?_
      change (Code.region 7 OF7 false).wp _ _ _ _
      refine reg_in (l:=[0,1]) rfl ?_
      have F:=fe_ R;clear R
      have Y:(execOp a37.eval oF7_0).run Try.prog w2=.ok (.enter 59 #[.string (⟨#[105,110,116,95,111,118,101,114,102,108,111,119]⟩)]) w2:=by unfold oF7_0;go_simp
      have hca:=fails_any (W:=w2) (s:=fOver) (by decide)
      have UKX_b1:=B1.lt
      have HWKX:W.heap.size ≤ w2.heap.size:=K1.size
      refine st_call gF7_0 rfl (wanted_free rfl) Y ((hca).mono ?_);clear Y
      rintro e9 w42 ⟨ax,cx,rfl,hx,kk⟩
      replace K1:=keep_onto K1 kk
      replace B1:=blk_on B1 kk
      clear kk
      clear hca
      have HX:=Lib.hid hx;clear hx
      have KX:=Keep.refl (fun g=>w2.heap.size ≤ g∧g < w42.heap.size) w42
      refine ⟨_,rfl,fun a43 e=>?_⟩
      have h36:=pt_ F e;replace F:=pu_ F e;clear e
      obtain ⟨w44,Y,hk,hB⟩:=ys6_ (o:=oF7_1) rfl (F.of h4) h36 B1
      replace K1:=kx_ hk K1 (Nat.not_lt.2 LK1_b1);replace KX:=kx_ hk KX (fun hx=>absurd hx.1 (Nat.not_le.2 UKX_b1));clear B1;have B1:=hB;clear hB hk
      refine st_skip gF7_1 rfl (wanted_free rfl) Y ?_;clear Y
      refine st_end ?_
      replace h4:=F.of h4;replace h5:=F.of h5;clear h35;clear h36;have R:=F.r;clear F
      change (Code.ret).wp _ _ _ _
      refine wp_ret ?_
      change bodyPost Try.prog Try.f45 (fun e w'=>WA (resW (big (a * b))) W e w') .ret a43 w44
      refine ret_cell6 (fn:=Try.f45) rfl R h4 B1 ?_
      first
       | exact (show WA (resW (big (a * b))) W _ _ by rw [mul_spec (by omega),resW_o];exact ⟨ax,cx,rfl,(HX.out.on KX).up HWKX,K1⟩)
       | exact (show WA (resW (big (a * b))) W _ _ by rw [refmul_not HA.out (by omega) (by assumption),resW_o];exact ⟨ax,cx,rfl,(HX.out.on KX).up HWKX,K1⟩)
    | true =>
     have fb21:=hb21;clear hb21
     simp only [dd_] at fb21
     refine st_val gF3_10 rfl (wanted_is (j:=9) (d:=22) rfl rfl h22 rfl) (ym_ rfl (F.of h0)) fun a45 e=>?_
     have h23:=pt_ F e;replace F:=pu_ F e;replace h19:=so_ e h19;replace h22:=so_ e h22;clear e
     obtain ⟨b46,hb46⟩:∃ x,(((a:Int) == (-1:Int)))=x:=⟨_,rfl⟩
     have Y:(execOp a45.eval oF3_11).run Try.prog w2=.ok (.value (.bool b46)) w2:=by rw [← hb46];unfold oF3_11;go_simp
     refine st_val gF3_11 rfl (wanted_is (j:=9) (d:=22) rfl rfl h22 rfl) Y fun a47 e=>?_;clear Y
     clear h23;have h24:=pt_ F e;replace F:=pu_ F e;replace h19:=so_ e h19;replace h22:=so_ e h22;clear e
     have Y:(execOp a47.eval oF3_12).run Try.prog w2=.ok (.value (.bool b46)) w2:=by unfold oF3_12;go_simp
     refine st_val gF3_12 rfl (wanted_is (j:=6) (d:=19) rfl rfl h19 rfl) Y fun a48 e=>?_;clear Y
     clear h22 h24;have h25:=pt_ F e;replace F:=pu_ F e;replace h19:=so_ e h19;clear e
     have Y:(execOp a48.eval oF3_13).run Try.prog w2=.ok (.value (.bool b46)) w2:=by unfold oF3_13;go_simp
     refine sw_ gF3_13 Y F fun a49 F h26=>?_;clear Y h19 h25
     refine st_end ?_
     replace h0:=F.of h0;replace h1:=F.of h1;replace h4:=F.of h4;clear h11;have R:=F.r;clear F
     change (cF13).wp _ _ _ _
     cases b46 with
     | false =>
      have fb46:=hb46;clear hb46
      simp only [dd_] at fb46
      refine wp_cond_false (x:=cF14) (y:=Code.skip) (eval_slot h26) ?_
      refine wp_skip ?_
      change (cF18).wp _ _ _ _
      refine wp_seq (x:=cF19) (y:=cF20) ?_
      change (Code.region 5 OF5 false).wp _ _ _ _
      refine reg_in (l:=[0,1,2,3]) rfl ?_
      have F:=fe_ R;clear R
      refine sw_ gF5_0 (ym_ rfl (F.of h0)) F fun a50 F h28=>?_
      refine sv_ gF5_1 (ym_ rfl (F.of h1)) fun a51 e=>?_
      have h29:=pt_ F e;replace F:=pu_ F e;replace h28:=so_ e h28;clear e
      have Y:(execOp a51.eval oF5_2).run Try.prog w2=.ok (.value (.int .i64 (IntKind.i64.wrap (a * b)))) w2:=by unfold oF5_2;go_simp
      refine sw_ gF5_2 Y F fun a52 F h30=>?_;clear Y h28 h29
      refine sv_ gF5_3 (ya_ rfl h30) fun a53 e=>?_
      clear h30;have h5:=pt_ F e;replace F:=pu_ F e;clear e
      refine st_end ?_
      replace h0:=F.of h0;replace h1:=F.of h1;replace h4:=F.of h4;clear h26;have R:=F.r;clear F
      change (cF20).wp _ _ _ _
      refine wp_seq (x:=cF21) (y:=cF28) ?_
      refine wp_seq (x:=cF22) (y:=cF23) ?_
      change (Code.region 6 OF6 false).wp _ _ _ _
      refine reg_in (l:=[0,1,2,3,4]) rfl ?_
      have F:=fe_ R;clear R
      refine sw_ gF6_0 (ym_ rfl (F.of h5)) F fun a54 F h31=>?_
      refine sv_ gF6_1 (ym_ rfl (F.of h1)) fun a55 e=>?_
      have h32:=pt_ F e;replace F:=pu_ F e;replace h31:=so_ e h31;clear e
      have Y:(execOp a55.eval oF6_2).run Try.prog w2=.ok (.value (.int .i64 (IntKind.i64.wrap ((IntKind.i64.wrap (a * b)).tdiv b)))) w2:=by have h8:¬ b=0:=(by omega);unfold oF6_2;go_simp
      refine sw_ gF6_2 Y F fun a56 F h33=>?_;clear Y h31 h32
      refine sv_ gF6_3 (ym_ rfl (F.of h0)) fun a57 e=>?_
      have h34:=pt_ F e;replace F:=pu_ F e;replace h33:=so_ e h33;clear e
      obtain ⟨b58,hb58⟩:∃ x,(((IntKind.i64.wrap ((IntKind.i64.wrap (a * b)).tdiv b):Int) != (a:Int)))=x:=⟨_,rfl⟩
      have Y:(execOp a57.eval oF6_4).run Try.prog w2=.ok (.value (.bool b58)) w2:=by rw [← hb58];unfold oF6_4;go_simp
      refine sw_ gF6_4 Y F fun a59 F h35=>?_;clear Y h33 h34
      refine st_end ?_
      clear h0;clear h1;replace h4:=F.of h4;replace h5:=F.of h5;have R:=F.r;clear F
      change (cF23).wp _ _ _ _
      cases b58 with
      | false =>
       have fb58:=hb58;clear hb58
       simp only [dd_] at fb58
       refine wp_cond_false (x:=cF24) (y:=Code.skip) (eval_slot h35) ?_
       refine wp_skip ?_
       change (cF28).wp _ _ _ _
       refine wp_seq (x:=cF29) (y:=Code.ret) ?_
       change (Code.region 8 OF8 false).wp _ _ _ _
       refine reg_in (l:=[0,1,2]) rfl ?_
       have F:=fe_ R;clear R
       refine sw_ gF8_0 (ym_ rfl (F.of h5)) F fun a60 F h37=>?_
       refine st_call gF8_1 rfl (wanted_free rfl) (yc1_ enA45_31 rfl h37) ((of_any _ (IntKind.i64.wrap (a * b))).mono ?_)
       rintro e9 w61 ⟨rfl,kk⟩
       replace K1:=keep_onto K1 kk
       replace B1:=blk_on B1 kk
       clear kk
       refine ⟨_,rfl,fun a62 e=>?_⟩
       clear h37;have h38:=pt_ F e;replace F:=pu_ F e;clear e
       obtain ⟨w63,Y,hk,hB⟩:=ys6_ (o:=oF8_2) rfl (F.of h4) h38 B1
       replace K1:=kx_ hk K1 (Nat.not_lt.2 LK1_b1);clear B1;have B1:=hB;clear hB hk
       refine st_skip gF8_2 rfl (wanted_free rfl) Y ?_;clear Y
       refine st_end ?_
       replace h4:=F.of h4;clear h5;clear h35;clear h38;have R:=F.r;clear F
       change (Code.ret).wp _ _ _ _
       refine wp_ret ?_
       change bodyPost Try.prog Try.f45 (fun e w'=>WA (resW (big (a * b))) W e w') .ret a62 w63
       refine ret_cell6 (fn:=Try.f45) rfl R h4 B1 ?_
       exact (show WA (resW (big (a * b))) W _ _ by rw [refmul_is HA.out HB.out (by omega) (by omega) (by assumption),resW_n];exact ⟨none,0,rfl,own_zero,K1⟩)
      | true =>
       have fb58:=hb58;clear hb58
       simp only [dd_] at fb58
       refine wp_cond_true (x:=cF24) (y:=Code.skip) (eval_slot h35) ?_
       refine wp_seq (x:=cF25) (y:=Code.ret) ?_
       change (Code.region 7 OF7 false).wp _ _ _ _
       refine reg_in (l:=[0,1]) rfl ?_
       have F:=fe_ R;clear R
       have Y:(execOp a59.eval oF7_0).run Try.prog w2=.ok (.enter 59 #[.string (⟨#[105,110,116,95,111,118,101,114,102,108,111,119]⟩)]) w2:=by unfold oF7_0;go_simp
       have hca:=fails_any (W:=w2) (s:=fOver) (by decide)
       have UKX_b1:=B1.lt
       have HWKX:W.heap.size ≤ w2.heap.size:=K1.size
       refine st_call gF7_0 rfl (wanted_free rfl) Y ((hca).mono ?_);clear Y
       rintro e9 w64 ⟨ax,cx,rfl,hx,kk⟩
       replace K1:=keep_onto K1 kk
       replace B1:=blk_on B1 kk
       clear kk
       clear hca
       have HX:=Lib.hid hx;clear hx
       have KX:=Keep.refl (fun g=>w2.heap.size ≤ g∧g < w64.heap.size) w64
       refine ⟨_,rfl,fun a65 e=>?_⟩
       have h36:=pt_ F e;replace F:=pu_ F e;clear e
       obtain ⟨w66,Y,hk,hB⟩:=ys6_ (o:=oF7_1) rfl (F.of h4) h36 B1
       replace K1:=kx_ hk K1 (Nat.not_lt.2 LK1_b1);replace KX:=kx_ hk KX (fun hx=>absurd hx.1 (Nat.not_le.2 UKX_b1));clear B1;have B1:=hB;clear hB hk
       refine st_skip gF7_1 rfl (wanted_free rfl) Y ?_;clear Y
       refine st_end ?_
       replace h4:=F.of h4;replace h5:=F.of h5;clear h35;clear h36;have R:=F.r;clear F
       change (Code.ret).wp _ _ _ _
       refine wp_ret ?_
       change bodyPost Try.prog Try.f45 (fun e w'=>WA (resW (big (a * b))) W e w') .ret a65 w66
       refine ret_cell6 (fn:=Try.f45) rfl R h4 B1 ?_
       first
        | exact (show WA (resW (big (a * b))) W _ _ by rw [mul_spec (by omega),resW_o];exact ⟨ax,cx,rfl,(HX.out.on KX).up HWKX,K1⟩)
        | exact (show WA (resW (big (a * b))) W _ _ by rw [refmul_not HA.out (by omega) (by assumption),resW_o];exact ⟨ax,cx,rfl,(HX.out.on KX).up HWKX,K1⟩)
     | true =>
      have fb46:=hb46;clear hb46
      simp only [dd_] at fb46
      refine wp_cond_true (x:=cF14) (y:=Code.skip) (eval_slot h26) ?_
      refine wp_seq (x:=cF15) (y:=Code.ret) ?_
      change (Code.region 4 OF4 false).wp _ _ _ _
      refine reg_in (l:=[0,1]) rfl ?_
      have F:=fe_ R;clear R
      have Y:(execOp a49.eval oF4_0).run Try.prog w2=.ok (.enter 59 #[.string (⟨#[105,110,116,95,111,118,101,114,102,108,111,119]⟩)]) w2:=by unfold oF4_0;go_simp
      have hca:=fails_any (W:=w2) (s:=fOver) (by decide)
      have UKX_b1:=B1.lt
      have HWKX:W.heap.size ≤ w2.heap.size:=K1.size
      refine st_call gF4_0 rfl (wanted_free rfl) Y ((hca).mono ?_);clear Y
      rintro e9 w67 ⟨ax,cx,rfl,hx,kk⟩
      replace K1:=keep_onto K1 kk
      replace B1:=blk_on B1 kk
      clear kk
      clear hca
      have HX:=Lib.hid hx;clear hx
      have KX:=Keep.refl (fun g=>w2.heap.size ≤ g∧g < w67.heap.size) w67
      refine ⟨_,rfl,fun a68 e=>?_⟩
      have h27:=pt_ F e;replace F:=pu_ F e;clear e
      obtain ⟨w69,Y,hk,hB⟩:=ys6_ (o:=oF4_1) rfl (F.of h4) h27 B1
      replace K1:=kx_ hk K1 (Nat.not_lt.2 LK1_b1);replace KX:=kx_ hk KX (fun hx=>absurd hx.1 (Nat.not_le.2 UKX_b1));clear B1;have B1:=hB;clear hB hk
      refine st_skip gF4_1 rfl (wanted_free rfl) Y ?_;clear Y
      refine st_end ?_
      replace h0:=F.of h0;replace h1:=F.of h1;replace h4:=F.of h4;clear h26;clear h27;have R:=F.r;clear F
      change (Code.ret).wp _ _ _ _
      refine wp_ret ?_
      change bodyPost Try.prog Try.f45 (fun e w'=>WA (resW (big (a * b))) W e w') .ret a68 w69
      refine ret_cell6 (fn:=Try.f45) rfl R h4 B1 ?_
      first
       | exact (show WA (resW (big (a * b))) W _ _ by rw [mul_spec (by omega),resW_o];exact ⟨ax,cx,rfl,(HX.out.on KX).up HWKX,K1⟩)
       | exact (show WA (resW (big (a * b))) W _ _ by rw [refmul_not HA.out (by omega) (by assumption),resW_o];exact ⟨ax,cx,rfl,(HX.out.on KX).up HWKX,K1⟩)
   | true =>
    have fb13:=hb13;clear hb13
    simp only [dd_] at fb13
    refine st_val gF3_3 rfl (wanted_is (j:=2) (d:=15) rfl rfl h15 rfl) (ym_ rfl (F.of h1)) fun a70 e=>?_
    have h16:=pt_ F e;replace F:=pu_ F e;replace h15:=so_ e h15;clear e
    obtain ⟨b71,hb71⟩:∃ x,(((b:Int) == (-1:Int)))=x:=⟨_,rfl⟩
    have Y:(execOp a70.eval oF3_4).run Try.prog w2=.ok (.value (.bool b71)) w2:=by rw [← hb71];unfold oF3_4;go_simp
    refine st_val gF3_4 rfl (wanted_is (j:=2) (d:=15) rfl rfl h15 rfl) Y fun a72 e=>?_;clear Y
    clear h16;have h17:=pt_ F e;replace F:=pu_ F e;replace h15:=so_ e h15;clear e
    have Y:(execOp a72.eval oF3_5).run Try.prog w2=.ok (.value (.bool b71)) w2:=by unfold oF3_5;go_simp
    refine sw_ gF3_5 Y F fun a73 F h18=>?_;clear Y h15 h17
    refine sv_ gF3_6 (ym_ rfl h18) fun a74 e=>?_
    clear h18;have h19:=pt_ F e;replace F:=pu_ F e;clear e
    cases b71 with
    | false =>
     have fb71:=hb71;clear hb71
     simp only [dd_] at fb71
     refine st_val gF3_7 rfl (wanted_is (j:=6) (d:=19) rfl rfl h19 rfl) (ym_ rfl (F.of h1)) fun a75 e=>?_
     have h20:=pt_ F e;replace F:=pu_ F e;replace h19:=so_ e h19;clear e
     obtain ⟨b76,hb76⟩:∃ x,(((b:Int) == (-9223372036854775808:Int)))=x:=⟨_,rfl⟩
     have Y:(execOp a75.eval oF3_8).run Try.prog w2=.ok (.value (.bool b76)) w2:=by rw [← hb76];unfold oF3_8;go_simp
     refine st_val gF3_8 rfl (wanted_is (j:=6) (d:=19) rfl rfl h19 rfl) Y fun a77 e=>?_;clear Y
     clear h20;have h21:=pt_ F e;replace F:=pu_ F e;replace h19:=so_ e h19;clear e
     refine st_val gF3_9 rfl (wanted_is (j:=6) (d:=19) rfl rfl h19 rfl) (ym_ rfl h21) fun a78 e=>?_
     clear h21;have h22:=pt_ F e;replace F:=pu_ F e;replace h19:=so_ e h19;clear e
     cases b76 with
     | false =>
      have fb76:=hb76;clear hb76
      simp only [dd_] at fb76
      refine st_not gF3_10 rfl (wanted_is (j:=9) (d:=22) rfl rfl h22 rfl) fun a79 e=>?_
      have h23:=pt_ F e;replace F:=pu_ F e;replace h19:=so_ e h19;replace h22:=so_ e h22;clear e
      refine st_not gF3_11 rfl (wanted_is (j:=9) (d:=22) rfl rfl h22 rfl) fun a80 e=>?_
      clear h23;have h24:=pt_ F e;replace F:=pu_ F e;replace h19:=so_ e h19;replace h22:=so_ e h22;clear e
      have Y:(execOp a80.eval oF3_12).run Try.prog w2=.ok (.value (.bool false)) w2:=by unfold oF3_12;go_simp
      refine st_val gF3_12 rfl (wanted_is (j:=6) (d:=19) rfl rfl h19 rfl) Y fun a81 e=>?_;clear Y
      clear h22 h24;have h25:=pt_ F e;replace F:=pu_ F e;replace h19:=so_ e h19;clear e
      have Y:(execOp a81.eval oF3_13).run Try.prog w2=.ok (.value (.bool false)) w2:=by unfold oF3_13;go_simp
      refine sw_ gF3_13 Y F fun a82 F h26=>?_;clear Y h19 h25
      refine st_end ?_
      replace h0:=F.of h0;replace h1:=F.of h1;replace h4:=F.of h4;clear h11;have R:=F.r;clear F
      change (cF13).wp _ _ _ _
      refine wp_cond_false (x:=cF14) (y:=Code.skip) (eval_slot h26) ?_
      refine wp_skip ?_
      change (cF18).wp _ _ _ _
      refine wp_seq (x:=cF19) (y:=cF20) ?_
      change (Code.region 5 OF5 false).wp _ _ _ _
      refine reg_in (l:=[0,1,2,3]) rfl ?_
      have F:=fe_ R;clear R
      refine sw_ gF5_0 (ym_ rfl (F.of h0)) F fun a83 F h28=>?_
      refine sv_ gF5_1 (ym_ rfl (F.of h1)) fun a84 e=>?_
      have h29:=pt_ F e;replace F:=pu_ F e;replace h28:=so_ e h28;clear e
      have Y:(execOp a84.eval oF5_2).run Try.prog w2=.ok (.value (.int .i64 (IntKind.i64.wrap (a * b)))) w2:=by unfold oF5_2;go_simp
      refine sw_ gF5_2 Y F fun a85 F h30=>?_;clear Y h28 h29
      refine sv_ gF5_3 (ya_ rfl h30) fun a86 e=>?_
      clear h30;have h5:=pt_ F e;replace F:=pu_ F e;clear e
      refine st_end ?_
      replace h0:=F.of h0;replace h1:=F.of h1;replace h4:=F.of h4;clear h26;have R:=F.r;clear F
      change (cF20).wp _ _ _ _
      refine wp_seq (x:=cF21) (y:=cF28) ?_
      refine wp_seq (x:=cF22) (y:=cF23) ?_
      change (Code.region 6 OF6 false).wp _ _ _ _
      refine reg_in (l:=[0,1,2,3,4]) rfl ?_
      have F:=fe_ R;clear R
      refine sw_ gF6_0 (ym_ rfl (F.of h5)) F fun a87 F h31=>?_
      refine sv_ gF6_1 (ym_ rfl (F.of h1)) fun a88 e=>?_
      have h32:=pt_ F e;replace F:=pu_ F e;replace h31:=so_ e h31;clear e
      have Y:(execOp a88.eval oF6_2).run Try.prog w2=.ok (.value (.int .i64 (IntKind.i64.wrap ((IntKind.i64.wrap (a * b)).tdiv b)))) w2:=by have h8:¬ b=0:=(by omega);unfold oF6_2;go_simp
      refine sw_ gF6_2 Y F fun a89 F h33=>?_;clear Y h31 h32
      refine sv_ gF6_3 (ym_ rfl (F.of h0)) fun a90 e=>?_
      have h34:=pt_ F e;replace F:=pu_ F e;replace h33:=so_ e h33;clear e
      obtain ⟨b91,hb91⟩:∃ x,(((IntKind.i64.wrap ((IntKind.i64.wrap (a * b)).tdiv b):Int) != (a:Int)))=x:=⟨_,rfl⟩
      have Y:(execOp a90.eval oF6_4).run Try.prog w2=.ok (.value (.bool b91)) w2:=by rw [← hb91];unfold oF6_4;go_simp
      refine sw_ gF6_4 Y F fun a92 F h35=>?_;clear Y h33 h34
      refine st_end ?_
      clear h0;clear h1;replace h4:=F.of h4;replace h5:=F.of h5;have R:=F.r;clear F
      change (cF23).wp _ _ _ _
      cases b91 with
      | false =>
       have fb91:=hb91;clear hb91
       simp only [dd_] at fb91
       refine wp_cond_false (x:=cF24) (y:=Code.skip) (eval_slot h35) ?_
       refine wp_skip ?_
       change (cF28).wp _ _ _ _
       refine wp_seq (x:=cF29) (y:=Code.ret) ?_
       change (Code.region 8 OF8 false).wp _ _ _ _
       refine reg_in (l:=[0,1,2]) rfl ?_
       have F:=fe_ R;clear R
       refine sw_ gF8_0 (ym_ rfl (F.of h5)) F fun a93 F h37=>?_
       refine st_call gF8_1 rfl (wanted_free rfl) (yc1_ enA45_31 rfl h37) ((of_any _ (IntKind.i64.wrap (a * b))).mono ?_)
       rintro e9 w94 ⟨rfl,kk⟩
       replace K1:=keep_onto K1 kk
       replace B1:=blk_on B1 kk
       clear kk
       refine ⟨_,rfl,fun a95 e=>?_⟩
       clear h37;have h38:=pt_ F e;replace F:=pu_ F e;clear e
       obtain ⟨w96,Y,hk,hB⟩:=ys6_ (o:=oF8_2) rfl (F.of h4) h38 B1
       replace K1:=kx_ hk K1 (Nat.not_lt.2 LK1_b1);clear B1;have B1:=hB;clear hB hk
       refine st_skip gF8_2 rfl (wanted_free rfl) Y ?_;clear Y
       refine st_end ?_
       replace h4:=F.of h4;clear h5;clear h35;clear h38;have R:=F.r;clear F
       change (Code.ret).wp _ _ _ _
       refine wp_ret ?_
       change bodyPost Try.prog Try.f45 (fun e w'=>WA (resW (big (a * b))) W e w') .ret a95 w96
       refine ret_cell6 (fn:=Try.f45) rfl R h4 B1 ?_
       exact (show WA (resW (big (a * b))) W _ _ by rw [refmul_is HA.out HB.out (by omega) (by omega) (by assumption),resW_n];exact ⟨none,0,rfl,own_zero,K1⟩)
      | true =>
       have fb91:=hb91;clear hb91
       simp only [dd_] at fb91
       refine wp_cond_true (x:=cF24) (y:=Code.skip) (eval_slot h35) ?_
       refine wp_seq (x:=cF25) (y:=Code.ret) ?_
       change (Code.region 7 OF7 false).wp _ _ _ _
       refine reg_in (l:=[0,1]) rfl ?_
       have F:=fe_ R;clear R
       have Y:(execOp a92.eval oF7_0).run Try.prog w2=.ok (.enter 59 #[.string (⟨#[105,110,116,95,111,118,101,114,102,108,111,119]⟩)]) w2:=by unfold oF7_0;go_simp
       have hca:=fails_any (W:=w2) (s:=fOver) (by decide)
       have UKX_b1:=B1.lt
       have HWKX:W.heap.size ≤ w2.heap.size:=K1.size
       refine st_call gF7_0 rfl (wanted_free rfl) Y ((hca).mono ?_);clear Y
       rintro e9 w97 ⟨ax,cx,rfl,hx,kk⟩
       replace K1:=keep_onto K1 kk
       replace B1:=blk_on B1 kk
       clear kk
       clear hca
       have HX:=Lib.hid hx;clear hx
       have KX:=Keep.refl (fun g=>w2.heap.size ≤ g∧g < w97.heap.size) w97
       refine ⟨_,rfl,fun a98 e=>?_⟩
       have h36:=pt_ F e;replace F:=pu_ F e;clear e
       obtain ⟨w99,Y,hk,hB⟩:=ys6_ (o:=oF7_1) rfl (F.of h4) h36 B1
       replace K1:=kx_ hk K1 (Nat.not_lt.2 LK1_b1);replace KX:=kx_ hk KX (fun hx=>absurd hx.1 (Nat.not_le.2 UKX_b1));clear B1;have B1:=hB;clear hB hk
       refine st_skip gF7_1 rfl (wanted_free rfl) Y ?_;clear Y
       refine st_end ?_
       replace h4:=F.of h4;replace h5:=F.of h5;clear h35;clear h36;have R:=F.r;clear F
       change (Code.ret).wp _ _ _ _
       refine wp_ret ?_
       change bodyPost Try.prog Try.f45 (fun e w'=>WA (resW (big (a * b))) W e w') .ret a98 w99
       refine ret_cell6 (fn:=Try.f45) rfl R h4 B1 ?_
       first
        | exact (show WA (resW (big (a * b))) W _ _ by rw [mul_spec (by omega),resW_o];exact ⟨ax,cx,rfl,(HX.out.on KX).up HWKX,K1⟩)
        | exact (show WA (resW (big (a * b))) W _ _ by rw [refmul_not HA.out (by omega) (by assumption),resW_o];exact ⟨ax,cx,rfl,(HX.out.on KX).up HWKX,K1⟩)
     | true =>
      have fb76:=hb76;clear hb76
      simp only [dd_] at fb76
      refine st_val gF3_10 rfl (wanted_is (j:=9) (d:=22) rfl rfl h22 rfl) (ym_ rfl (F.of h0)) fun a100 e=>?_
      have h23:=pt_ F e;replace F:=pu_ F e;replace h19:=so_ e h19;replace h22:=so_ e h22;clear e
      obtain ⟨b101,hb101⟩:∃ x,(((a:Int) == (-1:Int)))=x:=⟨_,rfl⟩
      have Y:(execOp a100.eval oF3_11).run Try.prog w2=.ok (.value (.bool b101)) w2:=by rw [← hb101];unfold oF3_11;go_simp
      refine st_val gF3_11 rfl (wanted_is (j:=9) (d:=22) rfl rfl h22 rfl) Y fun a102 e=>?_;clear Y
      clear h23;have h24:=pt_ F e;replace F:=pu_ F e;replace h19:=so_ e h19;replace h22:=so_ e h22;clear e
      have Y:(execOp a102.eval oF3_12).run Try.prog w2=.ok (.value (.bool b101)) w2:=by unfold oF3_12;go_simp
      refine st_val gF3_12 rfl (wanted_is (j:=6) (d:=19) rfl rfl h19 rfl) Y fun a103 e=>?_;clear Y
      clear h22 h24;have h25:=pt_ F e;replace F:=pu_ F e;replace h19:=so_ e h19;clear e
      have Y:(execOp a103.eval oF3_13).run Try.prog w2=.ok (.value (.bool b101)) w2:=by unfold oF3_13;go_simp
      refine sw_ gF3_13 Y F fun a104 F h26=>?_;clear Y h19 h25
      refine st_end ?_
      replace h0:=F.of h0;replace h1:=F.of h1;replace h4:=F.of h4;clear h11;have R:=F.r;clear F
      change (cF13).wp _ _ _ _
      cases b101 with
      | false =>
       have fb101:=hb101;clear hb101
       simp only [dd_] at fb101
       refine wp_cond_false (x:=cF14) (y:=Code.skip) (eval_slot h26) ?_
       refine wp_skip ?_
       change (cF18).wp _ _ _ _
       refine wp_seq (x:=cF19) (y:=cF20) ?_
       change (Code.region 5 OF5 false).wp _ _ _ _
       refine reg_in (l:=[0,1,2,3]) rfl ?_
       have F:=fe_ R;clear R
       refine sw_ gF5_0 (ym_ rfl (F.of h0)) F fun a105 F h28=>?_
       refine sv_ gF5_1 (ym_ rfl (F.of h1)) fun a106 e=>?_
       have h29:=pt_ F e;replace F:=pu_ F e;replace h28:=so_ e h28;clear e
       have Y:(execOp a106.eval oF5_2).run Try.prog w2=.ok (.value (.int .i64 (IntKind.i64.wrap (a * b)))) w2:=by unfold oF5_2;go_simp
       refine sw_ gF5_2 Y F fun a107 F h30=>?_;clear Y h28 h29
       refine sv_ gF5_3 (ya_ rfl h30) fun a108 e=>?_
       clear h30;have h5:=pt_ F e;replace F:=pu_ F e;clear e
       refine st_end ?_
       replace h0:=F.of h0;replace h1:=F.of h1;replace h4:=F.of h4;clear h26;have R:=F.r;clear F
       change (cF20).wp _ _ _ _
       refine wp_seq (x:=cF21) (y:=cF28) ?_
       refine wp_seq (x:=cF22) (y:=cF23) ?_
       change (Code.region 6 OF6 false).wp _ _ _ _
       refine reg_in (l:=[0,1,2,3,4]) rfl ?_
       have F:=fe_ R;clear R
       refine sw_ gF6_0 (ym_ rfl (F.of h5)) F fun a109 F h31=>?_
       refine sv_ gF6_1 (ym_ rfl (F.of h1)) fun a110 e=>?_
       have h32:=pt_ F e;replace F:=pu_ F e;replace h31:=so_ e h31;clear e
       have Y:(execOp a110.eval oF6_2).run Try.prog w2=.ok (.value (.int .i64 (IntKind.i64.wrap ((IntKind.i64.wrap (a * b)).tdiv b)))) w2:=by have h8:¬ b=0:=(by omega);unfold oF6_2;go_simp
       refine sw_ gF6_2 Y F fun a111 F h33=>?_;clear Y h31 h32
       refine sv_ gF6_3 (ym_ rfl (F.of h0)) fun a112 e=>?_
       have h34:=pt_ F e;replace F:=pu_ F e;replace h33:=so_ e h33;clear e
       obtain ⟨b113,hb113⟩:∃ x,(((IntKind.i64.wrap ((IntKind.i64.wrap (a * b)).tdiv b):Int) != (a:Int)))=x:=⟨_,rfl⟩
       have Y:(execOp a112.eval oF6_4).run Try.prog w2=.ok (.value (.bool b113)) w2:=by rw [← hb113];unfold oF6_4;go_simp
       refine sw_ gF6_4 Y F fun a114 F h35=>?_;clear Y h33 h34
       refine st_end ?_
       clear h0;clear h1;replace h4:=F.of h4;replace h5:=F.of h5;have R:=F.r;clear F
       change (cF23).wp _ _ _ _
       cases b113 with
       | false =>
        have fb113:=hb113;clear hb113
        simp only [dd_] at fb113
        refine wp_cond_false (x:=cF24) (y:=Code.skip) (eval_slot h35) ?_
        refine wp_skip ?_
        change (cF28).wp _ _ _ _
        refine wp_seq (x:=cF29) (y:=Code.ret) ?_
        change (Code.region 8 OF8 false).wp _ _ _ _
        refine reg_in (l:=[0,1,2]) rfl ?_
        have F:=fe_ R;clear R
        refine sw_ gF8_0 (ym_ rfl (F.of h5)) F fun a115 F h37=>?_
        refine st_call gF8_1 rfl (wanted_free rfl) (yc1_ enA45_31 rfl h37) ((of_any _ (IntKind.i64.wrap (a * b))).mono ?_)
        rintro e9 w116 ⟨rfl,kk⟩
        replace K1:=keep_onto K1 kk
        replace B1:=blk_on B1 kk
        clear kk
        refine ⟨_,rfl,fun a117 e=>?_⟩
        clear h37;have h38:=pt_ F e;replace F:=pu_ F e;clear e
        obtain ⟨w118,Y,hk,hB⟩:=ys6_ (o:=oF8_2) rfl (F.of h4) h38 B1
        replace K1:=kx_ hk K1 (Nat.not_lt.2 LK1_b1);clear B1;have B1:=hB;clear hB hk
        refine st_skip gF8_2 rfl (wanted_free rfl) Y ?_;clear Y
        refine st_end ?_
        replace h4:=F.of h4;clear h5;clear h35;clear h38;have R:=F.r;clear F
        change (Code.ret).wp _ _ _ _
        refine wp_ret ?_
        change bodyPost Try.prog Try.f45 (fun e w'=>WA (resW (big (a * b))) W e w') .ret a117 w118
        refine ret_cell6 (fn:=Try.f45) rfl R h4 B1 ?_
        exact (show WA (resW (big (a * b))) W _ _ by rw [refmul_is HA.out HB.out (by omega) (by omega) (by assumption),resW_n];exact ⟨none,0,rfl,own_zero,K1⟩)
       | true =>
        have fb113:=hb113;clear hb113
        simp only [dd_] at fb113
        refine wp_cond_true (x:=cF24) (y:=Code.skip) (eval_slot h35) ?_
        refine wp_seq (x:=cF25) (y:=Code.ret) ?_
        change (Code.region 7 OF7 false).wp _ _ _ _
        refine reg_in (l:=[0,1]) rfl ?_
        have F:=fe_ R;clear R
        have Y:(execOp a114.eval oF7_0).run Try.prog w2=.ok (.enter 59 #[.string (⟨#[105,110,116,95,111,118,101,114,102,108,111,119]⟩)]) w2:=by unfold oF7_0;go_simp
        have hca:=fails_any (W:=w2) (s:=fOver) (by decide)
        have UKX_b1:=B1.lt
        have HWKX:W.heap.size ≤ w2.heap.size:=K1.size
        refine st_call gF7_0 rfl (wanted_free rfl) Y ((hca).mono ?_);clear Y
        rintro e9 w119 ⟨ax,cx,rfl,hx,kk⟩
        replace K1:=keep_onto K1 kk
        replace B1:=blk_on B1 kk
        clear kk
        clear hca
        have HX:=Lib.hid hx;clear hx
        have KX:=Keep.refl (fun g=>w2.heap.size ≤ g∧g < w119.heap.size) w119
        refine ⟨_,rfl,fun a120 e=>?_⟩
        have h36:=pt_ F e;replace F:=pu_ F e;clear e
        obtain ⟨w121,Y,hk,hB⟩:=ys6_ (o:=oF7_1) rfl (F.of h4) h36 B1
        replace K1:=kx_ hk K1 (Nat.not_lt.2 LK1_b1);replace KX:=kx_ hk KX (fun hx=>absurd hx.1 (Nat.not_le.2 UKX_b1));clear B1;have B1:=hB;clear hB hk
        refine st_skip gF7_1 rfl (wanted_free rfl) Y ?_;clear Y
        refine st_end ?_
        replace h4:=F.of h4;replace h5:=F.of h5;clear h35;clear h36;have R:=F.r;clear F
        change (Code.ret).wp _ _ _ _
        refine wp_ret ?_
        change bodyPost Try.prog Try.f45 (fun e w'=>WA (resW (big (a * b))) W e w') .ret a120 w121
        refine ret_cell6 (fn:=Try.f45) rfl R h4 B1 ?_
        first
         | exact (show WA (resW (big (a * b))) W _ _ by rw [mul_spec (by omega),resW_o];exact ⟨ax,cx,rfl,(HX.out.on KX).up HWKX,K1⟩)
         | exact (show WA (resW (big (a * b))) W _ _ by rw [refmul_not HA.out (by omega) (by assumption),resW_o];exact ⟨ax,cx,rfl,(HX.out.on KX).up HWKX,K1⟩)
      | true =>
       have fb101:=hb101;clear hb101
       simp only [dd_] at fb101
       refine wp_cond_true (x:=cF14) (y:=Code.skip) (eval_slot h26) ?_
       refine wp_seq (x:=cF15) (y:=Code.ret) ?_
       change (Code.region 4 OF4 false).wp _ _ _ _
       refine reg_in (l:=[0,1]) rfl ?_
       have F:=fe_ R;clear R
       have Y:(execOp a104.eval oF4_0).run Try.prog w2=.ok (.enter 59 #[.string (⟨#[105,110,116,95,111,118,101,114,102,108,111,119]⟩)]) w2:=by unfold oF4_0;go_simp
       have hca:=fails_any (W:=w2) (s:=fOver) (by decide)
       have UKX_b1:=B1.lt
       have HWKX:W.heap.size ≤ w2.heap.size:=K1.size
       refine st_call gF4_0 rfl (wanted_free rfl) Y ((hca).mono ?_);clear Y
       rintro e9 w122 ⟨ax,cx,rfl,hx,kk⟩
       replace K1:=keep_onto K1 kk
       replace B1:=blk_on B1 kk
       clear kk
       clear hca
       have HX:=Lib.hid hx;clear hx
       have KX:=Keep.refl (fun g=>w2.heap.size ≤ g∧g < w122.heap.size) w122
       refine ⟨_,rfl,fun a123 e=>?_⟩
       have h27:=pt_ F e;replace F:=pu_ F e;clear e
       obtain ⟨w124,Y,hk,hB⟩:=ys6_ (o:=oF4_1) rfl (F.of h4) h27 B1
       replace K1:=kx_ hk K1 (Nat.not_lt.2 LK1_b1);replace KX:=kx_ hk KX (fun hx=>absurd hx.1 (Nat.not_le.2 UKX_b1));clear B1;have B1:=hB;clear hB hk
       refine st_skip gF4_1 rfl (wanted_free rfl) Y ?_;clear Y
       refine st_end ?_
       replace h0:=F.of h0;replace h1:=F.of h1;replace h4:=F.of h4;clear h26;clear h27;have R:=F.r;clear F
       change (Code.ret).wp _ _ _ _
       refine wp_ret ?_
       change bodyPost Try.prog Try.f45 (fun e w'=>WA (resW (big (a * b))) W e w') .ret a123 w124
       refine ret_cell6 (fn:=Try.f45) rfl R h4 B1 ?_
       first
        | exact (show WA (resW (big (a * b))) W _ _ by rw [mul_spec (by omega),resW_o];exact ⟨ax,cx,rfl,(HX.out.on KX).up HWKX,K1⟩)
        | exact (show WA (resW (big (a * b))) W _ _ by rw [refmul_not HA.out (by omega) (by assumption),resW_o];exact ⟨ax,cx,rfl,(HX.out.on KX).up HWKX,K1⟩)
    | true =>
     have fb71:=hb71;clear hb71
     simp only [dd_] at fb71
     refine st_not gF3_7 rfl (wanted_is (j:=6) (d:=19) rfl rfl h19 rfl) fun a125 e=>?_
     have h20:=pt_ F e;replace F:=pu_ F e;replace h19:=so_ e h19;clear e
     refine st_not gF3_8 rfl (wanted_is (j:=6) (d:=19) rfl rfl h19 rfl) fun a126 e=>?_
     clear h20;have h21:=pt_ F e;replace F:=pu_ F e;replace h19:=so_ e h19;clear e
     refine st_not gF3_9 rfl (wanted_is (j:=6) (d:=19) rfl rfl h19 rfl) fun a127 e=>?_
     clear h21;have h22:=pt_ F e;replace F:=pu_ F e;replace h19:=so_ e h19;clear e
     refine st_not gF3_10 rfl (wanted_un (j:=9) (d:=22) rfl rfl h22) fun a128 e=>?_
     have h23:=pt_ F e;replace F:=pu_ F e;replace h19:=so_ e h19;replace h22:=so_ e h22;clear e
     refine st_not gF3_11 rfl (wanted_un (j:=9) (d:=22) rfl rfl h22) fun a129 e=>?_
     clear h23;have h24:=pt_ F e;replace F:=pu_ F e;replace h19:=so_ e h19;replace h22:=so_ e h22;clear e
     refine st_not gF3_12 rfl (wanted_is (j:=6) (d:=19) rfl rfl h19 rfl) fun a130 e=>?_
     clear h22 h24;have h25:=pt_ F e;replace F:=pu_ F e;replace h19:=so_ e h19;clear e
     have Y:(execOp a130.eval oF3_13).run Try.prog w2=.ok (.value (.bool true)) w2:=by unfold oF3_13;go_simp
     refine sw_ gF3_13 Y F fun a131 F h26=>?_;clear Y h19 h25
     refine st_end ?_
     replace h0:=F.of h0;replace h1:=F.of h1;replace h4:=F.of h4;clear h11;have R:=F.r;clear F
     change (cF13).wp _ _ _ _
     refine wp_cond_true (x:=cF14) (y:=Code.skip) (eval_slot h26) ?_
     refine wp_seq (x:=cF15) (y:=Code.ret) ?_
     change (Code.region 4 OF4 false).wp _ _ _ _
     refine reg_in (l:=[0,1]) rfl ?_
     have F:=fe_ R;clear R
     have Y:(execOp a131.eval oF4_0).run Try.prog w2=.ok (.enter 59 #[.string (⟨#[105,110,116,95,111,118,101,114,102,108,111,119]⟩)]) w2:=by unfold oF4_0;go_simp
     have hca:=fails_any (W:=w2) (s:=fOver) (by decide)
     have UKX_b1:=B1.lt
     have HWKX:W.heap.size ≤ w2.heap.size:=K1.size
     refine st_call gF4_0 rfl (wanted_free rfl) Y ((hca).mono ?_);clear Y
     rintro e9 w132 ⟨ax,cx,rfl,hx,kk⟩
     replace K1:=keep_onto K1 kk
     replace B1:=blk_on B1 kk
     clear kk
     clear hca
     have HX:=Lib.hid hx;clear hx
     have KX:=Keep.refl (fun g=>w2.heap.size ≤ g∧g < w132.heap.size) w132
     refine ⟨_,rfl,fun a133 e=>?_⟩
     have h27:=pt_ F e;replace F:=pu_ F e;clear e
     obtain ⟨w134,Y,hk,hB⟩:=ys6_ (o:=oF4_1) rfl (F.of h4) h27 B1
     replace K1:=kx_ hk K1 (Nat.not_lt.2 LK1_b1);replace KX:=kx_ hk KX (fun hx=>absurd hx.1 (Nat.not_le.2 UKX_b1));clear B1;have B1:=hB;clear hB hk
     refine st_skip gF4_1 rfl (wanted_free rfl) Y ?_;clear Y
     refine st_end ?_
     replace h0:=F.of h0;replace h1:=F.of h1;replace h4:=F.of h4;clear h26;clear h27;have R:=F.r;clear F
     change (Code.ret).wp _ _ _ _
     refine wp_ret ?_
     change bodyPost Try.prog Try.f45 (fun e w'=>WA (resW (big (a * b))) W e w') .ret a133 w134
     refine ret_cell6 (fn:=Try.f45) rfl R h4 B1 ?_
     first
      | exact (show WA (resW (big (a * b))) W _ _ by rw [mul_spec (by omega),resW_o];exact ⟨ax,cx,rfl,(HX.out.on KX).up HWKX,K1⟩)
      | exact (show WA (resW (big (a * b))) W _ _ by rw [refmul_not HA.out (by omega) (by assumption),resW_o];exact ⟨ax,cx,rfl,(HX.out.on KX).up HWKX,K1⟩)
  | true =>
   have fb9:=hb9;clear hb9
   simp only [dd_] at fb9
   refine wp_cond_true (x:=cF6) (y:=Code.skip) (eval_slot h11) ?_
   refine wp_seq (x:=cF7) (y:=Code.ret) ?_
   change (Code.region 2 OF2 false).wp _ _ _ _
   refine reg_in (l:=[0,1]) rfl ?_
   have F:=fe_ R;clear R
   have Y:(execOp a11.eval oF2_0).run Try.prog w2=.ok (.enter 31 #[.int .i64 0]) w2:=by unfold oF2_0;go_simp
   refine st_call gF2_0 rfl (wanted_free rfl) Y ((of_any _ (0)).mono ?_);clear Y
   rintro e9 w135 ⟨rfl,kk⟩
   replace K1:=keep_onto K1 kk
   replace B1:=blk_on B1 kk
   clear kk
   refine ⟨_,rfl,fun a136 e=>?_⟩
   have h12:=pt_ F e;replace F:=pu_ F e;clear e
   obtain ⟨w137,Y,hk,hB⟩:=ys6_ (o:=oF2_1) rfl (F.of h4) h12 B1
   replace K1:=kx_ hk K1 (Nat.not_lt.2 LK1_b1);clear B1;have B1:=hB;clear hB hk
   refine st_skip gF2_1 rfl (wanted_free rfl) Y ?_;clear Y
   refine st_end ?_
   replace h0:=F.of h0;replace h1:=F.of h1;replace h4:=F.of h4;clear h11;clear h12;have R:=F.r;clear F
   change (Code.ret).wp _ _ _ _
   refine wp_ret ?_
   change bodyPost Try.prog Try.f45 (fun e w'=>WA (resW (big (a * b))) W e w') .ret a136 w137
   refine ret_cell6 (fn:=Try.f45) rfl R h4 B1 ?_
   exact (show WA (resW (big (a * b))) W _ _ by rw [mul_zero1 (by omega),resW_n];exact ⟨none,0,rfl,own_zero,K1⟩)
 | true =>
  have fb5:=hb5;clear hb5
  simp only [dd_] at fb5
  refine st_not gF1_3 rfl (wanted_is (j:=2) (d:=8) rfl rfl h8 rfl) fun a138 e=>?_
  have h9:=pt_ F e;replace F:=pu_ F e;replace h8:=so_ e h8;clear e
  refine st_not gF1_4 rfl (wanted_is (j:=2) (d:=8) rfl rfl h8 rfl) fun a139 e=>?_
  clear h9;have h10:=pt_ F e;replace F:=pu_ F e;replace h8:=so_ e h8;clear e
  have Y:(execOp a139.eval oF1_5).run Try.prog w2=.ok (.value (.bool true)) w2:=by unfold oF1_5;go_simp
  refine sw_ gF1_5 Y F fun a140 F h11=>?_;clear Y h8 h10
  refine st_end ?_
  replace h0:=F.of h0;replace h1:=F.of h1;replace h4:=F.of h4;have R:=F.r;clear F
  change (cF5).wp _ _ _ _
  refine wp_cond_true (x:=cF6) (y:=Code.skip) (eval_slot h11) ?_
  refine wp_seq (x:=cF7) (y:=Code.ret) ?_
  change (Code.region 2 OF2 false).wp _ _ _ _
  refine reg_in (l:=[0,1]) rfl ?_
  have F:=fe_ R;clear R
  have Y:(execOp a140.eval oF2_0).run Try.prog w2=.ok (.enter 31 #[.int .i64 0]) w2:=by unfold oF2_0;go_simp
  refine st_call gF2_0 rfl (wanted_free rfl) Y ((of_any _ (0)).mono ?_);clear Y
  rintro e9 w141 ⟨rfl,kk⟩
  replace K1:=keep_onto K1 kk
  replace B1:=blk_on B1 kk
  clear kk
  refine ⟨_,rfl,fun a142 e=>?_⟩
  have h12:=pt_ F e;replace F:=pu_ F e;clear e
  obtain ⟨w143,Y,hk,hB⟩:=ys6_ (o:=oF2_1) rfl (F.of h4) h12 B1
  replace K1:=kx_ hk K1 (Nat.not_lt.2 LK1_b1);clear B1;have B1:=hB;clear hB hk
  refine st_skip gF2_1 rfl (wanted_free rfl) Y ?_;clear Y
  refine st_end ?_
  replace h0:=F.of h0;replace h1:=F.of h1;replace h4:=F.of h4;clear h11;clear h12;have R:=F.r;clear F
  change (Code.ret).wp _ _ _ _
  refine wp_ret ?_
  change bodyPost Try.prog Try.f45 (fun e w'=>WA (resW (big (a * b))) W e w') .ret a142 w143
  refine ret_cell6 (fn:=Try.f45) rfl R h4 B1 ?_
  exact (show WA (resW (big (a * b))) W _ _ by rw [mul_zero1 (by omega),resW_n];exact ⟨none,0,rfl,own_zero,K1⟩)
theorem rmul_any (W:World) {a b:Int} (ha:inR a) (hb:inR b):Calls Try.prog 45 #[.int .i64 a,.int .i64 b] W fun e w'=>WA (resW (big (a * b))) W e w':=by
  refine enter_sx Try.func45 bodyA45 rfl (by show (2:Nat) ≤ 39;decide) fun f0 R hs=>?_
  exact rmul_w R (hs 0 _ rfl) (hs 1 _ rfl) (Keep.refl _ W) (Lib.hid ha) (Lib.hid hb)
def oD0_0:Oper:=⟨some 6,Op.alloc 30,0, "ref.go:167",#[],none⟩
def OD0:Array Oper:=List.toArray (oD0_0::[])
theorem gD0_0:OD0[0]? = some oD0_0:=rfl
def cD1:Code:=Code.region 0 OD0 false
def oD1_0:Oper:=⟨some 9,Op.move (Operand.tmp 2),2, "ref.go:168",#[],none⟩
def oD1_1:Oper:=⟨some 10,Op.binOp Go.BinOp.eql 2 (Operand.tmp 9) (Operand.const (Value.int IntKind.i64 0)) 2,4, "ref.go:168",#[ed_ 0],none⟩
def OD1:Array Oper:=List.toArray (oD1_0::oD1_1::[])
theorem gD1_0:OD1[0]? = some oD1_0:=rfl
theorem gD1_1:OD1[1]? = some oD1_1:=rfl
def cD4:Code:=Code.region 1 OD1 false
def oD2_0:Oper:=⟨some 11,Op.call { callee:=Callee.value (Operand.func 59),args:=#[Operand.const (Value.string { data:=#[122,101,114,111,95,100,105,118,105,115,111,114] })],argTypes:=#[9] },30, "ref.go:169",#[],none⟩
def oD2_1:Oper:=⟨none,Op.store 30 (Operand.tmp 6) (Operand.tmp 11),0, "ref.go:169",#[ed_ 0,ec_ 0,ep_ 0],none⟩
def OD2:Array Oper:=List.toArray (oD2_0::oD2_1::[])
theorem gD2_0:OD2[0]? = some oD2_0:=rfl
theorem gD2_1:OD2[1]? = some oD2_1:=rfl
def cD7:Code:=Code.region 2 OD2 false
def cD6:Code:=Code.seq cD7 Code.ret
def cD5:Code:=Code.cond (Operand.tmp 10) cD6 Code.skip
def cD3:Code:=Code.seq cD4 cD5
def oD3_0:Oper:=⟨some 12,Op.move (Operand.tmp 2),2, "ref.go:171",#[],none⟩
def oD3_1:Oper:=⟨some 13,Op.binOp Go.BinOp.eql 2 (Operand.tmp 12) (Operand.const (Value.int IntKind.i64 (-1))) 2,4, "ref.go:171",#[ed_ 0],none⟩
def OD3:Array Oper:=List.toArray (oD3_0::oD3_1::[])
theorem gD3_0:OD3[0]? = some oD3_0:=rfl
theorem gD3_1:OD3[1]? = some oD3_1:=rfl
def cD12:Code:=Code.region 3 OD3 false
def oD4_0:Oper:=⟨some 14,Op.move (Operand.tmp 0),9, "ref.go:172",#[],none⟩
def oD4_1:Oper:=⟨some 15,Op.binOp Go.BinOp.eql 9 (Operand.tmp 14) (Operand.const (Value.string { data:=#[47,47] })) 9,4, "ref.go:172",#[ed_ 0],none⟩
def OD4:Array Oper:=List.toArray (oD4_0::oD4_1::[])
theorem gD4_0:OD4[0]? = some oD4_0:=rfl
theorem gD4_1:OD4[1]? = some oD4_1:=rfl
def cD16:Code:=Code.region 4 OD4 false
def oD5_0:Oper:=⟨some 16,Op.move (Operand.tmp 1),2, "ref.go:173",#[],none⟩
def oD5_1:Oper:=⟨some 17,Op.call { callee:=Callee.value (Operand.func 43),args:=#[Operand.const (Value.int IntKind.i64 0),Operand.tmp 16],argTypes:=#[2,2] },30, "ref.go:173",#[ed_ 0],none⟩
def oD5_2:Oper:=⟨none,Op.store 30 (Operand.tmp 6) (Operand.tmp 17),0, "ref.go:173",#[ed_ 1,ec_ 1,ep_ 0,ep_ 1],none⟩
def OD5:Array Oper:=List.toArray (oD5_0::oD5_1::oD5_2::[])
theorem gD5_0:OD5[0]? = some oD5_0:=rfl
theorem gD5_1:OD5[1]? = some oD5_1:=rfl
theorem gD5_2:OD5[2]? = some oD5_2:=rfl
def cD19:Code:=Code.region 5 OD5 false
def cD18:Code:=Code.seq cD19 Code.ret
def cD17:Code:=Code.cond (Operand.tmp 15) cD18 Code.skip
def cD15:Code:=Code.seq cD16 cD17
def oD6_0:Oper:=⟨some 18,Op.call { callee:=Callee.value (Operand.func 31),args:=#[Operand.const (Value.int IntKind.i64 0)],argTypes:=#[2] },30, "ref.go:175",#[],none⟩
def oD6_1:Oper:=⟨none,Op.store 30 (Operand.tmp 6) (Operand.tmp 18),0, "ref.go:175",#[ed_ 0,ec_ 0,ep_ 0],none⟩
def OD6:Array Oper:=List.toArray (oD6_0::oD6_1::[])
theorem gD6_0:OD6[0]? = some oD6_0:=rfl
theorem gD6_1:OD6[1]? = some oD6_1:=rfl
def cD23:Code:=Code.region 6 OD6 false
def cD22:Code:=Code.seq cD23 Code.ret
def cD14:Code:=Code.seq cD15 cD22
def cD13:Code:=Code.cond (Operand.tmp 13) cD14 Code.skip
def cD11:Code:=Code.seq cD12 cD13
def oD7_0:Oper:=⟨some 19,Op.move (Operand.tmp 1),2, "ref.go:177",#[],none⟩
def oD7_1:Oper:=⟨some 20,Op.move (Operand.tmp 2),2, "ref.go:177",#[],none⟩
def oD7_2:Oper:=⟨some 21,Op.binOp Go.BinOp.quo 2 (Operand.tmp 19) (Operand.tmp 20) 2,2, "ref.go:177",#[ed_ 0,ed_ 1],none⟩
def oD7_3:Oper:=⟨some 7,Op.assign (Operand.tmp 21),2, "ref.go:177",#[ed_ 2,ep_ 0,ep_ 1,ep_ 2],none⟩
def OD7:Array Oper:=List.toArray (oD7_0::oD7_1::oD7_2::oD7_3::[])
theorem gD7_0:OD7[0]? = some oD7_0:=rfl
theorem gD7_1:OD7[1]? = some oD7_1:=rfl
theorem gD7_2:OD7[2]? = some oD7_2:=rfl
theorem gD7_3:OD7[3]? = some oD7_3:=rfl
def cD27:Code:=Code.region 7 OD7 false
def oD8_0:Oper:=⟨some 22,Op.move (Operand.tmp 0),9, "ref.go:178",#[],none⟩
def oD8_1:Oper:=⟨some 23,Op.binOp Go.BinOp.eql 9 (Operand.tmp 22) (Operand.const (Value.string { data:=#[47,47] })) 9,4, "ref.go:178",#[ed_ 0],none⟩
def OD8:Array Oper:=List.toArray (oD8_0::oD8_1::[])
theorem gD8_0:OD8[0]? = some oD8_0:=rfl
theorem gD8_1:OD8[1]? = some oD8_1:=rfl
def cD30:Code:=Code.region 8 OD8 false
def oD9_0:Oper:=⟨some 24,Op.move (Operand.tmp 7),2, "ref.go:179",#[],none⟩
def oD9_1:Oper:=⟨some 25,Op.call { callee:=Callee.value (Operand.func 31),args:=#[Operand.tmp 24],argTypes:=#[2] },30, "ref.go:179",#[ed_ 0],none⟩
def oD9_2:Oper:=⟨none,Op.store 30 (Operand.tmp 6) (Operand.tmp 25),0, "ref.go:179",#[ed_ 1,ec_ 1,ep_ 0,ep_ 1],none⟩
def OD9:Array Oper:=List.toArray (oD9_0::oD9_1::oD9_2::[])
theorem gD9_0:OD9[0]? = some oD9_0:=rfl
theorem gD9_1:OD9[1]? = some oD9_1:=rfl
theorem gD9_2:OD9[2]? = some oD9_2:=rfl
def cD33:Code:=Code.region 9 OD9 false
def cD32:Code:=Code.seq cD33 Code.ret
def cD31:Code:=Code.cond (Operand.tmp 23) cD32 Code.skip
def cD29:Code:=Code.seq cD30 cD31
def oD10_0:Oper:=⟨some 26,Op.move (Operand.tmp 1),2, "ref.go:181",#[],none⟩
def oD10_1:Oper:=⟨some 27,Op.move (Operand.tmp 2),2, "ref.go:181",#[],none⟩
def oD10_2:Oper:=⟨some 28,Op.move (Operand.tmp 7),2, "ref.go:181",#[],none⟩
def oD10_3:Oper:=⟨some 29,Op.binOp Go.BinOp.mul 2 (Operand.tmp 27) (Operand.tmp 28) 2,2, "ref.go:181",#[ed_ 1,ed_ 2],none⟩
def oD10_4:Oper:=⟨some 30,Op.binOp Go.BinOp.sub 2 (Operand.tmp 26) (Operand.tmp 29) 2,2, "ref.go:181",#[ed_ 0,ed_ 3],none⟩
def oD10_5:Oper:=⟨some 8,Op.assign (Operand.tmp 30),2, "ref.go:181",#[ed_ 4,ep_ 0,ep_ 1,ep_ 2,ep_ 3,ep_ 4],none⟩
def OD10:Array Oper:=List.toArray (oD10_0::oD10_1::oD10_2::oD10_3::oD10_4::oD10_5::[])
theorem gD10_0:OD10[0]? = some oD10_0:=rfl
theorem gD10_1:OD10[1]? = some oD10_1:=rfl
theorem gD10_2:OD10[2]? = some oD10_2:=rfl
theorem gD10_3:OD10[3]? = some oD10_3:=rfl
theorem gD10_4:OD10[4]? = some oD10_4:=rfl
theorem gD10_5:OD10[5]? = some oD10_5:=rfl
def cD37:Code:=Code.region 10 OD10 false
def oD11_0:Oper:=⟨some 31,Op.move (Operand.tmp 0),9, "ref.go:182",#[],none⟩
def oD11_1:Oper:=⟨some 32,Op.binOp Go.BinOp.eql 9 (Operand.tmp 31) (Operand.const (Value.string { data:=#[109,111,100] })) 9,4, "ref.go:182",#[ed_ 0],none⟩
def oD11_2:Oper:=⟨some 33,Op.move (Operand.tmp 32),4, "ref.go:182",#[ed_ 1],none⟩
def oD11_3:Oper:=⟨some 34,Op.move (Operand.tmp 8),2, "ref.go:182",#[eg_ 2],some (2,true)⟩
def oD11_4:Oper:=⟨some 35,Op.binOp Go.BinOp.lss 2 (Operand.tmp 34) (Operand.const (Value.int IntKind.i64 0)) 2,4, "ref.go:182",#[ed_ 3,eg_ 2],some (2,true)⟩
def oD11_5:Oper:=⟨some 36,Op.move (Operand.tmp 35),4, "ref.go:182",#[ed_ 4,ec_ 2,eg_ 2],some (2,true)⟩
def oD11_6:Oper:=⟨some 37,Op.move (Operand.tmp 2),2, "ref.go:182",#[eg_ 5],some (5,true)⟩
def oD11_7:Oper:=⟨some 38,Op.binOp Go.BinOp.gtr 2 (Operand.tmp 37) (Operand.const (Value.int IntKind.i64 0)) 2,4, "ref.go:182",#[ed_ 6,eg_ 5],some (5,true)⟩
def oD11_8:Oper:=⟨some 39,Op.pick (Operand.tmp 36) (Operand.tmp 38) (Operand.const (Value.bool false)),4, "ref.go:182",#[ed_ 5,ed_ 7,eg_ 2],some (2,true)⟩
def oD11_9:Oper:=⟨some 40,Op.move (Operand.tmp 39),4, "ref.go:182",#[ed_ 8,ec_ 5,eg_ 2],some (2,true)⟩
def oD11_10:Oper:=⟨some 41,Op.move (Operand.tmp 8),2, "ref.go:182",#[eg_ 9],some (9,false)⟩
def oD11_11:Oper:=⟨some 42,Op.binOp Go.BinOp.gtr 2 (Operand.tmp 41) (Operand.const (Value.int IntKind.i64 0)) 2,4, "ref.go:182",#[ed_ 10,eg_ 9],some (9,false)⟩
def oD11_12:Oper:=⟨some 43,Op.move (Operand.tmp 42),4, "ref.go:182",#[ed_ 11,ec_ 9,eg_ 9],some (9,false)⟩
def oD11_13:Oper:=⟨some 44,Op.move (Operand.tmp 2),2, "ref.go:182",#[eg_ 12],some (12,true)⟩
def oD11_14:Oper:=⟨some 45,Op.binOp Go.BinOp.lss 2 (Operand.tmp 44) (Operand.const (Value.int IntKind.i64 0)) 2,4, "ref.go:182",#[ed_ 13,eg_ 12],some (12,true)⟩
def oD11_15:Oper:=⟨some 46,Op.pick (Operand.tmp 43) (Operand.tmp 45) (Operand.const (Value.bool false)),4, "ref.go:182",#[ed_ 12,ed_ 14,eg_ 9],some (9,false)⟩
def oD11_16:Oper:=⟨some 47,Op.pick (Operand.tmp 40) (Operand.const (Value.bool true)) (Operand.tmp 46),4, "ref.go:182",#[ed_ 9,ed_ 15,eg_ 2],some (2,true)⟩
def oD11_17:Oper:=⟨some 48,Op.pick (Operand.tmp 33) (Operand.tmp 47) (Operand.const (Value.bool false)),4, "ref.go:182",#[ed_ 2,ed_ 16],none⟩
def OD11:Array Oper:=List.toArray (oD11_0::oD11_1::oD11_2::oD11_3::oD11_4::oD11_5::oD11_6::oD11_7::oD11_8::oD11_9::oD11_10::oD11_11::oD11_12::oD11_13::oD11_14::oD11_15::oD11_16::oD11_17::[])
theorem gD11_0:OD11[0]? = some oD11_0:=rfl
theorem gD11_1:OD11[1]? = some oD11_1:=rfl
theorem gD11_2:OD11[2]? = some oD11_2:=rfl
theorem gD11_3:OD11[3]? = some oD11_3:=rfl
theorem gD11_4:OD11[4]? = some oD11_4:=rfl
theorem gD11_5:OD11[5]? = some oD11_5:=rfl
theorem gD11_6:OD11[6]? = some oD11_6:=rfl
theorem gD11_7:OD11[7]? = some oD11_7:=rfl
theorem gD11_8:OD11[8]? = some oD11_8:=rfl
theorem gD11_9:OD11[9]? = some oD11_9:=rfl
theorem gD11_10:OD11[10]? = some oD11_10:=rfl
theorem gD11_11:OD11[11]? = some oD11_11:=rfl
theorem gD11_12:OD11[12]? = some oD11_12:=rfl
theorem gD11_13:OD11[13]? = some oD11_13:=rfl
theorem gD11_14:OD11[14]? = some oD11_14:=rfl
theorem gD11_15:OD11[15]? = some oD11_15:=rfl
theorem gD11_16:OD11[16]? = some oD11_16:=rfl
theorem gD11_17:OD11[17]? = some oD11_17:=rfl
def cD40:Code:=Code.region 11 OD11 false
def oD12_0:Oper:=⟨some 49,Op.move (Operand.tmp 8),2, "ref.go:183",#[],none⟩
def oD12_1:Oper:=⟨some 50,Op.move (Operand.tmp 2),2, "ref.go:183",#[],none⟩
def oD12_2:Oper:=⟨some 51,Op.binOp Go.BinOp.add 2 (Operand.tmp 49) (Operand.tmp 50) 2,2, "ref.go:183",#[ed_ 0,ed_ 1],none⟩
def oD12_3:Oper:=⟨some 8,Op.assign (Operand.tmp 51),2, "ref.go:183",#[ed_ 2,ep_ 0,ep_ 1,ep_ 2],none⟩
def OD12:Array Oper:=List.toArray (oD12_0::oD12_1::oD12_2::oD12_3::[])
theorem gD12_0:OD12[0]? = some oD12_0:=rfl
theorem gD12_1:OD12[1]? = some oD12_1:=rfl
theorem gD12_2:OD12[2]? = some oD12_2:=rfl
theorem gD12_3:OD12[3]? = some oD12_3:=rfl
def cD42:Code:=Code.region 12 OD12 false
def cD41:Code:=Code.cond (Operand.tmp 48) cD42 Code.skip
def cD39:Code:=Code.seq cD40 cD41
def oD13_0:Oper:=⟨some 52,Op.move (Operand.tmp 8),2, "ref.go:185",#[],none⟩
def oD13_1:Oper:=⟨some 53,Op.call { callee:=Callee.value (Operand.func 31),args:=#[Operand.tmp 52],argTypes:=#[2] },30, "ref.go:185",#[ed_ 0],none⟩
def oD13_2:Oper:=⟨none,Op.store 30 (Operand.tmp 6) (Operand.tmp 53),0, "ref.go:185",#[ed_ 1,ec_ 1,ep_ 0,ep_ 1],none⟩
def OD13:Array Oper:=List.toArray (oD13_0::oD13_1::oD13_2::[])
theorem gD13_0:OD13[0]? = some oD13_0:=rfl
theorem gD13_1:OD13[1]? = some oD13_1:=rfl
theorem gD13_2:OD13[2]? = some oD13_2:=rfl
def cD45:Code:=Code.region 13 OD13 false
def cD44:Code:=Code.seq cD45 Code.ret
def cD38:Code:=Code.seq cD39 cD44
def cD36:Code:=Code.seq cD37 cD38
def cD28:Code:=Code.seq cD29 cD36
def cD26:Code:=Code.seq cD27 cD28
def cD10:Code:=Code.seq cD11 cD26
def cD2:Code:=Code.seq cD3 cD10
def cD0:Code:=Code.seq cD1 cD2
theorem enA46_31:Enters Try.prog 31:=enters_of Try.func31 (by kernel_rfl) rfl
theorem bodyA46:Try.f46.body=some cD0:=by kernel_rfl
set_option maxRecDepth 100000 in
set_option maxHeartbeats 4000000 in
theorem rdiv_quo_w {W:World} {a b:Int} {f0:Act} {w0:World} (R:FrS 54 f0) (h0:f0.tmps[0]? = some (.string (str [47,47]))) (h1:f0.tmps[1]? = some (.int .i64 a)) (h2:f0.tmps[2]? = some (.int .i64 b)) (K1:Keep (fun g=>g < W.heap.size) W w0)  (HA:Hid (inR a)) (HB:Hid (inR b)):cD0.wp Try.prog (bodyPost Try.prog Try.f46 (fun e w'=>WA (resW (quoR a b)) W e w')) f0 w0:=by
 refine wp_seq (x:=cD1) (y:=cD2) ?_
 change (Code.region 0 OD0 false).wp _ _ _ _
 refine reg_in (l:=[0]) rfl ?_
 have F:=fe_ R;clear R
 have Y:(execOp f0.eval oD0_0).run Try.prog w0=.ok (.value (.pointer (some ⟨w0.heap.size,0,none⟩))) (w0.alloc (.cells #[.int .i64 0,.int .i64 0,.string (⟨#[]⟩),.int .i64 0,.slice none 0 0,.bool false] 30)):=by unfold oD0_0;go_simp
 have B1:=Blk.new w0 30 #[.int .i64 0,.int .i64 0,.string (⟨#[]⟩),.int .i64 0,.slice none 0 0,.bool false]
 obtain ⟨w2,hw⟩:∃ x,x=w0.alloc (.cells #[.int .i64 0,.int .i64 0,.string (⟨#[]⟩),.int .i64 0,.slice none 0 0,.bool false] 30):=⟨_,rfl⟩;rw [← hw] at Y B1
 obtain ⟨b1,hb⟩:∃ x,x=w0.heap.size:=⟨_,rfl⟩;rw [← hb] at Y B1
 have LK1_b1:=lk_ hb K1;replace K1:=ka_ hw K1;clear hw hb
 refine sw_ gD0_0 Y F fun a3 F h6=>?_;clear Y
 refine st_end ?_
 replace h0:=F.of h0;replace h1:=F.of h1;replace h2:=F.of h2;have R:=F.r;clear F
 change (cD2).wp _ _ _ _
 refine wp_seq (x:=cD3) (y:=cD10) ?_
 refine wp_seq (x:=cD4) (y:=cD5) ?_
 change (Code.region 1 OD1 false).wp _ _ _ _
 refine reg_in (l:=[0,1]) rfl ?_
 have F:=fe_ R;clear R
 refine sw_ gD1_0 (ym_ rfl (F.of h2)) F fun a4 F h9=>?_
 obtain ⟨b5,hb5⟩:∃ x,(((b:Int) == (0:Int)))=x:=⟨_,rfl⟩
 have Y:(execOp a4.eval oD1_1).run Try.prog w2=.ok (.value (.bool b5)) w2:=by rw [← hb5];unfold oD1_1;go_simp
 refine sw_ gD1_1 Y F fun a6 F h10=>?_;clear Y h9
 refine st_end ?_
 replace h0:=F.of h0;replace h1:=F.of h1;replace h2:=F.of h2;replace h6:=F.of h6;have R:=F.r;clear F
 change (cD5).wp _ _ _ _
 cases b5 with
 | false =>
  have fb5:=hb5;clear hb5
  simp only [dd_] at fb5
  refine wp_cond_false (x:=cD6) (y:=Code.skip) (eval_slot h10) ?_
  refine wp_skip ?_
  change (cD10).wp _ _ _ _
  refine wp_seq (x:=cD11) (y:=cD26) ?_
  refine wp_seq (x:=cD12) (y:=cD13) ?_
  change (Code.region 3 OD3 false).wp _ _ _ _
  refine reg_in (l:=[0,1]) rfl ?_
  have F:=fe_ R;clear R
  refine sw_ gD3_0 (ym_ rfl (F.of h2)) F fun a7 F h12=>?_
  obtain ⟨b8,hb8⟩:∃ x,(((b:Int) == (-1:Int)))=x:=⟨_,rfl⟩
  have Y:(execOp a7.eval oD3_1).run Try.prog w2=.ok (.value (.bool b8)) w2:=by rw [← hb8];unfold oD3_1;go_simp
  refine sw_ gD3_1 Y F fun a9 F h13=>?_;clear Y h12
  refine st_end ?_
  replace h0:=F.of h0;replace h1:=F.of h1;replace h2:=F.of h2;replace h6:=F.of h6;clear h10;have R:=F.r;clear F
  change (cD13).wp _ _ _ _
  cases b8 with
  | false =>
   have fb8:=hb8;clear hb8
   simp only [dd_] at fb8
   refine wp_cond_false (x:=cD14) (y:=Code.skip) (eval_slot h13) ?_
   refine wp_skip ?_
   change (cD26).wp _ _ _ _
   refine wp_seq (x:=cD27) (y:=cD28) ?_
   change (Code.region 7 OD7 false).wp _ _ _ _
   refine reg_in (l:=[0,1,2,3]) rfl ?_
   have F:=fe_ R;clear R
   refine sw_ gD7_0 (ym_ rfl (F.of h1)) F fun a10 F h19=>?_
   refine sv_ gD7_1 (ym_ rfl (F.of h2)) fun a11 e=>?_
   have h20:=pt_ F e;replace F:=pu_ F e;replace h19:=so_ e h19;clear e
   have Y:(execOp a11.eval oD7_2).run Try.prog w2=.ok (.value (.int .i64 (a.tdiv b))) w2:=by have h8:¬ b=0:=(by omega);have h7:=(div_facts HA.out (by omega:¬ b=0) (by omega)).1;unfold oD7_2;go_simp
   refine sw_ gD7_2 Y F fun a12 F h21=>?_;clear Y h19 h20
   refine sv_ gD7_3 (ya_ rfl h21) fun a13 e=>?_
   clear h21;have h7:=pt_ F e;replace F:=pu_ F e;clear e
   refine st_end ?_
   replace h0:=F.of h0;replace h1:=F.of h1;replace h2:=F.of h2;replace h6:=F.of h6;clear h13;have R:=F.r;clear F
   change (cD28).wp _ _ _ _
   refine wp_seq (x:=cD29) (y:=cD36) ?_
   refine wp_seq (x:=cD30) (y:=cD31) ?_
   change (Code.region 8 OD8 false).wp _ _ _ _
   refine reg_in (l:=[0,1]) rfl ?_
   have F:=fe_ R;clear R
   refine sw_ gD8_0 (ym_ rfl (F.of h0)) F fun a14 F h22=>?_
   have Y:(execOp a14.eval oD8_1).run Try.prog w2=.ok (.value (.bool true)) w2:=by have h8:((str [47,47]).toList == [47,47])=true:=(by rw [str_eq];exact decide_eq_true rfl);unfold oD8_1;go_simp
   refine sw_ gD8_1 Y F fun a15 F h23=>?_;clear Y h22
   refine st_end ?_
   replace h0:=F.of h0;replace h1:=F.of h1;replace h2:=F.of h2;replace h6:=F.of h6;replace h7:=F.of h7;have R:=F.r;clear F
   change (cD31).wp _ _ _ _
   refine wp_cond_true (x:=cD32) (y:=Code.skip) (eval_slot h23) ?_
   refine wp_seq (x:=cD33) (y:=Code.ret) ?_
   change (Code.region 9 OD9 false).wp _ _ _ _
   refine reg_in (l:=[0,1,2]) rfl ?_
   have F:=fe_ R;clear R
   refine sw_ gD9_0 (ym_ rfl (F.of h7)) F fun a16 F h24=>?_
   refine st_call gD9_1 rfl (wanted_free rfl) (yc1_ enA46_31 rfl h24) ((of_any _ (a.tdiv b)).mono ?_)
   rintro e9 w17 ⟨rfl,kk⟩
   replace K1:=keep_onto K1 kk
   replace B1:=blk_on B1 kk
   clear kk
   refine ⟨_,rfl,fun a18 e=>?_⟩
   clear h24;have h25:=pt_ F e;replace F:=pu_ F e;clear e
   obtain ⟨w19,Y,hk,hB⟩:=ys6_ (o:=oD9_2) rfl (F.of h6) h25 B1
   replace K1:=kx_ hk K1 (Nat.not_lt.2 LK1_b1);clear B1;have B1:=hB;clear hB hk
   refine st_skip gD9_2 rfl (wanted_free rfl) Y ?_;clear Y
   refine st_end ?_
   replace h0:=F.of h0;replace h1:=F.of h1;replace h2:=F.of h2;replace h6:=F.of h6;replace h7:=F.of h7;clear h23;clear h25;have R:=F.r;clear F
   change (Code.ret).wp _ _ _ _
   refine wp_ret ?_
   change bodyPost Try.prog Try.f46 (fun e w'=>WA (resW (quoR a b)) W e w') .ret a18 w19
   refine ret_cell6 (fn:=Try.f46) rfl R h6 B1 ?_
   exact (show WA (resW (quoR a b)) W _ _ by rw [quo_reg HA.out (by assumption) (by assumption),resW_n];exact ⟨none,0,rfl,own_zero,K1⟩)
  | true =>
   have fb8:=hb8;clear hb8
   simp only [dd_] at fb8
   refine wp_cond_true (x:=cD14) (y:=Code.skip) (eval_slot h13) ?_
   refine wp_seq (x:=cD15) (y:=cD22) ?_
   refine wp_seq (x:=cD16) (y:=cD17) ?_
   change (Code.region 4 OD4 false).wp _ _ _ _
   refine reg_in (l:=[0,1]) rfl ?_
   have F:=fe_ R;clear R
   refine sw_ gD4_0 (ym_ rfl (F.of h0)) F fun a20 F h14=>?_
   have Y:(execOp a20.eval oD4_1).run Try.prog w2=.ok (.value (.bool true)) w2:=by have h8:((str [47,47]).toList == [47,47])=true:=(by rw [str_eq];exact decide_eq_true rfl);unfold oD4_1;go_simp
   refine sw_ gD4_1 Y F fun a21 F h15=>?_;clear Y h14
   refine st_end ?_
   replace h0:=F.of h0;replace h1:=F.of h1;replace h2:=F.of h2;replace h6:=F.of h6;clear h13;have R:=F.r;clear F
   change (cD17).wp _ _ _ _
   refine wp_cond_true (x:=cD18) (y:=Code.skip) (eval_slot h15) ?_
   refine wp_seq (x:=cD19) (y:=Code.ret) ?_
   change (Code.region 5 OD5 false).wp _ _ _ _
   refine reg_in (l:=[0,1,2]) rfl ?_
   have F:=fe_ R;clear R
   refine sw_ gD5_0 (ym_ rfl (F.of h1)) F fun a22 F h16=>?_
   have Y:(execOp a22.eval oD5_1).run Try.prog w2=.ok (.enter 43 #[.int .i64 0,.int .i64 a]) w2:=by unfold oD5_1;go_simp
   have hca:=rsub_any w2 (a:=0) (b:=a) inR_0 HA.out
   have UKX_b1:=B1.lt
   have HWKX:W.heap.size ≤ w2.heap.size:=K1.size
   refine st_call gD5_1 rfl (wanted_free rfl) Y ((hca).mono ?_);clear Y
   rintro e9 w23 ⟨ax,cx,rfl,hx,kk⟩
   replace K1:=keep_onto K1 kk
   replace B1:=blk_on B1 kk
   clear kk
   clear hca
   have HX:=Lib.hid hx;clear hx
   have KX:=Keep.refl (fun g=>w2.heap.size ≤ g∧g < w23.heap.size) w23
   refine ⟨_,rfl,fun a24 e=>?_⟩
   clear h16;have h17:=pt_ F e;replace F:=pu_ F e;clear e
   obtain ⟨w25,Y,hk,hB⟩:=ys6_ (o:=oD5_2) rfl (F.of h6) h17 B1
   replace K1:=kx_ hk K1 (Nat.not_lt.2 LK1_b1);replace KX:=kx_ hk KX (fun hx=>absurd hx.1 (Nat.not_le.2 UKX_b1));clear B1;have B1:=hB;clear hB hk
   refine st_skip gD5_2 rfl (wanted_free rfl) Y ?_;clear Y
   refine st_end ?_
   replace h0:=F.of h0;replace h1:=F.of h1;replace h2:=F.of h2;replace h6:=F.of h6;clear h15;clear h17;have R:=F.r;clear F
   change (Code.ret).wp _ _ _ _
   refine wp_ret ?_
   change bodyPost Try.prog Try.f46 (fun e w'=>WA (resW (quoR a b)) W e w') .ret a24 w25
   refine ret_cell6 (fn:=Try.f46) rfl R h6 B1 ?_
   exact (show WA (resW (quoR a b)) W _ _ by rw [quo_m1 (by assumption)];exact ⟨ax,cx,rfl,(HX.out.on KX).up HWKX,K1⟩)
 | true =>
  have fb5:=hb5;clear hb5
  simp only [dd_] at fb5
  refine wp_cond_true (x:=cD6) (y:=Code.skip) (eval_slot h10) ?_
  refine wp_seq (x:=cD7) (y:=Code.ret) ?_
  change (Code.region 2 OD2 false).wp _ _ _ _
  refine reg_in (l:=[0,1]) rfl ?_
  have F:=fe_ R;clear R
  have Y:(execOp a6.eval oD2_0).run Try.prog w2=.ok (.enter 59 #[.string (⟨#[122,101,114,111,95,100,105,118,105,115,111,114]⟩)]) w2:=by unfold oD2_0;go_simp
  have hca:=fails_any (W:=w2) (s:=fZero) (by decide)
  have UKX_b1:=B1.lt
  have HWKX:W.heap.size ≤ w2.heap.size:=K1.size
  refine st_call gD2_0 rfl (wanted_free rfl) Y ((hca).mono ?_);clear Y
  rintro e9 w26 ⟨ax,cx,rfl,hx,kk⟩
  replace K1:=keep_onto K1 kk
  replace B1:=blk_on B1 kk
  clear kk
  clear hca
  have HX:=Lib.hid hx;clear hx
  have KX:=Keep.refl (fun g=>w2.heap.size ≤ g∧g < w26.heap.size) w26
  refine ⟨_,rfl,fun a27 e=>?_⟩
  have h11:=pt_ F e;replace F:=pu_ F e;clear e
  obtain ⟨w28,Y,hk,hB⟩:=ys6_ (o:=oD2_1) rfl (F.of h6) h11 B1
  replace K1:=kx_ hk K1 (Nat.not_lt.2 LK1_b1);replace KX:=kx_ hk KX (fun hx=>absurd hx.1 (Nat.not_le.2 UKX_b1));clear B1;have B1:=hB;clear hB hk
  refine st_skip gD2_1 rfl (wanted_free rfl) Y ?_;clear Y
  refine st_end ?_
  replace h0:=F.of h0;replace h1:=F.of h1;replace h2:=F.of h2;replace h6:=F.of h6;clear h10;clear h11;have R:=F.r;clear F
  change (Code.ret).wp _ _ _ _
  refine wp_ret ?_
  change bodyPost Try.prog Try.f46 (fun e w'=>WA (resW (quoR a b)) W e w') .ret a27 w28
  refine ret_cell6 (fn:=Try.f46) rfl R h6 B1 ?_
  exact (show WA (resW (quoR a b)) W _ _ by rw [quo_zero (by assumption),resW_z];exact ⟨ax,cx,rfl,(HX.out.on KX).up HWKX,K1⟩)
theorem rdiv_quo_any (W:World) {a b:Int} (ha:inR a) (hb:inR b):Calls Try.prog 46 #[.string (str [47,47]),.int .i64 a,.int .i64 b] W fun e w'=>WA (resW (quoR a b)) W e w':=by
  refine enter_sx Try.func46 bodyA46 rfl (by show (3:Nat) ≤ 54;decide) fun f0 R hs=>?_
  exact rdiv_quo_w R (hs 0 _ rfl) (hs 1 _ rfl) (hs 2 _ rfl) (Keep.refl _ W) (Lib.hid ha) (Lib.hid hb)
set_option maxRecDepth 100000 in
set_option maxHeartbeats 4000000 in
theorem rdiv_rem_w {W:World} {a b:Int} {f0:Act} {w0:World} (R:FrS 54 f0) (h0:f0.tmps[0]? = some (.string (str [114,101,109]))) (h1:f0.tmps[1]? = some (.int .i64 a)) (h2:f0.tmps[2]? = some (.int .i64 b)) (K1:Keep (fun g=>g < W.heap.size) W w0)  (HA:Hid (inR a)) (HB:Hid (inR b)):cD0.wp Try.prog (bodyPost Try.prog Try.f46 (fun e w'=>WA (resW (remR a b)) W e w')) f0 w0:=by
 refine wp_seq (x:=cD1) (y:=cD2) ?_
 change (Code.region 0 OD0 false).wp _ _ _ _
 refine reg_in (l:=[0]) rfl ?_
 have F:=fe_ R;clear R
 have Y:(execOp f0.eval oD0_0).run Try.prog w0=.ok (.value (.pointer (some ⟨w0.heap.size,0,none⟩))) (w0.alloc (.cells #[.int .i64 0,.int .i64 0,.string (⟨#[]⟩),.int .i64 0,.slice none 0 0,.bool false] 30)):=by unfold oD0_0;go_simp
 have B29:=Blk.new w0 30 #[.int .i64 0,.int .i64 0,.string (⟨#[]⟩),.int .i64 0,.slice none 0 0,.bool false]
 obtain ⟨w30,hw⟩:∃ x,x=w0.alloc (.cells #[.int .i64 0,.int .i64 0,.string (⟨#[]⟩),.int .i64 0,.slice none 0 0,.bool false] 30):=⟨_,rfl⟩;rw [← hw] at Y B29
 obtain ⟨b29,hb⟩:∃ x,x=w0.heap.size:=⟨_,rfl⟩;rw [← hb] at Y B29
 have LK1_b29:=lk_ hb K1;replace K1:=ka_ hw K1;clear hw hb
 refine sw_ gD0_0 Y F fun a31 F h6=>?_;clear Y
 refine st_end ?_
 replace h0:=F.of h0;replace h1:=F.of h1;replace h2:=F.of h2;have R:=F.r;clear F
 change (cD2).wp _ _ _ _
 refine wp_seq (x:=cD3) (y:=cD10) ?_
 refine wp_seq (x:=cD4) (y:=cD5) ?_
 change (Code.region 1 OD1 false).wp _ _ _ _
 refine reg_in (l:=[0,1]) rfl ?_
 have F:=fe_ R;clear R
 refine sw_ gD1_0 (ym_ rfl (F.of h2)) F fun a32 F h9=>?_
 obtain ⟨b33,hb33⟩:∃ x,(((b:Int) == (0:Int)))=x:=⟨_,rfl⟩
 have Y:(execOp a32.eval oD1_1).run Try.prog w30=.ok (.value (.bool b33)) w30:=by rw [← hb33];unfold oD1_1;go_simp
 refine sw_ gD1_1 Y F fun a34 F h10=>?_;clear Y h9
 refine st_end ?_
 replace h0:=F.of h0;replace h1:=F.of h1;replace h2:=F.of h2;replace h6:=F.of h6;have R:=F.r;clear F
 change (cD5).wp _ _ _ _
 cases b33 with
 | false =>
  have fb33:=hb33;clear hb33
  simp only [dd_] at fb33
  refine wp_cond_false (x:=cD6) (y:=Code.skip) (eval_slot h10) ?_
  refine wp_skip ?_
  change (cD10).wp _ _ _ _
  refine wp_seq (x:=cD11) (y:=cD26) ?_
  refine wp_seq (x:=cD12) (y:=cD13) ?_
  change (Code.region 3 OD3 false).wp _ _ _ _
  refine reg_in (l:=[0,1]) rfl ?_
  have F:=fe_ R;clear R
  refine sw_ gD3_0 (ym_ rfl (F.of h2)) F fun a35 F h12=>?_
  obtain ⟨b36,hb36⟩:∃ x,(((b:Int) == (-1:Int)))=x:=⟨_,rfl⟩
  have Y:(execOp a35.eval oD3_1).run Try.prog w30=.ok (.value (.bool b36)) w30:=by rw [← hb36];unfold oD3_1;go_simp
  refine sw_ gD3_1 Y F fun a37 F h13=>?_;clear Y h12
  refine st_end ?_
  replace h0:=F.of h0;replace h1:=F.of h1;replace h2:=F.of h2;replace h6:=F.of h6;clear h10;have R:=F.r;clear F
  change (cD13).wp _ _ _ _
  cases b36 with
  | false =>
   have fb36:=hb36;clear hb36
   simp only [dd_] at fb36
   refine wp_cond_false (x:=cD14) (y:=Code.skip) (eval_slot h13) ?_
   refine wp_skip ?_
   change (cD26).wp _ _ _ _
   refine wp_seq (x:=cD27) (y:=cD28) ?_
   change (Code.region 7 OD7 false).wp _ _ _ _
   refine reg_in (l:=[0,1,2,3]) rfl ?_
   have F:=fe_ R;clear R
   refine sw_ gD7_0 (ym_ rfl (F.of h1)) F fun a38 F h19=>?_
   refine sv_ gD7_1 (ym_ rfl (F.of h2)) fun a39 e=>?_
   have h20:=pt_ F e;replace F:=pu_ F e;replace h19:=so_ e h19;clear e
   have Y:(execOp a39.eval oD7_2).run Try.prog w30=.ok (.value (.int .i64 (a.tdiv b))) w30:=by have h8:¬ b=0:=(by omega);have h7:=(div_facts HA.out (by omega:¬ b=0) (by omega)).1;unfold oD7_2;go_simp
   refine sw_ gD7_2 Y F fun a40 F h21=>?_;clear Y h19 h20
   refine sv_ gD7_3 (ya_ rfl h21) fun a41 e=>?_
   clear h21;have h7:=pt_ F e;replace F:=pu_ F e;clear e
   refine st_end ?_
   replace h0:=F.of h0;replace h1:=F.of h1;replace h2:=F.of h2;replace h6:=F.of h6;clear h13;have R:=F.r;clear F
   change (cD28).wp _ _ _ _
   refine wp_seq (x:=cD29) (y:=cD36) ?_
   refine wp_seq (x:=cD30) (y:=cD31) ?_
   change (Code.region 8 OD8 false).wp _ _ _ _
   refine reg_in (l:=[0,1]) rfl ?_
   have F:=fe_ R;clear R
   refine sw_ gD8_0 (ym_ rfl (F.of h0)) F fun a42 F h22=>?_
   have Y:(execOp a42.eval oD8_1).run Try.prog w30=.ok (.value (.bool false)) w30:=by have h8:((str [114,101,109]).toList == [47,47])=false:=(by rw [str_eq];exact decide_eq_false (by decide));unfold oD8_1;go_simp
   refine sw_ gD8_1 Y F fun a43 F h23=>?_;clear Y h22
   refine st_end ?_
   replace h0:=F.of h0;replace h1:=F.of h1;replace h2:=F.of h2;replace h6:=F.of h6;replace h7:=F.of h7;have R:=F.r;clear F
   change (cD31).wp _ _ _ _
   refine wp_cond_false (x:=cD32) (y:=Code.skip) (eval_slot h23) ?_
   refine wp_skip ?_
   change (cD36).wp _ _ _ _
   refine wp_seq (x:=cD37) (y:=cD38) ?_
   change (Code.region 10 OD10 false).wp _ _ _ _
   refine reg_in (l:=[0,1,2,3,4,5]) rfl ?_
   have F:=fe_ R;clear R
   refine sw_ gD10_0 (ym_ rfl (F.of h1)) F fun a44 F h26=>?_
   refine sv_ gD10_1 (ym_ rfl (F.of h2)) fun a45 e=>?_
   have h27:=pt_ F e;replace F:=pu_ F e;replace h26:=so_ e h26;clear e
   refine sv_ gD10_2 (ym_ rfl (F.of h7)) fun a46 e=>?_
   have h28:=pt_ F e;replace F:=pu_ F e;replace h26:=so_ e h26;replace h27:=so_ e h27;clear e
   have Y:(execOp a46.eval oD10_3).run Try.prog w30=.ok (.value (.int .i64 (IntKind.i64.wrap (b * (a.tdiv b))))) w30:=by unfold oD10_3;go_simp
   refine sv_ gD10_3 Y fun a47 e=>?_;clear Y
   clear h27 h28;have h29:=pt_ F e;replace F:=pu_ F e;replace h26:=so_ e h26;clear e
   have Y:(execOp a47.eval oD10_4).run Try.prog w30=.ok (.value (.int .i64 (a.tmod b))) w30:=by have h7:=(div_facts HA.out (by omega:¬ b=0) (by omega)).2;unfold oD10_4;go_simp
   refine sw_ gD10_4 Y F fun a48 F h30=>?_;clear Y h26 h29
   refine sv_ gD10_5 (ya_ rfl h30) fun a49 e=>?_
   clear h30;have h8:=pt_ F e;replace F:=pu_ F e;clear e
   refine st_end ?_
   replace h0:=F.of h0;clear h1;replace h2:=F.of h2;replace h6:=F.of h6;clear h7;clear h23;have R:=F.r;clear F
   change (cD38).wp _ _ _ _
   refine wp_seq (x:=cD39) (y:=cD44) ?_
   refine wp_seq (x:=cD40) (y:=cD41) ?_
   change (Code.region 11 OD11 false).wp _ _ _ _
   refine reg_in (l:=[0,1,2,3,4,5,6,7,8,9,10,11,12,13,14,15,16,17]) rfl ?_
   have F:=fe_ R;clear R
   refine sw_ gD11_0 (ym_ rfl (F.of h0)) F fun a50 F h31=>?_
   have Y:(execOp a50.eval oD11_1).run Try.prog w30=.ok (.value (.bool false)) w30:=by have h8:((str [114,101,109]).toList == [109,111,100])=false:=(by rw [str_eq];exact decide_eq_false (by decide));unfold oD11_1;go_simp
   refine sw_ gD11_1 Y F fun a51 F h32=>?_;clear Y h31
   refine sv_ gD11_2 (ym_ rfl h32) fun a52 e=>?_
   clear h32;have h33:=pt_ F e;replace F:=pu_ F e;clear e
   refine st_not gD11_3 rfl (wanted_is (j:=2) (d:=33) rfl rfl h33 rfl) fun a53 e=>?_
   have h34:=pt_ F e;replace F:=pu_ F e;replace h33:=so_ e h33;clear e
   refine st_not gD11_4 rfl (wanted_is (j:=2) (d:=33) rfl rfl h33 rfl) fun a54 e=>?_
   clear h34;have h35:=pt_ F e;replace F:=pu_ F e;replace h33:=so_ e h33;clear e
   refine st_not gD11_5 rfl (wanted_is (j:=2) (d:=33) rfl rfl h33 rfl) fun a55 e=>?_
   clear h35;have h36:=pt_ F e;replace F:=pu_ F e;replace h33:=so_ e h33;clear e
   refine st_not gD11_6 rfl (wanted_un (j:=5) (d:=36) rfl rfl h36) fun a56 e=>?_
   have h37:=pt_ F e;replace F:=pu_ F e;replace h33:=so_ e h33;replace h36:=so_ e h36;clear e
   refine st_not gD11_7 rfl (wanted_un (j:=5) (d:=36) rfl rfl h36) fun a57 e=>?_
   clear h37;have h38:=pt_ F e;replace F:=pu_ F e;replace h33:=so_ e h33;replace h36:=so_ e h36;clear e
   refine st_not gD11_8 rfl (wanted_is (j:=2) (d:=33) rfl rfl h33 rfl) fun a58 e=>?_
   clear h36 h38;have h39:=pt_ F e;replace F:=pu_ F e;replace h33:=so_ e h33;clear e
   refine st_not gD11_9 rfl (wanted_is (j:=2) (d:=33) rfl rfl h33 rfl) fun a59 e=>?_
   clear h39;have h40:=pt_ F e;replace F:=pu_ F e;replace h33:=so_ e h33;clear e
   refine st_not gD11_10 rfl (wanted_un (j:=9) (d:=40) rfl rfl h40) fun a60 e=>?_
   have h41:=pt_ F e;replace F:=pu_ F e;replace h33:=so_ e h33;replace h40:=so_ e h40;clear e
   refine st_not gD11_11 rfl (wanted_un (j:=9) (d:=40) rfl rfl h40) fun a61 e=>?_
   clear h41;have h42:=pt_ F e;replace F:=pu_ F e;replace h33:=so_ e h33;replace h40:=so_ e h40;clear e
   refine st_not gD11_12 rfl (wanted_un (j:=9) (d:=40) rfl rfl h40) fun a62 e=>?_
   clear h42;have h43:=pt_ F e;replace F:=pu_ F e;replace h33:=so_ e h33;replace h40:=so_ e h40;clear e
   refine st_not gD11_13 rfl (wanted_un (j:=12) (d:=43) rfl rfl h43) fun a63 e=>?_
   have h44:=pt_ F e;replace F:=pu_ F e;replace h33:=so_ e h33;replace h40:=so_ e h40;replace h43:=so_ e h43;clear e
   refine st_not gD11_14 rfl (wanted_un (j:=12) (d:=43) rfl rfl h43) fun a64 e=>?_
   clear h44;have h45:=pt_ F e;replace F:=pu_ F e;replace h33:=so_ e h33;replace h40:=so_ e h40;replace h43:=so_ e h43;clear e
   refine st_not gD11_15 rfl (wanted_un (j:=9) (d:=40) rfl rfl h40) fun a65 e=>?_
   clear h43 h45;have h46:=pt_ F e;replace F:=pu_ F e;replace h33:=so_ e h33;replace h40:=so_ e h40;clear e
   refine st_not gD11_16 rfl (wanted_is (j:=2) (d:=33) rfl rfl h33 rfl) fun a66 e=>?_
   clear h40 h46;have h47:=pt_ F e;replace F:=pu_ F e;replace h33:=so_ e h33;clear e
   have Y:(execOp a66.eval oD11_17).run Try.prog w30=.ok (.value (.bool false)) w30:=by unfold oD11_17;go_simp
   refine sw_ gD11_17 Y F fun a67 F h48=>?_;clear Y h33 h47
   refine st_end ?_
   clear h0;replace h2:=F.of h2;replace h6:=F.of h6;replace h8:=F.of h8;have R:=F.r;clear F
   change (cD41).wp _ _ _ _
   refine wp_cond_false (x:=cD42) (y:=Code.skip) (eval_slot h48) ?_
   refine wp_skip ?_
   change (cD44).wp _ _ _ _
   refine wp_seq (x:=cD45) (y:=Code.ret) ?_
   change (Code.region 13 OD13 false).wp _ _ _ _
   refine reg_in (l:=[0,1,2]) rfl ?_
   have F:=fe_ R;clear R
   refine sw_ gD13_0 (ym_ rfl (F.of h8)) F fun a68 F h52=>?_
   refine st_call gD13_1 rfl (wanted_free rfl) (yc1_ enA46_31 rfl h52) ((of_any _ (a.tmod b)).mono ?_)
   rintro e9 w69 ⟨rfl,kk⟩
   replace K1:=keep_onto K1 kk
   replace B29:=blk_on B29 kk
   clear kk
   refine ⟨_,rfl,fun a70 e=>?_⟩
   clear h52;have h53:=pt_ F e;replace F:=pu_ F e;clear e
   obtain ⟨w71,Y,hk,hB⟩:=ys6_ (o:=oD13_2) rfl (F.of h6) h53 B29
   replace K1:=kx_ hk K1 (Nat.not_lt.2 LK1_b29);clear B29;have B29:=hB;clear hB hk
   refine st_skip gD13_2 rfl (wanted_free rfl) Y ?_;clear Y
   refine st_end ?_
   clear h2;replace h6:=F.of h6;clear h8;clear h48;clear h53;have R:=F.r;clear F
   change (Code.ret).wp _ _ _ _
   refine wp_ret ?_
   change bodyPost Try.prog Try.f46 (fun e w'=>WA (resW (remR a b)) W e w') .ret a70 w71
   refine ret_cell6 (fn:=Try.f46) rfl R h6 B29 ?_
   exact (show WA (resW (remR a b)) W _ _ by rw [rem_yes (by assumption),resW_n];exact ⟨none,0,rfl,own_zero,K1⟩)
  | true =>
   have fb36:=hb36;clear hb36
   simp only [dd_] at fb36
   refine wp_cond_true (x:=cD14) (y:=Code.skip) (eval_slot h13) ?_
   refine wp_seq (x:=cD15) (y:=cD22) ?_
   refine wp_seq (x:=cD16) (y:=cD17) ?_
   change (Code.region 4 OD4 false).wp _ _ _ _
   refine reg_in (l:=[0,1]) rfl ?_
   have F:=fe_ R;clear R
   refine sw_ gD4_0 (ym_ rfl (F.of h0)) F fun a72 F h14=>?_
   have Y:(execOp a72.eval oD4_1).run Try.prog w30=.ok (.value (.bool false)) w30:=by have h8:((str [114,101,109]).toList == [47,47])=false:=(by rw [str_eq];exact decide_eq_false (by decide));unfold oD4_1;go_simp
   refine sw_ gD4_1 Y F fun a73 F h15=>?_;clear Y h14
   refine st_end ?_
   replace h0:=F.of h0;replace h1:=F.of h1;replace h2:=F.of h2;replace h6:=F.of h6;clear h13;have R:=F.r;clear F
   change (cD17).wp _ _ _ _
   refine wp_cond_false (x:=cD18) (y:=Code.skip) (eval_slot h15) ?_
   refine wp_skip ?_
   change (cD22).wp _ _ _ _
   refine wp_seq (x:=cD23) (y:=Code.ret) ?_
   change (Code.region 6 OD6 false).wp _ _ _ _
   refine reg_in (l:=[0,1]) rfl ?_
   have F:=fe_ R;clear R
   have Y:(execOp a73.eval oD6_0).run Try.prog w30=.ok (.enter 31 #[.int .i64 0]) w30:=by unfold oD6_0;go_simp
   refine st_call gD6_0 rfl (wanted_free rfl) Y ((of_any _ (0)).mono ?_);clear Y
   rintro e9 w74 ⟨rfl,kk⟩
   replace K1:=keep_onto K1 kk
   replace B29:=blk_on B29 kk
   clear kk
   refine ⟨_,rfl,fun a75 e=>?_⟩
   have h18:=pt_ F e;replace F:=pu_ F e;clear e
   obtain ⟨w76,Y,hk,hB⟩:=ys6_ (o:=oD6_1) rfl (F.of h6) h18 B29
   replace K1:=kx_ hk K1 (Nat.not_lt.2 LK1_b29);clear B29;have B29:=hB;clear hB hk
   refine st_skip gD6_1 rfl (wanted_free rfl) Y ?_;clear Y
   refine st_end ?_
   replace h0:=F.of h0;replace h1:=F.of h1;replace h2:=F.of h2;replace h6:=F.of h6;clear h15;clear h18;have R:=F.r;clear F
   change (Code.ret).wp _ _ _ _
   refine wp_ret ?_
   change bodyPost Try.prog Try.f46 (fun e w'=>WA (resW (remR a b)) W e w') .ret a75 w76
   refine ret_cell6 (fn:=Try.f46) rfl R h6 B29 ?_
   exact (show WA (resW (remR a b)) W _ _ by rw [rem_m1 (by assumption),resW_n];exact ⟨none,0,rfl,own_zero,K1⟩)
 | true =>
  have fb33:=hb33;clear hb33
  simp only [dd_] at fb33
  refine wp_cond_true (x:=cD6) (y:=Code.skip) (eval_slot h10) ?_
  refine wp_seq (x:=cD7) (y:=Code.ret) ?_
  change (Code.region 2 OD2 false).wp _ _ _ _
  refine reg_in (l:=[0,1]) rfl ?_
  have F:=fe_ R;clear R
  have Y:(execOp a34.eval oD2_0).run Try.prog w30=.ok (.enter 59 #[.string (⟨#[122,101,114,111,95,100,105,118,105,115,111,114]⟩)]) w30:=by unfold oD2_0;go_simp
  have hca:=fails_any (W:=w30) (s:=fZero) (by decide)
  have UKX_b29:=B29.lt
  have HWKX:W.heap.size ≤ w30.heap.size:=K1.size
  refine st_call gD2_0 rfl (wanted_free rfl) Y ((hca).mono ?_);clear Y
  rintro e9 w77 ⟨ax,cx,rfl,hx,kk⟩
  replace K1:=keep_onto K1 kk
  replace B29:=blk_on B29 kk
  clear kk
  clear hca
  have HX:=Lib.hid hx;clear hx
  have KX:=Keep.refl (fun g=>w30.heap.size ≤ g∧g < w77.heap.size) w77
  refine ⟨_,rfl,fun a78 e=>?_⟩
  have h11:=pt_ F e;replace F:=pu_ F e;clear e
  obtain ⟨w79,Y,hk,hB⟩:=ys6_ (o:=oD2_1) rfl (F.of h6) h11 B29
  replace K1:=kx_ hk K1 (Nat.not_lt.2 LK1_b29);replace KX:=kx_ hk KX (fun hx=>absurd hx.1 (Nat.not_le.2 UKX_b29));clear B29;have B29:=hB;clear hB hk
  refine st_skip gD2_1 rfl (wanted_free rfl) Y ?_;clear Y
  refine st_end ?_
  replace h0:=F.of h0;replace h1:=F.of h1;replace h2:=F.of h2;replace h6:=F.of h6;clear h10;clear h11;have R:=F.r;clear F
  change (Code.ret).wp _ _ _ _
  refine wp_ret ?_
  change bodyPost Try.prog Try.f46 (fun e w'=>WA (resW (remR a b)) W e w') .ret a78 w79
  refine ret_cell6 (fn:=Try.f46) rfl R h6 B29 ?_
  exact (show WA (resW (remR a b)) W _ _ by rw [rem_zero (by assumption),resW_z];exact ⟨ax,cx,rfl,(HX.out.on KX).up HWKX,K1⟩)
theorem rdiv_rem_any (W:World) {a b:Int} (ha:inR a) (hb:inR b):Calls Try.prog 46 #[.string (str [114,101,109]),.int .i64 a,.int .i64 b] W fun e w'=>WA (resW (remR a b)) W e w':=by
  refine enter_sx Try.func46 bodyA46 rfl (by show (3:Nat) ≤ 54;decide) fun f0 R hs=>?_
  exact rdiv_rem_w R (hs 0 _ rfl) (hs 1 _ rfl) (hs 2 _ rfl) (Keep.refl _ W) (Lib.hid ha) (Lib.hid hb)
set_option maxRecDepth 100000 in
set_option maxHeartbeats 4000000 in
theorem rdiv_mod_w {W:World} {a b:Int} {f0:Act} {w0:World} (R:FrS 54 f0) (h0:f0.tmps[0]? = some (.string (str [109,111,100]))) (h1:f0.tmps[1]? = some (.int .i64 a)) (h2:f0.tmps[2]? = some (.int .i64 b)) (K1:Keep (fun g=>g < W.heap.size) W w0)  (HA:Hid (inR a)) (HB:Hid (inR b)):cD0.wp Try.prog (bodyPost Try.prog Try.f46 (fun e w'=>WA (resW (modR a b)) W e w')) f0 w0:=by
 refine wp_seq (x:=cD1) (y:=cD2) ?_
 change (Code.region 0 OD0 false).wp _ _ _ _
 refine reg_in (l:=[0]) rfl ?_
 have F:=fe_ R;clear R
 have Y:(execOp f0.eval oD0_0).run Try.prog w0=.ok (.value (.pointer (some ⟨w0.heap.size,0,none⟩))) (w0.alloc (.cells #[.int .i64 0,.int .i64 0,.string (⟨#[]⟩),.int .i64 0,.slice none 0 0,.bool false] 30)):=by unfold oD0_0;go_simp
 have B80:=Blk.new w0 30 #[.int .i64 0,.int .i64 0,.string (⟨#[]⟩),.int .i64 0,.slice none 0 0,.bool false]
 obtain ⟨w81,hw⟩:∃ x,x=w0.alloc (.cells #[.int .i64 0,.int .i64 0,.string (⟨#[]⟩),.int .i64 0,.slice none 0 0,.bool false] 30):=⟨_,rfl⟩;rw [← hw] at Y B80
 obtain ⟨b80,hb⟩:∃ x,x=w0.heap.size:=⟨_,rfl⟩;rw [← hb] at Y B80
 have LK1_b80:=lk_ hb K1;replace K1:=ka_ hw K1;clear hw hb
 refine sw_ gD0_0 Y F fun a82 F h6=>?_;clear Y
 refine st_end ?_
 replace h0:=F.of h0;replace h1:=F.of h1;replace h2:=F.of h2;have R:=F.r;clear F
 change (cD2).wp _ _ _ _
 refine wp_seq (x:=cD3) (y:=cD10) ?_
 refine wp_seq (x:=cD4) (y:=cD5) ?_
 change (Code.region 1 OD1 false).wp _ _ _ _
 refine reg_in (l:=[0,1]) rfl ?_
 have F:=fe_ R;clear R
 refine sw_ gD1_0 (ym_ rfl (F.of h2)) F fun a83 F h9=>?_
 obtain ⟨b84,hb84⟩:∃ x,(((b:Int) == (0:Int)))=x:=⟨_,rfl⟩
 have Y:(execOp a83.eval oD1_1).run Try.prog w81=.ok (.value (.bool b84)) w81:=by rw [← hb84];unfold oD1_1;go_simp
 refine sw_ gD1_1 Y F fun a85 F h10=>?_;clear Y h9
 refine st_end ?_
 replace h0:=F.of h0;replace h1:=F.of h1;replace h2:=F.of h2;replace h6:=F.of h6;have R:=F.r;clear F
 change (cD5).wp _ _ _ _
 cases b84 with
 | false =>
  have fb84:=hb84;clear hb84
  simp only [dd_] at fb84
  refine wp_cond_false (x:=cD6) (y:=Code.skip) (eval_slot h10) ?_
  refine wp_skip ?_
  change (cD10).wp _ _ _ _
  refine wp_seq (x:=cD11) (y:=cD26) ?_
  refine wp_seq (x:=cD12) (y:=cD13) ?_
  change (Code.region 3 OD3 false).wp _ _ _ _
  refine reg_in (l:=[0,1]) rfl ?_
  have F:=fe_ R;clear R
  refine sw_ gD3_0 (ym_ rfl (F.of h2)) F fun a86 F h12=>?_
  obtain ⟨b87,hb87⟩:∃ x,(((b:Int) == (-1:Int)))=x:=⟨_,rfl⟩
  have Y:(execOp a86.eval oD3_1).run Try.prog w81=.ok (.value (.bool b87)) w81:=by rw [← hb87];unfold oD3_1;go_simp
  refine sw_ gD3_1 Y F fun a88 F h13=>?_;clear Y h12
  refine st_end ?_
  replace h0:=F.of h0;replace h1:=F.of h1;replace h2:=F.of h2;replace h6:=F.of h6;clear h10;have R:=F.r;clear F
  change (cD13).wp _ _ _ _
  cases b87 with
  | false =>
   have fb87:=hb87;clear hb87
   simp only [dd_] at fb87
   refine wp_cond_false (x:=cD14) (y:=Code.skip) (eval_slot h13) ?_
   refine wp_skip ?_
   change (cD26).wp _ _ _ _
   refine wp_seq (x:=cD27) (y:=cD28) ?_
   change (Code.region 7 OD7 false).wp _ _ _ _
   refine reg_in (l:=[0,1,2,3]) rfl ?_
   have F:=fe_ R;clear R
   refine sw_ gD7_0 (ym_ rfl (F.of h1)) F fun a89 F h19=>?_
   refine sv_ gD7_1 (ym_ rfl (F.of h2)) fun a90 e=>?_
   have h20:=pt_ F e;replace F:=pu_ F e;replace h19:=so_ e h19;clear e
   have Y:(execOp a90.eval oD7_2).run Try.prog w81=.ok (.value (.int .i64 (a.tdiv b))) w81:=by have h8:¬ b=0:=(by omega);have h7:=(div_facts HA.out (by omega:¬ b=0) (by omega)).1;unfold oD7_2;go_simp
   refine sw_ gD7_2 Y F fun a91 F h21=>?_;clear Y h19 h20
   refine sv_ gD7_3 (ya_ rfl h21) fun a92 e=>?_
   clear h21;have h7:=pt_ F e;replace F:=pu_ F e;clear e
   refine st_end ?_
   replace h0:=F.of h0;replace h1:=F.of h1;replace h2:=F.of h2;replace h6:=F.of h6;clear h13;have R:=F.r;clear F
   change (cD28).wp _ _ _ _
   refine wp_seq (x:=cD29) (y:=cD36) ?_
   refine wp_seq (x:=cD30) (y:=cD31) ?_
   change (Code.region 8 OD8 false).wp _ _ _ _
   refine reg_in (l:=[0,1]) rfl ?_
   have F:=fe_ R;clear R
   refine sw_ gD8_0 (ym_ rfl (F.of h0)) F fun a93 F h22=>?_
   have Y:(execOp a93.eval oD8_1).run Try.prog w81=.ok (.value (.bool false)) w81:=by have h8:((str [109,111,100]).toList == [47,47])=false:=(by rw [str_eq];exact decide_eq_false (by decide));unfold oD8_1;go_simp
   refine sw_ gD8_1 Y F fun a94 F h23=>?_;clear Y h22
   refine st_end ?_
   replace h0:=F.of h0;replace h1:=F.of h1;replace h2:=F.of h2;replace h6:=F.of h6;replace h7:=F.of h7;have R:=F.r;clear F
   change (cD31).wp _ _ _ _
   refine wp_cond_false (x:=cD32) (y:=Code.skip) (eval_slot h23) ?_
   refine wp_skip ?_
   change (cD36).wp _ _ _ _
   refine wp_seq (x:=cD37) (y:=cD38) ?_
   change (Code.region 10 OD10 false).wp _ _ _ _
   refine reg_in (l:=[0,1,2,3,4,5]) rfl ?_
   have F:=fe_ R;clear R
   refine sw_ gD10_0 (ym_ rfl (F.of h1)) F fun a95 F h26=>?_
   refine sv_ gD10_1 (ym_ rfl (F.of h2)) fun a96 e=>?_
   have h27:=pt_ F e;replace F:=pu_ F e;replace h26:=so_ e h26;clear e
   refine sv_ gD10_2 (ym_ rfl (F.of h7)) fun a97 e=>?_
   have h28:=pt_ F e;replace F:=pu_ F e;replace h26:=so_ e h26;replace h27:=so_ e h27;clear e
   have Y:(execOp a97.eval oD10_3).run Try.prog w81=.ok (.value (.int .i64 (IntKind.i64.wrap (b * (a.tdiv b))))) w81:=by unfold oD10_3;go_simp
   refine sv_ gD10_3 Y fun a98 e=>?_;clear Y
   clear h27 h28;have h29:=pt_ F e;replace F:=pu_ F e;replace h26:=so_ e h26;clear e
   have Y:(execOp a98.eval oD10_4).run Try.prog w81=.ok (.value (.int .i64 (a.tmod b))) w81:=by have h7:=(div_facts HA.out (by omega:¬ b=0) (by omega)).2;unfold oD10_4;go_simp
   refine sw_ gD10_4 Y F fun a99 F h30=>?_;clear Y h26 h29
   refine sv_ gD10_5 (ya_ rfl h30) fun a100 e=>?_
   clear h30;have h8:=pt_ F e;replace F:=pu_ F e;clear e
   refine st_end ?_
   replace h0:=F.of h0;clear h1;replace h2:=F.of h2;replace h6:=F.of h6;clear h7;clear h23;have R:=F.r;clear F
   change (cD38).wp _ _ _ _
   refine wp_seq (x:=cD39) (y:=cD44) ?_
   refine wp_seq (x:=cD40) (y:=cD41) ?_
   change (Code.region 11 OD11 false).wp _ _ _ _
   refine reg_in (l:=[0,1,2,3,4,5,6,7,8,9,10,11,12,13,14,15,16,17]) rfl ?_
   have F:=fe_ R;clear R
   refine sw_ gD11_0 (ym_ rfl (F.of h0)) F fun a101 F h31=>?_
   have Y:(execOp a101.eval oD11_1).run Try.prog w81=.ok (.value (.bool true)) w81:=by have h8:((str [109,111,100]).toList == [109,111,100])=true:=(by rw [str_eq];exact decide_eq_true rfl);unfold oD11_1;go_simp
   refine sw_ gD11_1 Y F fun a102 F h32=>?_;clear Y h31
   refine sv_ gD11_2 (ym_ rfl h32) fun a103 e=>?_
   clear h32;have h33:=pt_ F e;replace F:=pu_ F e;clear e
   refine st_val gD11_3 rfl (wanted_is (j:=2) (d:=33) rfl rfl h33 rfl) (ym_ rfl (F.of h8)) fun a104 e=>?_
   have h34:=pt_ F e;replace F:=pu_ F e;replace h33:=so_ e h33;clear e
   obtain ⟨b105,hb105⟩:∃ x,(decide ((a.tmod b:Int) < (0:Int)))=x:=⟨_,rfl⟩
   have Y:(execOp a104.eval oD11_4).run Try.prog w81=.ok (.value (.bool b105)) w81:=by rw [← hb105];unfold oD11_4;go_simp
   refine st_val gD11_4 rfl (wanted_is (j:=2) (d:=33) rfl rfl h33 rfl) Y fun a106 e=>?_;clear Y
   clear h34;have h35:=pt_ F e;replace F:=pu_ F e;replace h33:=so_ e h33;clear e
   refine st_val gD11_5 rfl (wanted_is (j:=2) (d:=33) rfl rfl h33 rfl) (ym_ rfl h35) fun a107 e=>?_
   clear h35;have h36:=pt_ F e;replace F:=pu_ F e;replace h33:=so_ e h33;clear e
   cases b105 with
   | false =>
    have fb105:=hb105;clear hb105
    simp only [dd_] at fb105
    refine st_not gD11_6 rfl (wanted_is (j:=5) (d:=36) rfl rfl h36 rfl) fun a108 e=>?_
    have h37:=pt_ F e;replace F:=pu_ F e;replace h33:=so_ e h33;replace h36:=so_ e h36;clear e
    refine st_not gD11_7 rfl (wanted_is (j:=5) (d:=36) rfl rfl h36 rfl) fun a109 e=>?_
    clear h37;have h38:=pt_ F e;replace F:=pu_ F e;replace h33:=so_ e h33;replace h36:=so_ e h36;clear e
    have Y:(execOp a109.eval oD11_8).run Try.prog w81=.ok (.value (.bool false)) w81:=by unfold oD11_8;go_simp
    refine st_val gD11_8 rfl (wanted_is (j:=2) (d:=33) rfl rfl h33 rfl) Y fun a110 e=>?_;clear Y
    clear h36 h38;have h39:=pt_ F e;replace F:=pu_ F e;replace h33:=so_ e h33;clear e
    refine st_val gD11_9 rfl (wanted_is (j:=2) (d:=33) rfl rfl h33 rfl) (ym_ rfl h39) fun a111 e=>?_
    clear h39;have h40:=pt_ F e;replace F:=pu_ F e;replace h33:=so_ e h33;clear e
    refine st_val gD11_10 rfl (wanted_is (j:=9) (d:=40) rfl rfl h40 rfl) (ym_ rfl (F.of h8)) fun a112 e=>?_
    have h41:=pt_ F e;replace F:=pu_ F e;replace h33:=so_ e h33;replace h40:=so_ e h40;clear e
    obtain ⟨b113,hb113⟩:∃ x,(decide ((0:Int) < (a.tmod b:Int)))=x:=⟨_,rfl⟩
    have Y:(execOp a112.eval oD11_11).run Try.prog w81=.ok (.value (.bool b113)) w81:=by rw [← hb113];unfold oD11_11;go_simp
    refine st_val gD11_11 rfl (wanted_is (j:=9) (d:=40) rfl rfl h40 rfl) Y fun a114 e=>?_;clear Y
    clear h41;have h42:=pt_ F e;replace F:=pu_ F e;replace h33:=so_ e h33;replace h40:=so_ e h40;clear e
    refine st_val gD11_12 rfl (wanted_is (j:=9) (d:=40) rfl rfl h40 rfl) (ym_ rfl h42) fun a115 e=>?_
    clear h42;have h43:=pt_ F e;replace F:=pu_ F e;replace h33:=so_ e h33;replace h40:=so_ e h40;clear e
    cases b113 with
    | false =>
     have fb113:=hb113;clear hb113
     simp only [dd_] at fb113
     refine st_not gD11_13 rfl (wanted_is (j:=12) (d:=43) rfl rfl h43 rfl) fun a116 e=>?_
     have h44:=pt_ F e;replace F:=pu_ F e;replace h33:=so_ e h33;replace h40:=so_ e h40;replace h43:=so_ e h43;clear e
     refine st_not gD11_14 rfl (wanted_is (j:=12) (d:=43) rfl rfl h43 rfl) fun a117 e=>?_
     clear h44;have h45:=pt_ F e;replace F:=pu_ F e;replace h33:=so_ e h33;replace h40:=so_ e h40;replace h43:=so_ e h43;clear e
     have Y:(execOp a117.eval oD11_15).run Try.prog w81=.ok (.value (.bool false)) w81:=by unfold oD11_15;go_simp
     refine st_val gD11_15 rfl (wanted_is (j:=9) (d:=40) rfl rfl h40 rfl) Y fun a118 e=>?_;clear Y
     clear h43 h45;have h46:=pt_ F e;replace F:=pu_ F e;replace h33:=so_ e h33;replace h40:=so_ e h40;clear e
     have Y:(execOp a118.eval oD11_16).run Try.prog w81=.ok (.value (.bool false)) w81:=by unfold oD11_16;go_simp
     refine st_val gD11_16 rfl (wanted_is (j:=2) (d:=33) rfl rfl h33 rfl) Y fun a119 e=>?_;clear Y
     clear h40 h46;have h47:=pt_ F e;replace F:=pu_ F e;replace h33:=so_ e h33;clear e
     have Y:(execOp a119.eval oD11_17).run Try.prog w81=.ok (.value (.bool false)) w81:=by unfold oD11_17;go_simp
     refine sw_ gD11_17 Y F fun a120 F h48=>?_;clear Y h33 h47
     refine st_end ?_
     clear h0;replace h2:=F.of h2;replace h6:=F.of h6;replace h8:=F.of h8;have R:=F.r;clear F
     change (cD41).wp _ _ _ _
     refine wp_cond_false (x:=cD42) (y:=Code.skip) (eval_slot h48) ?_
     refine wp_skip ?_
     change (cD44).wp _ _ _ _
     refine wp_seq (x:=cD45) (y:=Code.ret) ?_
     change (Code.region 13 OD13 false).wp _ _ _ _
     refine reg_in (l:=[0,1,2]) rfl ?_
     have F:=fe_ R;clear R
     refine sw_ gD13_0 (ym_ rfl (F.of h8)) F fun a121 F h52=>?_
     refine st_call gD13_1 rfl (wanted_free rfl) (yc1_ enA46_31 rfl h52) ((of_any _ (a.tmod b)).mono ?_)
     rintro e9 w122 ⟨rfl,kk⟩
     replace K1:=keep_onto K1 kk
     replace B80:=blk_on B80 kk
     clear kk
     refine ⟨_,rfl,fun a123 e=>?_⟩
     clear h52;have h53:=pt_ F e;replace F:=pu_ F e;clear e
     obtain ⟨w124,Y,hk,hB⟩:=ys6_ (o:=oD13_2) rfl (F.of h6) h53 B80
     replace K1:=kx_ hk K1 (Nat.not_lt.2 LK1_b80);clear B80;have B80:=hB;clear hB hk
     refine st_skip gD13_2 rfl (wanted_free rfl) Y ?_;clear Y
     refine st_end ?_
     clear h2;replace h6:=F.of h6;clear h8;clear h48;clear h53;have R:=F.r;clear F
     change (Code.ret).wp _ _ _ _
     refine wp_ret ?_
     change bodyPost Try.prog Try.f46 (fun e w'=>WA (resW (modR a b)) W e w') .ret a123 w124
     refine ret_cell6 (fn:=Try.f46) rfl R h6 B80 ?_
     exact (show WA (resW (modR a b)) W _ _ by rw [mod_ref2 (by assumption) (by omega),resW_n];exact ⟨none,0,rfl,own_zero,K1⟩)
    | true =>
     have fb113:=hb113;clear hb113
     simp only [dd_] at fb113
     refine st_val gD11_13 rfl (wanted_is (j:=12) (d:=43) rfl rfl h43 rfl) (ym_ rfl (F.of h2)) fun a125 e=>?_
     have h44:=pt_ F e;replace F:=pu_ F e;replace h33:=so_ e h33;replace h40:=so_ e h40;replace h43:=so_ e h43;clear e
     obtain ⟨b126,hb126⟩:∃ x,(decide ((b:Int) < (0:Int)))=x:=⟨_,rfl⟩
     have Y:(execOp a125.eval oD11_14).run Try.prog w81=.ok (.value (.bool b126)) w81:=by rw [← hb126];unfold oD11_14;go_simp
     refine st_val gD11_14 rfl (wanted_is (j:=12) (d:=43) rfl rfl h43 rfl) Y fun a127 e=>?_;clear Y
     clear h44;have h45:=pt_ F e;replace F:=pu_ F e;replace h33:=so_ e h33;replace h40:=so_ e h40;replace h43:=so_ e h43;clear e
     have Y:(execOp a127.eval oD11_15).run Try.prog w81=.ok (.value (.bool b126)) w81:=by unfold oD11_15;go_simp
     refine st_val gD11_15 rfl (wanted_is (j:=9) (d:=40) rfl rfl h40 rfl) Y fun a128 e=>?_;clear Y
     clear h43 h45;have h46:=pt_ F e;replace F:=pu_ F e;replace h33:=so_ e h33;replace h40:=so_ e h40;clear e
     have Y:(execOp a128.eval oD11_16).run Try.prog w81=.ok (.value (.bool b126)) w81:=by unfold oD11_16;go_simp
     refine st_val gD11_16 rfl (wanted_is (j:=2) (d:=33) rfl rfl h33 rfl) Y fun a129 e=>?_;clear Y
     clear h40 h46;have h47:=pt_ F e;replace F:=pu_ F e;replace h33:=so_ e h33;clear e
     have Y:(execOp a129.eval oD11_17).run Try.prog w81=.ok (.value (.bool b126)) w81:=by unfold oD11_17;go_simp
     refine sw_ gD11_17 Y F fun a130 F h48=>?_;clear Y h33 h47
     refine st_end ?_
     clear h0;replace h2:=F.of h2;replace h6:=F.of h6;replace h8:=F.of h8;have R:=F.r;clear F
     change (cD41).wp _ _ _ _
     cases b126 with
     | false =>
      have fb126:=hb126;clear hb126
      simp only [dd_] at fb126
      refine wp_cond_false (x:=cD42) (y:=Code.skip) (eval_slot h48) ?_
      refine wp_skip ?_
      change (cD44).wp _ _ _ _
      refine wp_seq (x:=cD45) (y:=Code.ret) ?_
      change (Code.region 13 OD13 false).wp _ _ _ _
      refine reg_in (l:=[0,1,2]) rfl ?_
      have F:=fe_ R;clear R
      refine sw_ gD13_0 (ym_ rfl (F.of h8)) F fun a131 F h52=>?_
      refine st_call gD13_1 rfl (wanted_free rfl) (yc1_ enA46_31 rfl h52) ((of_any _ (a.tmod b)).mono ?_)
      rintro e9 w132 ⟨rfl,kk⟩
      replace K1:=keep_onto K1 kk
      replace B80:=blk_on B80 kk
      clear kk
      refine ⟨_,rfl,fun a133 e=>?_⟩
      clear h52;have h53:=pt_ F e;replace F:=pu_ F e;clear e
      obtain ⟨w134,Y,hk,hB⟩:=ys6_ (o:=oD13_2) rfl (F.of h6) h53 B80
      replace K1:=kx_ hk K1 (Nat.not_lt.2 LK1_b80);clear B80;have B80:=hB;clear hB hk
      refine st_skip gD13_2 rfl (wanted_free rfl) Y ?_;clear Y
      refine st_end ?_
      clear h2;replace h6:=F.of h6;clear h8;clear h48;clear h53;have R:=F.r;clear F
      change (Code.ret).wp _ _ _ _
      refine wp_ret ?_
      change bodyPost Try.prog Try.f46 (fun e w'=>WA (resW (modR a b)) W e w') .ret a133 w134
      refine ret_cell6 (fn:=Try.f46) rfl R h6 B80 ?_
      exact (show WA (resW (modR a b)) W _ _ by rw [mod_ref2 (by assumption) (by omega),resW_n];exact ⟨none,0,rfl,own_zero,K1⟩)
     | true =>
      have fb126:=hb126;clear hb126
      simp only [dd_] at fb126
      refine wp_cond_true (x:=cD42) (y:=Code.skip) (eval_slot h48) ?_
      change (Code.region 12 OD12 false).wp _ _ _ _
      refine reg_in (l:=[0,1,2,3]) rfl ?_
      have F:=fe_ R;clear R
      refine sw_ gD12_0 (ym_ rfl (F.of h8)) F fun a135 F h49=>?_
      refine sv_ gD12_1 (ym_ rfl (F.of h2)) fun a136 e=>?_
      have h50:=pt_ F e;replace F:=pu_ F e;replace h49:=so_ e h49;clear e
      have Y:(execOp a136.eval oD12_2).run Try.prog w81=.ok (.value (.int .i64 (IntKind.i64.wrap ((a.tmod b) + b)))) w81:=by unfold oD12_2;go_simp
      refine sw_ gD12_2 Y F fun a137 F h51=>?_;clear Y h49 h50
      refine sv_ gD12_3 (ya_ rfl h51) fun a138 e=>?_
      clear h51 h8;have h8:=pt_ F e;replace F:=pu_ F e;clear e
      refine st_end ?_
      clear h2;replace h6:=F.of h6;clear h48;have R:=F.r;clear F
      change (cD44).wp _ _ _ _
      refine wp_seq (x:=cD45) (y:=Code.ret) ?_
      change (Code.region 13 OD13 false).wp _ _ _ _
      refine reg_in (l:=[0,1,2]) rfl ?_
      have F:=fe_ R;clear R
      refine sw_ gD13_0 (ym_ rfl (F.of h8)) F fun a139 F h52=>?_
      refine st_call gD13_1 rfl (wanted_free rfl) (yc1_ enA46_31 rfl h52) ((of_any _ (IntKind.i64.wrap ((a.tmod b) + b))).mono ?_)
      rintro e9 w140 ⟨rfl,kk⟩
      replace K1:=keep_onto K1 kk
      replace B80:=blk_on B80 kk
      clear kk
      refine ⟨_,rfl,fun a141 e=>?_⟩
      clear h52;have h53:=pt_ F e;replace F:=pu_ F e;clear e
      obtain ⟨w142,Y,hk,hB⟩:=ys6_ (o:=oD13_2) rfl (F.of h6) h53 B80
      replace K1:=kx_ hk K1 (Nat.not_lt.2 LK1_b80);clear B80;have B80:=hB;clear hB hk
      refine st_skip gD13_2 rfl (wanted_free rfl) Y ?_;clear Y
      refine st_end ?_
      replace h6:=F.of h6;clear h8;clear h53;have R:=F.r;clear F
      change (Code.ret).wp _ _ _ _
      refine wp_ret ?_
      change bodyPost Try.prog Try.f46 (fun e w'=>WA (resW (modR a b)) W e w') .ret a141 w142
      refine ret_cell6 (fn:=Try.f46) rfl R h6 B80 ?_
      exact (show WA (resW (modR a b)) W _ _ by rw [mod_ref1 HA.out HB.out (by omega),resW_n];exact ⟨none,0,rfl,own_zero,K1⟩)
   | true =>
    have fb105:=hb105;clear hb105
    simp only [dd_] at fb105
    refine st_val gD11_6 rfl (wanted_is (j:=5) (d:=36) rfl rfl h36 rfl) (ym_ rfl (F.of h2)) fun a143 e=>?_
    have h37:=pt_ F e;replace F:=pu_ F e;replace h33:=so_ e h33;replace h36:=so_ e h36;clear e
    obtain ⟨b144,hb144⟩:∃ x,(decide ((0:Int) < (b:Int)))=x:=⟨_,rfl⟩
    have Y:(execOp a143.eval oD11_7).run Try.prog w81=.ok (.value (.bool b144)) w81:=by rw [← hb144];unfold oD11_7;go_simp
    refine st_val gD11_7 rfl (wanted_is (j:=5) (d:=36) rfl rfl h36 rfl) Y fun a145 e=>?_;clear Y
    clear h37;have h38:=pt_ F e;replace F:=pu_ F e;replace h33:=so_ e h33;replace h36:=so_ e h36;clear e
    have Y:(execOp a145.eval oD11_8).run Try.prog w81=.ok (.value (.bool b144)) w81:=by unfold oD11_8;go_simp
    refine st_val gD11_8 rfl (wanted_is (j:=2) (d:=33) rfl rfl h33 rfl) Y fun a146 e=>?_;clear Y
    clear h36 h38;have h39:=pt_ F e;replace F:=pu_ F e;replace h33:=so_ e h33;clear e
    refine st_val gD11_9 rfl (wanted_is (j:=2) (d:=33) rfl rfl h33 rfl) (ym_ rfl h39) fun a147 e=>?_
    clear h39;have h40:=pt_ F e;replace F:=pu_ F e;replace h33:=so_ e h33;clear e
    cases b144 with
    | false =>
     have fb144:=hb144;clear hb144
     simp only [dd_] at fb144
     refine st_val gD11_10 rfl (wanted_is (j:=9) (d:=40) rfl rfl h40 rfl) (ym_ rfl (F.of h8)) fun a148 e=>?_
     have h41:=pt_ F e;replace F:=pu_ F e;replace h33:=so_ e h33;replace h40:=so_ e h40;clear e
     obtain ⟨b149,hb149⟩:∃ x,(decide ((0:Int) < (a.tmod b:Int)))=x:=⟨_,rfl⟩
     have Y:(execOp a148.eval oD11_11).run Try.prog w81=.ok (.value (.bool b149)) w81:=by rw [← hb149];unfold oD11_11;go_simp
     refine st_val gD11_11 rfl (wanted_is (j:=9) (d:=40) rfl rfl h40 rfl) Y fun a150 e=>?_;clear Y
     clear h41;have h42:=pt_ F e;replace F:=pu_ F e;replace h33:=so_ e h33;replace h40:=so_ e h40;clear e
     refine st_val gD11_12 rfl (wanted_is (j:=9) (d:=40) rfl rfl h40 rfl) (ym_ rfl h42) fun a151 e=>?_
     clear h42;have h43:=pt_ F e;replace F:=pu_ F e;replace h33:=so_ e h33;replace h40:=so_ e h40;clear e
     cases b149 with
     | false =>
      have fb149:=hb149;clear hb149
      simp only [dd_] at fb149
      refine st_not gD11_13 rfl (wanted_is (j:=12) (d:=43) rfl rfl h43 rfl) fun a152 e=>?_
      have h44:=pt_ F e;replace F:=pu_ F e;replace h33:=so_ e h33;replace h40:=so_ e h40;replace h43:=so_ e h43;clear e
      refine st_not gD11_14 rfl (wanted_is (j:=12) (d:=43) rfl rfl h43 rfl) fun a153 e=>?_
      clear h44;have h45:=pt_ F e;replace F:=pu_ F e;replace h33:=so_ e h33;replace h40:=so_ e h40;replace h43:=so_ e h43;clear e
      have Y:(execOp a153.eval oD11_15).run Try.prog w81=.ok (.value (.bool false)) w81:=by unfold oD11_15;go_simp
      refine st_val gD11_15 rfl (wanted_is (j:=9) (d:=40) rfl rfl h40 rfl) Y fun a154 e=>?_;clear Y
      clear h43 h45;have h46:=pt_ F e;replace F:=pu_ F e;replace h33:=so_ e h33;replace h40:=so_ e h40;clear e
      have Y:(execOp a154.eval oD11_16).run Try.prog w81=.ok (.value (.bool false)) w81:=by unfold oD11_16;go_simp
      refine st_val gD11_16 rfl (wanted_is (j:=2) (d:=33) rfl rfl h33 rfl) Y fun a155 e=>?_;clear Y
      clear h40 h46;have h47:=pt_ F e;replace F:=pu_ F e;replace h33:=so_ e h33;clear e
      have Y:(execOp a155.eval oD11_17).run Try.prog w81=.ok (.value (.bool false)) w81:=by unfold oD11_17;go_simp
      refine sw_ gD11_17 Y F fun a156 F h48=>?_;clear Y h33 h47
      refine st_end ?_
      clear h0;replace h2:=F.of h2;replace h6:=F.of h6;replace h8:=F.of h8;have R:=F.r;clear F
      change (cD41).wp _ _ _ _
      refine wp_cond_false (x:=cD42) (y:=Code.skip) (eval_slot h48) ?_
      refine wp_skip ?_
      change (cD44).wp _ _ _ _
      refine wp_seq (x:=cD45) (y:=Code.ret) ?_
      change (Code.region 13 OD13 false).wp _ _ _ _
      refine reg_in (l:=[0,1,2]) rfl ?_
      have F:=fe_ R;clear R
      refine sw_ gD13_0 (ym_ rfl (F.of h8)) F fun a157 F h52=>?_
      refine st_call gD13_1 rfl (wanted_free rfl) (yc1_ enA46_31 rfl h52) ((of_any _ (a.tmod b)).mono ?_)
      rintro e9 w158 ⟨rfl,kk⟩
      replace K1:=keep_onto K1 kk
      replace B80:=blk_on B80 kk
      clear kk
      refine ⟨_,rfl,fun a159 e=>?_⟩
      clear h52;have h53:=pt_ F e;replace F:=pu_ F e;clear e
      obtain ⟨w160,Y,hk,hB⟩:=ys6_ (o:=oD13_2) rfl (F.of h6) h53 B80
      replace K1:=kx_ hk K1 (Nat.not_lt.2 LK1_b80);clear B80;have B80:=hB;clear hB hk
      refine st_skip gD13_2 rfl (wanted_free rfl) Y ?_;clear Y
      refine st_end ?_
      clear h2;replace h6:=F.of h6;clear h8;clear h48;clear h53;have R:=F.r;clear F
      change (Code.ret).wp _ _ _ _
      refine wp_ret ?_
      change bodyPost Try.prog Try.f46 (fun e w'=>WA (resW (modR a b)) W e w') .ret a159 w160
      refine ret_cell6 (fn:=Try.f46) rfl R h6 B80 ?_
      exact (show WA (resW (modR a b)) W _ _ by rw [mod_ref2 (by assumption) (by omega),resW_n];exact ⟨none,0,rfl,own_zero,K1⟩)
     | true =>
      have fb149:=hb149;clear hb149
      simp only [dd_] at fb149
      refine st_val gD11_13 rfl (wanted_is (j:=12) (d:=43) rfl rfl h43 rfl) (ym_ rfl (F.of h2)) fun a161 e=>?_
      have h44:=pt_ F e;replace F:=pu_ F e;replace h33:=so_ e h33;replace h40:=so_ e h40;replace h43:=so_ e h43;clear e
      obtain ⟨b162,hb162⟩:∃ x,(decide ((b:Int) < (0:Int)))=x:=⟨_,rfl⟩
      have Y:(execOp a161.eval oD11_14).run Try.prog w81=.ok (.value (.bool b162)) w81:=by rw [← hb162];unfold oD11_14;go_simp
      refine st_val gD11_14 rfl (wanted_is (j:=12) (d:=43) rfl rfl h43 rfl) Y fun a163 e=>?_;clear Y
      clear h44;have h45:=pt_ F e;replace F:=pu_ F e;replace h33:=so_ e h33;replace h40:=so_ e h40;replace h43:=so_ e h43;clear e
      have Y:(execOp a163.eval oD11_15).run Try.prog w81=.ok (.value (.bool b162)) w81:=by unfold oD11_15;go_simp
      refine st_val gD11_15 rfl (wanted_is (j:=9) (d:=40) rfl rfl h40 rfl) Y fun a164 e=>?_;clear Y
      clear h43 h45;have h46:=pt_ F e;replace F:=pu_ F e;replace h33:=so_ e h33;replace h40:=so_ e h40;clear e
      have Y:(execOp a164.eval oD11_16).run Try.prog w81=.ok (.value (.bool b162)) w81:=by unfold oD11_16;go_simp
      refine st_val gD11_16 rfl (wanted_is (j:=2) (d:=33) rfl rfl h33 rfl) Y fun a165 e=>?_;clear Y
      clear h40 h46;have h47:=pt_ F e;replace F:=pu_ F e;replace h33:=so_ e h33;clear e
      have Y:(execOp a165.eval oD11_17).run Try.prog w81=.ok (.value (.bool b162)) w81:=by unfold oD11_17;go_simp
      refine sw_ gD11_17 Y F fun a166 F h48=>?_;clear Y h33 h47
      refine st_end ?_
      clear h0;replace h2:=F.of h2;replace h6:=F.of h6;replace h8:=F.of h8;have R:=F.r;clear F
      change (cD41).wp _ _ _ _
      cases b162 with
      | false =>
       have fb162:=hb162;clear hb162
       simp only [dd_] at fb162
       refine wp_cond_false (x:=cD42) (y:=Code.skip) (eval_slot h48) ?_
       refine wp_skip ?_
       change (cD44).wp _ _ _ _
       refine wp_seq (x:=cD45) (y:=Code.ret) ?_
       change (Code.region 13 OD13 false).wp _ _ _ _
       refine reg_in (l:=[0,1,2]) rfl ?_
       have F:=fe_ R;clear R
       refine sw_ gD13_0 (ym_ rfl (F.of h8)) F fun a167 F h52=>?_
       refine st_call gD13_1 rfl (wanted_free rfl) (yc1_ enA46_31 rfl h52) ((of_any _ (a.tmod b)).mono ?_)
       rintro e9 w168 ⟨rfl,kk⟩
       replace K1:=keep_onto K1 kk
       replace B80:=blk_on B80 kk
       clear kk
       refine ⟨_,rfl,fun a169 e=>?_⟩
       clear h52;have h53:=pt_ F e;replace F:=pu_ F e;clear e
       obtain ⟨w170,Y,hk,hB⟩:=ys6_ (o:=oD13_2) rfl (F.of h6) h53 B80
       replace K1:=kx_ hk K1 (Nat.not_lt.2 LK1_b80);clear B80;have B80:=hB;clear hB hk
       refine st_skip gD13_2 rfl (wanted_free rfl) Y ?_;clear Y
       refine st_end ?_
       clear h2;replace h6:=F.of h6;clear h8;clear h48;clear h53;have R:=F.r;clear F
       change (Code.ret).wp _ _ _ _
       refine wp_ret ?_
       change bodyPost Try.prog Try.f46 (fun e w'=>WA (resW (modR a b)) W e w') .ret a169 w170
       refine ret_cell6 (fn:=Try.f46) rfl R h6 B80 ?_
       exact (show WA (resW (modR a b)) W _ _ by rw [mod_ref2 (by assumption) (by omega),resW_n];exact ⟨none,0,rfl,own_zero,K1⟩)
      | true =>
       have fb162:=hb162;clear hb162
       simp only [dd_] at fb162
       refine wp_cond_true (x:=cD42) (y:=Code.skip) (eval_slot h48) ?_
       change (Code.region 12 OD12 false).wp _ _ _ _
       refine reg_in (l:=[0,1,2,3]) rfl ?_
       have F:=fe_ R;clear R
       refine sw_ gD12_0 (ym_ rfl (F.of h8)) F fun a171 F h49=>?_
       refine sv_ gD12_1 (ym_ rfl (F.of h2)) fun a172 e=>?_
       have h50:=pt_ F e;replace F:=pu_ F e;replace h49:=so_ e h49;clear e
       have Y:(execOp a172.eval oD12_2).run Try.prog w81=.ok (.value (.int .i64 (IntKind.i64.wrap ((a.tmod b) + b)))) w81:=by unfold oD12_2;go_simp
       refine sw_ gD12_2 Y F fun a173 F h51=>?_;clear Y h49 h50
       refine sv_ gD12_3 (ya_ rfl h51) fun a174 e=>?_
       clear h51 h8;have h8:=pt_ F e;replace F:=pu_ F e;clear e
       refine st_end ?_
       clear h2;replace h6:=F.of h6;clear h48;have R:=F.r;clear F
       change (cD44).wp _ _ _ _
       refine wp_seq (x:=cD45) (y:=Code.ret) ?_
       change (Code.region 13 OD13 false).wp _ _ _ _
       refine reg_in (l:=[0,1,2]) rfl ?_
       have F:=fe_ R;clear R
       refine sw_ gD13_0 (ym_ rfl (F.of h8)) F fun a175 F h52=>?_
       refine st_call gD13_1 rfl (wanted_free rfl) (yc1_ enA46_31 rfl h52) ((of_any _ (IntKind.i64.wrap ((a.tmod b) + b))).mono ?_)
       rintro e9 w176 ⟨rfl,kk⟩
       replace K1:=keep_onto K1 kk
       replace B80:=blk_on B80 kk
       clear kk
       refine ⟨_,rfl,fun a177 e=>?_⟩
       clear h52;have h53:=pt_ F e;replace F:=pu_ F e;clear e
       obtain ⟨w178,Y,hk,hB⟩:=ys6_ (o:=oD13_2) rfl (F.of h6) h53 B80
       replace K1:=kx_ hk K1 (Nat.not_lt.2 LK1_b80);clear B80;have B80:=hB;clear hB hk
       refine st_skip gD13_2 rfl (wanted_free rfl) Y ?_;clear Y
       refine st_end ?_
       replace h6:=F.of h6;clear h8;clear h53;have R:=F.r;clear F
       change (Code.ret).wp _ _ _ _
       refine wp_ret ?_
       change bodyPost Try.prog Try.f46 (fun e w'=>WA (resW (modR a b)) W e w') .ret a177 w178
       refine ret_cell6 (fn:=Try.f46) rfl R h6 B80 ?_
       exact (show WA (resW (modR a b)) W _ _ by rw [mod_ref1 HA.out HB.out (by omega),resW_n];exact ⟨none,0,rfl,own_zero,K1⟩)
    | true =>
     have fb144:=hb144;clear hb144
     simp only [dd_] at fb144
     refine st_not gD11_10 rfl (wanted_is (j:=9) (d:=40) rfl rfl h40 rfl) fun a179 e=>?_
     have h41:=pt_ F e;replace F:=pu_ F e;replace h33:=so_ e h33;replace h40:=so_ e h40;clear e
     refine st_not gD11_11 rfl (wanted_is (j:=9) (d:=40) rfl rfl h40 rfl) fun a180 e=>?_
     clear h41;have h42:=pt_ F e;replace F:=pu_ F e;replace h33:=so_ e h33;replace h40:=so_ e h40;clear e
     refine st_not gD11_12 rfl (wanted_is (j:=9) (d:=40) rfl rfl h40 rfl) fun a181 e=>?_
     clear h42;have h43:=pt_ F e;replace F:=pu_ F e;replace h33:=so_ e h33;replace h40:=so_ e h40;clear e
     refine st_not gD11_13 rfl (wanted_un (j:=12) (d:=43) rfl rfl h43) fun a182 e=>?_
     have h44:=pt_ F e;replace F:=pu_ F e;replace h33:=so_ e h33;replace h40:=so_ e h40;replace h43:=so_ e h43;clear e
     refine st_not gD11_14 rfl (wanted_un (j:=12) (d:=43) rfl rfl h43) fun a183 e=>?_
     clear h44;have h45:=pt_ F e;replace F:=pu_ F e;replace h33:=so_ e h33;replace h40:=so_ e h40;replace h43:=so_ e h43;clear e
     refine st_not gD11_15 rfl (wanted_is (j:=9) (d:=40) rfl rfl h40 rfl) fun a184 e=>?_
     clear h43 h45;have h46:=pt_ F e;replace F:=pu_ F e;replace h33:=so_ e h33;replace h40:=so_ e h40;clear e
     have Y:(execOp a184.eval oD11_16).run Try.prog w81=.ok (.value (.bool true)) w81:=by unfold oD11_16;go_simp
     refine st_val gD11_16 rfl (wanted_is (j:=2) (d:=33) rfl rfl h33 rfl) Y fun a185 e=>?_;clear Y
     clear h40 h46;have h47:=pt_ F e;replace F:=pu_ F e;replace h33:=so_ e h33;clear e
     have Y:(execOp a185.eval oD11_17).run Try.prog w81=.ok (.value (.bool true)) w81:=by unfold oD11_17;go_simp
     refine sw_ gD11_17 Y F fun a186 F h48=>?_;clear Y h33 h47
     refine st_end ?_
     clear h0;replace h2:=F.of h2;replace h6:=F.of h6;replace h8:=F.of h8;have R:=F.r;clear F
     change (cD41).wp _ _ _ _
     refine wp_cond_true (x:=cD42) (y:=Code.skip) (eval_slot h48) ?_
     change (Code.region 12 OD12 false).wp _ _ _ _
     refine reg_in (l:=[0,1,2,3]) rfl ?_
     have F:=fe_ R;clear R
     refine sw_ gD12_0 (ym_ rfl (F.of h8)) F fun a187 F h49=>?_
     refine sv_ gD12_1 (ym_ rfl (F.of h2)) fun a188 e=>?_
     have h50:=pt_ F e;replace F:=pu_ F e;replace h49:=so_ e h49;clear e
     have Y:(execOp a188.eval oD12_2).run Try.prog w81=.ok (.value (.int .i64 (IntKind.i64.wrap ((a.tmod b) + b)))) w81:=by unfold oD12_2;go_simp
     refine sw_ gD12_2 Y F fun a189 F h51=>?_;clear Y h49 h50
     refine sv_ gD12_3 (ya_ rfl h51) fun a190 e=>?_
     clear h51 h8;have h8:=pt_ F e;replace F:=pu_ F e;clear e
     refine st_end ?_
     clear h2;replace h6:=F.of h6;clear h48;have R:=F.r;clear F
     change (cD44).wp _ _ _ _
     refine wp_seq (x:=cD45) (y:=Code.ret) ?_
     change (Code.region 13 OD13 false).wp _ _ _ _
     refine reg_in (l:=[0,1,2]) rfl ?_
     have F:=fe_ R;clear R
     refine sw_ gD13_0 (ym_ rfl (F.of h8)) F fun a191 F h52=>?_
     refine st_call gD13_1 rfl (wanted_free rfl) (yc1_ enA46_31 rfl h52) ((of_any _ (IntKind.i64.wrap ((a.tmod b) + b))).mono ?_)
     rintro e9 w192 ⟨rfl,kk⟩
     replace K1:=keep_onto K1 kk
     replace B80:=blk_on B80 kk
     clear kk
     refine ⟨_,rfl,fun a193 e=>?_⟩
     clear h52;have h53:=pt_ F e;replace F:=pu_ F e;clear e
     obtain ⟨w194,Y,hk,hB⟩:=ys6_ (o:=oD13_2) rfl (F.of h6) h53 B80
     replace K1:=kx_ hk K1 (Nat.not_lt.2 LK1_b80);clear B80;have B80:=hB;clear hB hk
     refine st_skip gD13_2 rfl (wanted_free rfl) Y ?_;clear Y
     refine st_end ?_
     replace h6:=F.of h6;clear h8;clear h53;have R:=F.r;clear F
     change (Code.ret).wp _ _ _ _
     refine wp_ret ?_
     change bodyPost Try.prog Try.f46 (fun e w'=>WA (resW (modR a b)) W e w') .ret a193 w194
     refine ret_cell6 (fn:=Try.f46) rfl R h6 B80 ?_
     exact (show WA (resW (modR a b)) W _ _ by rw [mod_ref1 HA.out HB.out (by omega),resW_n];exact ⟨none,0,rfl,own_zero,K1⟩)
  | true =>
   have fb87:=hb87;clear hb87
   simp only [dd_] at fb87
   refine wp_cond_true (x:=cD14) (y:=Code.skip) (eval_slot h13) ?_
   refine wp_seq (x:=cD15) (y:=cD22) ?_
   refine wp_seq (x:=cD16) (y:=cD17) ?_
   change (Code.region 4 OD4 false).wp _ _ _ _
   refine reg_in (l:=[0,1]) rfl ?_
   have F:=fe_ R;clear R
   refine sw_ gD4_0 (ym_ rfl (F.of h0)) F fun a195 F h14=>?_
   have Y:(execOp a195.eval oD4_1).run Try.prog w81=.ok (.value (.bool false)) w81:=by have h8:((str [109,111,100]).toList == [47,47])=false:=(by rw [str_eq];exact decide_eq_false (by decide));unfold oD4_1;go_simp
   refine sw_ gD4_1 Y F fun a196 F h15=>?_;clear Y h14
   refine st_end ?_
   replace h0:=F.of h0;replace h1:=F.of h1;replace h2:=F.of h2;replace h6:=F.of h6;clear h13;have R:=F.r;clear F
   change (cD17).wp _ _ _ _
   refine wp_cond_false (x:=cD18) (y:=Code.skip) (eval_slot h15) ?_
   refine wp_skip ?_
   change (cD22).wp _ _ _ _
   refine wp_seq (x:=cD23) (y:=Code.ret) ?_
   change (Code.region 6 OD6 false).wp _ _ _ _
   refine reg_in (l:=[0,1]) rfl ?_
   have F:=fe_ R;clear R
   have Y:(execOp a196.eval oD6_0).run Try.prog w81=.ok (.enter 31 #[.int .i64 0]) w81:=by unfold oD6_0;go_simp
   refine st_call gD6_0 rfl (wanted_free rfl) Y ((of_any _ (0)).mono ?_);clear Y
   rintro e9 w197 ⟨rfl,kk⟩
   replace K1:=keep_onto K1 kk
   replace B80:=blk_on B80 kk
   clear kk
   refine ⟨_,rfl,fun a198 e=>?_⟩
   have h18:=pt_ F e;replace F:=pu_ F e;clear e
   obtain ⟨w199,Y,hk,hB⟩:=ys6_ (o:=oD6_1) rfl (F.of h6) h18 B80
   replace K1:=kx_ hk K1 (Nat.not_lt.2 LK1_b80);clear B80;have B80:=hB;clear hB hk
   refine st_skip gD6_1 rfl (wanted_free rfl) Y ?_;clear Y
   refine st_end ?_
   replace h0:=F.of h0;replace h1:=F.of h1;replace h2:=F.of h2;replace h6:=F.of h6;clear h15;clear h18;have R:=F.r;clear F
   change (Code.ret).wp _ _ _ _
   refine wp_ret ?_
   change bodyPost Try.prog Try.f46 (fun e w'=>WA (resW (modR a b)) W e w') .ret a198 w199
   refine ret_cell6 (fn:=Try.f46) rfl R h6 B80 ?_
   exact (show WA (resW (modR a b)) W _ _ by rw [mod_m1 (by assumption),resW_n];exact ⟨none,0,rfl,own_zero,K1⟩)
 | true =>
  have fb84:=hb84;clear hb84
  simp only [dd_] at fb84
  refine wp_cond_true (x:=cD6) (y:=Code.skip) (eval_slot h10) ?_
  refine wp_seq (x:=cD7) (y:=Code.ret) ?_
  change (Code.region 2 OD2 false).wp _ _ _ _
  refine reg_in (l:=[0,1]) rfl ?_
  have F:=fe_ R;clear R
  have Y:(execOp a85.eval oD2_0).run Try.prog w81=.ok (.enter 59 #[.string (⟨#[122,101,114,111,95,100,105,118,105,115,111,114]⟩)]) w81:=by unfold oD2_0;go_simp
  have hca:=fails_any (W:=w81) (s:=fZero) (by decide)
  have UKX_b80:=B80.lt
  have HWKX:W.heap.size ≤ w81.heap.size:=K1.size
  refine st_call gD2_0 rfl (wanted_free rfl) Y ((hca).mono ?_);clear Y
  rintro e9 w200 ⟨ax,cx,rfl,hx,kk⟩
  replace K1:=keep_onto K1 kk
  replace B80:=blk_on B80 kk
  clear kk
  clear hca
  have HX:=Lib.hid hx;clear hx
  have KX:=Keep.refl (fun g=>w81.heap.size ≤ g∧g < w200.heap.size) w200
  refine ⟨_,rfl,fun a201 e=>?_⟩
  have h11:=pt_ F e;replace F:=pu_ F e;clear e
  obtain ⟨w202,Y,hk,hB⟩:=ys6_ (o:=oD2_1) rfl (F.of h6) h11 B80
  replace K1:=kx_ hk K1 (Nat.not_lt.2 LK1_b80);replace KX:=kx_ hk KX (fun hx=>absurd hx.1 (Nat.not_le.2 UKX_b80));clear B80;have B80:=hB;clear hB hk
  refine st_skip gD2_1 rfl (wanted_free rfl) Y ?_;clear Y
  refine st_end ?_
  replace h0:=F.of h0;replace h1:=F.of h1;replace h2:=F.of h2;replace h6:=F.of h6;clear h10;clear h11;have R:=F.r;clear F
  change (Code.ret).wp _ _ _ _
  refine wp_ret ?_
  change bodyPost Try.prog Try.f46 (fun e w'=>WA (resW (modR a b)) W e w') .ret a201 w202
  refine ret_cell6 (fn:=Try.f46) rfl R h6 B80 ?_
  exact (show WA (resW (modR a b)) W _ _ by rw [mod_zero (by assumption),resW_z];exact ⟨ax,cx,rfl,(HX.out.on KX).up HWKX,K1⟩)
theorem rdiv_mod_any (W:World) {a b:Int} (ha:inR a) (hb:inR b):Calls Try.prog 46 #[.string (str [109,111,100]),.int .i64 a,.int .i64 b] W fun e w'=>WA (resW (modR a b)) W e w':=by
  refine enter_sx Try.func46 bodyA46 rfl (by show (3:Nat) ≤ 54;decide) fun f0 R hs=>?_
  exact rdiv_mod_w R (hs 0 _ rfl) (hs 1 _ rfl) (hs 2 _ rfl) (Keep.refl _ W) (Lib.hid ha) (Lib.hid hb)
def oG0_0:Oper:=⟨some 6,Op.alloc 30,0, "ref.go:189",#[],none⟩
def OG0:Array Oper:=List.toArray (oG0_0::[])
theorem gG0_0:OG0[0]? = some oG0_0:=rfl
def cG1:Code:=Code.region 0 OG0 false
def oG1_0:Oper:=⟨some 9,Op.move (Operand.tmp 2),2, "ref.go:190",#[],none⟩
def oG1_1:Oper:=⟨some 10,Op.binOp Go.BinOp.lss 2 (Operand.tmp 9) (Operand.const (Value.int IntKind.i64 0)) 2,4, "ref.go:190",#[ed_ 0],none⟩
def OG1:Array Oper:=List.toArray (oG1_0::oG1_1::[])
theorem gG1_0:OG1[0]? = some oG1_0:=rfl
theorem gG1_1:OG1[1]? = some oG1_1:=rfl
def cG4:Code:=Code.region 1 OG1 false
def oG2_0:Oper:=⟨some 11,Op.call { callee:=Callee.value (Operand.func 59),args:=#[Operand.const (Value.string { data:=#[117,110,100,101,102,105,110,101,100] })],argTypes:=#[9] },30, "ref.go:191",#[],none⟩
def oG2_1:Oper:=⟨none,Op.store 30 (Operand.tmp 6) (Operand.tmp 11),0, "ref.go:191",#[ed_ 0,ec_ 0,ep_ 0],none⟩
def OG2:Array Oper:=List.toArray (oG2_0::oG2_1::[])
theorem gG2_0:OG2[0]? = some oG2_0:=rfl
theorem gG2_1:OG2[1]? = some oG2_1:=rfl
def cG7:Code:=Code.region 2 OG2 false
def cG6:Code:=Code.seq cG7 Code.ret
def cG5:Code:=Code.cond (Operand.tmp 10) cG6 Code.skip
def cG3:Code:=Code.seq cG4 cG5
def oG3_0:Oper:=⟨some 12,Op.move (Operand.tmp 1),2, "ref.go:193",#[],none⟩
def oG3_1:Oper:=⟨some 13,Op.call { callee:=Callee.value (Operand.func 31),args:=#[Operand.tmp 12],argTypes:=#[2] },30, "ref.go:193",#[ed_ 0],none⟩
def oG3_2:Oper:=⟨some 7,Op.alloc 30,0, "ref.go:193",#[],none⟩
def oG3_3:Oper:=⟨none,Op.store 30 (Operand.tmp 7) (Operand.tmp 13),0, "ref.go:193",#[ed_ 2,ed_ 1,ec_ 1,ep_ 0,ep_ 1,ep_ 2],none⟩
def OG3:Array Oper:=List.toArray (oG3_0::oG3_1::oG3_2::oG3_3::[])
theorem gG3_0:OG3[0]? = some oG3_0:=rfl
theorem gG3_1:OG3[1]? = some oG3_1:=rfl
theorem gG3_2:OG3[2]? = some oG3_2:=rfl
theorem gG3_3:OG3[3]? = some oG3_3:=rfl
def cG11:Code:=Code.region 3 OG3 false
def oG4_0:Oper:=⟨some 8,Op.assign (Operand.const (Value.int IntKind.i64 0)),2, "ref.go:194",#[],none⟩
def OG4:Array Oper:=List.toArray (oG4_0::[])
theorem gG4_0:OG4[0]? = some oG4_0:=rfl
def cG14:Code:=Code.region 4 OG4 false
def oG5_0:Oper:=⟨some 14,Op.move (Operand.tmp 8),2, "ref.go:194",#[],none⟩
def oG5_1:Oper:=⟨some 15,Op.move (Operand.tmp 2),2, "ref.go:194",#[],none⟩
def oG5_2:Oper:=⟨some 16,Op.binOp Go.BinOp.lss 2 (Operand.tmp 14) (Operand.tmp 15) 2,4, "ref.go:194",#[ed_ 0,ed_ 1],none⟩
def oG5_3:Oper:=⟨some 17,Op.move (Operand.tmp 16),4, "ref.go:194",#[ed_ 2],none⟩
def oG5_4:Oper:=⟨some 18,Op.move (Operand.tmp 8),2, "ref.go:194",#[eg_ 3],some (3,true)⟩
def oG5_5:Oper:=⟨some 19,Op.binOp Go.BinOp.lss 2 (Operand.tmp 18) (Operand.const (Value.int IntKind.i64 70)) 2,4, "ref.go:194",#[ed_ 4,eg_ 3],some (3,true)⟩
def oG5_6:Oper:=⟨some 20,Op.pick (Operand.tmp 17) (Operand.tmp 19) (Operand.const (Value.bool false)),4, "ref.go:194",#[ed_ 3,ed_ 5],none⟩
def OG5:Array Oper:=List.toArray (oG5_0::oG5_1::oG5_2::oG5_3::oG5_4::oG5_5::oG5_6::[])
theorem gG5_0:OG5[0]? = some oG5_0:=rfl
theorem gG5_1:OG5[1]? = some oG5_1:=rfl
theorem gG5_2:OG5[2]? = some oG5_2:=rfl
theorem gG5_3:OG5[3]? = some oG5_3:=rfl
theorem gG5_4:OG5[4]? = some oG5_4:=rfl
theorem gG5_5:OG5[5]? = some oG5_5:=rfl
theorem gG5_6:OG5[6]? = some oG5_6:=rfl
def cG19:Code:=Code.region 5 OG5 false
def cG22:Code:=Code.exit 0
def cG20:Code:=Code.cond (Operand.tmp 20) Code.skip cG22
def cG18:Code:=Code.seq cG19 cG20
def oG7_0:Oper:=⟨some 23,Op.move (Operand.tmp 0),9, "ref.go:195",#[],none⟩
def oG7_1:Oper:=⟨some 24,Op.binOp Go.BinOp.eql 9 (Operand.tmp 23) (Operand.const (Value.string { data:=#[60,60] })) 9,4, "ref.go:195",#[ed_ 0],none⟩
def OG7:Array Oper:=List.toArray (oG7_0::oG7_1::[])
theorem gG7_0:OG7[0]? = some oG7_0:=rfl
theorem gG7_1:OG7[1]? = some oG7_1:=rfl
def cG26:Code:=Code.region 7 OG7 false
def oG8_0:Oper:=⟨some 25,Op.fieldAddr 30 (Operand.tmp 7) 0,0, "ref.go:196",#[],none⟩
def oG8_1:Oper:=⟨some 26,Op.load 2 (Operand.tmp 25),2, "ref.go:196",#[ed_ 0],none⟩
def oG8_2:Oper:=⟨some 27,Op.call { callee:=Callee.value (Operand.func 45),args:=#[Operand.tmp 26,Operand.const (Value.int IntKind.i64 2)],argTypes:=#[2,2] },30, "ref.go:196",#[ed_ 1],none⟩
def oG8_3:Oper:=⟨none,Op.store 30 (Operand.tmp 7) (Operand.tmp 27),0, "ref.go:196",#[ed_ 2,ec_ 2,ep_ 0,ep_ 1,ep_ 2],none⟩
def OG8:Array Oper:=List.toArray (oG8_0::oG8_1::oG8_2::oG8_3::[])
theorem gG8_0:OG8[0]? = some oG8_0:=rfl
theorem gG8_1:OG8[1]? = some oG8_1:=rfl
theorem gG8_2:OG8[2]? = some oG8_2:=rfl
theorem gG8_3:OG8[3]? = some oG8_3:=rfl
def cG29:Code:=Code.region 8 OG8 false
def oG9_0:Oper:=⟨some 28,Op.fieldAddr 30 (Operand.tmp 7) 2,0, "ref.go:197",#[],none⟩
def oG9_1:Oper:=⟨some 29,Op.load 4 (Operand.tmp 28),4, "ref.go:197",#[ed_ 0],none⟩
def oG9_2:Oper:=⟨some 30,Op.unOp Go.UnOp.not 4 (Operand.tmp 29),4, "ref.go:197",#[ed_ 1],none⟩
def OG9:Array Oper:=List.toArray (oG9_0::oG9_1::oG9_2::[])
theorem gG9_0:OG9[0]? = some oG9_0:=rfl
theorem gG9_1:OG9[1]? = some oG9_1:=rfl
theorem gG9_2:OG9[2]? = some oG9_2:=rfl
def cG31:Code:=Code.region 9 OG9 false
def oG10_0:Oper:=⟨some 31,Op.load 30 (Operand.tmp 7),30, "ref.go:198",#[],none⟩
def oG10_1:Oper:=⟨none,Op.store 30 (Operand.tmp 6) (Operand.tmp 31),0, "ref.go:198",#[ed_ 0,ep_ 0],none⟩
def OG10:Array Oper:=List.toArray (oG10_0::oG10_1::[])
theorem gG10_0:OG10[0]? = some oG10_0:=rfl
theorem gG10_1:OG10[1]? = some oG10_1:=rfl
def cG34:Code:=Code.region 10 OG10 false
def cG33:Code:=Code.seq cG34 Code.ret
def cG32:Code:=Code.cond (Operand.tmp 30) cG33 Code.skip
def cG30:Code:=Code.seq cG31 cG32
def cG28:Code:=Code.seq cG29 cG30
def oG11_0:Oper:=⟨some 32,Op.fieldAddr 30 (Operand.tmp 7) 0,0, "ref.go:201",#[],none⟩
def oG11_1:Oper:=⟨some 33,Op.load 2 (Operand.tmp 32),2, "ref.go:201",#[ed_ 0],none⟩
def oG11_2:Oper:=⟨some 34,Op.fieldAddr 30 (Operand.tmp 7) 0,0, "ref.go:201",#[],none⟩
def oG11_3:Oper:=⟨some 35,Op.load 2 (Operand.tmp 34),2, "ref.go:201",#[ed_ 2],none⟩
def oG11_4:Oper:=⟨some 36,Op.binOp Go.BinOp.and 2 (Operand.tmp 35) (Operand.const (Value.int IntKind.i64 1)) 2,2, "ref.go:201",#[ed_ 3],none⟩
def oG11_5:Oper:=⟨some 37,Op.binOp Go.BinOp.sub 2 (Operand.tmp 33) (Operand.tmp 36) 2,2, "ref.go:201",#[ed_ 1,ed_ 4],none⟩
def oG11_6:Oper:=⟨some 38,Op.binOp Go.BinOp.quo 2 (Operand.tmp 37) (Operand.const (Value.int IntKind.i64 2)) 2,2, "ref.go:201",#[ed_ 5],none⟩
def oG11_7:Oper:=⟨some 39,Op.call { callee:=Callee.value (Operand.func 31),args:=#[Operand.tmp 38],argTypes:=#[2] },30, "ref.go:201",#[ed_ 6],none⟩
def oG11_8:Oper:=⟨none,Op.store 30 (Operand.tmp 7) (Operand.tmp 39),0, "ref.go:201",#[ed_ 7,ec_ 7,ep_ 0,ep_ 1,ep_ 2,ep_ 3,ep_ 4,ep_ 5,ep_ 6,ep_ 7],none⟩
def OG11:Array Oper:=List.toArray (oG11_0::oG11_1::oG11_2::oG11_3::oG11_4::oG11_5::oG11_6::oG11_7::oG11_8::[])
theorem gG11_0:OG11[0]? = some oG11_0:=rfl
theorem gG11_1:OG11[1]? = some oG11_1:=rfl
theorem gG11_2:OG11[2]? = some oG11_2:=rfl
theorem gG11_3:OG11[3]? = some oG11_3:=rfl
theorem gG11_4:OG11[4]? = some oG11_4:=rfl
theorem gG11_5:OG11[5]? = some oG11_5:=rfl
theorem gG11_6:OG11[6]? = some oG11_6:=rfl
theorem gG11_7:OG11[7]? = some oG11_7:=rfl
theorem gG11_8:OG11[8]? = some oG11_8:=rfl
def cG37:Code:=Code.region 11 OG11 false
def cG27:Code:=Code.cond (Operand.tmp 24) cG28 cG37
def cG25:Code:=Code.seq cG26 cG27
def cG24:Code:=Code.block 1 cG25
def oG6_0:Oper:=⟨some 21,Op.move (Operand.tmp 8),2, "ref.go:194",#[],none⟩
def oG6_1:Oper:=⟨some 22,Op.binOp Go.BinOp.add 2 (Operand.tmp 21) (Operand.const (Value.int IntKind.i64 1)) 2,2, "ref.go:194",#[ed_ 0],none⟩
def oG6_2:Oper:=⟨some 8,Op.assign (Operand.tmp 22),2, "ref.go:194",#[ed_ 1,ep_ 0,ep_ 1],none⟩
def OG6:Array Oper:=List.toArray (oG6_0::oG6_1::oG6_2::[])
theorem gG6_0:OG6[0]? = some oG6_0:=rfl
theorem gG6_1:OG6[1]? = some oG6_1:=rfl
theorem gG6_2:OG6[2]? = some oG6_2:=rfl
def cG38:Code:=Code.region 6 OG6 false
def cG23:Code:=Code.seq cG24 cG38
def cG17:Code:=Code.seq cG18 cG23
def cG16:Code:=Code.loop cG17
def cG15:Code:=Code.block 0 cG16
def cG13:Code:=Code.seq cG14 cG15
def oG12_0:Oper:=⟨some 40,Op.load 30 (Operand.tmp 7),30, "ref.go:204",#[],none⟩
def oG12_1:Oper:=⟨none,Op.store 30 (Operand.tmp 6) (Operand.tmp 40),0, "ref.go:204",#[ed_ 0,ep_ 0],none⟩
def OG12:Array Oper:=List.toArray (oG12_0::oG12_1::[])
theorem gG12_0:OG12[0]? = some oG12_0:=rfl
theorem gG12_1:OG12[1]? = some oG12_1:=rfl
def cG40:Code:=Code.region 12 OG12 false
def cG39:Code:=Code.seq cG40 Code.ret
def cG12:Code:=Code.seq cG13 cG39
def cG10:Code:=Code.seq cG11 cG12
def cG2:Code:=Code.seq cG3 cG10
def cG0:Code:=Code.seq cG1 cG2
theorem enA47_31:Enters Try.prog 31:=enters_of Try.func31 (by kernel_rfl) rfl
theorem bodyA47:Try.f47.body=some cG0:=by kernel_rfl
set_option maxRecDepth 100000 in
set_option maxHeartbeats 4000000 in
theorem rshift_shl_w {W:World} {a b:Int} {f0:Act} {w0:World} (R:FrS 41 f0) (h0:f0.tmps[0]? = some (.string (str [60,60]))) (h1:f0.tmps[1]? = some (.int .i64 a)) (h2:f0.tmps[2]? = some (.int .i64 b)) (K1:Keep (fun g=>g < W.heap.size) W w0)  (HA:Hid (inR a)) (HB:Hid (inR b)):cG0.wp Try.prog (bodyPost Try.prog Try.f47 (fun e w'=>WA (resW (shlR a b)) W e w')) f0 w0:=by
 refine wp_seq (x:=cG1) (y:=cG2) ?_
 change (Code.region 0 OG0 false).wp _ _ _ _
 refine reg_in (l:=[0]) rfl ?_
 have F:=fe_ R;clear R
 have Y:(execOp f0.eval oG0_0).run Try.prog w0=.ok (.value (.pointer (some ⟨w0.heap.size,0,none⟩))) (w0.alloc (.cells #[.int .i64 0,.int .i64 0,.string (⟨#[]⟩),.int .i64 0,.slice none 0 0,.bool false] 30)):=by unfold oG0_0;go_simp
 have B1:=Blk.new w0 30 #[.int .i64 0,.int .i64 0,.string (⟨#[]⟩),.int .i64 0,.slice none 0 0,.bool false]
 obtain ⟨w2,hw⟩:∃ x,x=w0.alloc (.cells #[.int .i64 0,.int .i64 0,.string (⟨#[]⟩),.int .i64 0,.slice none 0 0,.bool false] 30):=⟨_,rfl⟩;rw [← hw] at Y B1
 obtain ⟨b1,hb⟩:∃ x,x=w0.heap.size:=⟨_,rfl⟩;rw [← hb] at Y B1
 have LK1_b1:=lk_ hb K1;replace K1:=ka_ hw K1;clear hw hb
 refine sw_ gG0_0 Y F fun a3 F h6=>?_;clear Y
 refine st_end ?_
 replace h0:=F.of h0;replace h1:=F.of h1;replace h2:=F.of h2;have R:=F.r;clear F
 change (cG2).wp _ _ _ _
 refine wp_seq (x:=cG3) (y:=cG10) ?_
 refine wp_seq (x:=cG4) (y:=cG5) ?_
 change (Code.region 1 OG1 false).wp _ _ _ _
 refine reg_in (l:=[0,1]) rfl ?_
 have F:=fe_ R;clear R
 refine sw_ gG1_0 (ym_ rfl (F.of h2)) F fun a4 F h9=>?_
 obtain ⟨b5,hb5⟩:∃ x,(decide ((b:Int) < (0:Int)))=x:=⟨_,rfl⟩
 have Y:(execOp a4.eval oG1_1).run Try.prog w2=.ok (.value (.bool b5)) w2:=by rw [← hb5];unfold oG1_1;go_simp
 refine sw_ gG1_1 Y F fun a6 F h10=>?_;clear Y h9
 refine st_end ?_
 replace h0:=F.of h0;replace h1:=F.of h1;replace h2:=F.of h2;replace h6:=F.of h6;have R:=F.r;clear F
 change (cG5).wp _ _ _ _
 cases b5 with
 | false =>
  have fb5:=hb5;clear hb5
  simp only [dd_] at fb5
  refine wp_cond_false (x:=cG6) (y:=Code.skip) (eval_slot h10) ?_
  refine wp_skip ?_
  change (cG10).wp _ _ _ _
  refine wp_seq (x:=cG11) (y:=cG12) ?_
  change (Code.region 3 OG3 false).wp _ _ _ _
  refine reg_in (l:=[0,1,2,3]) rfl ?_
  have F:=fe_ R;clear R
  refine sw_ gG3_0 (ym_ rfl (F.of h1)) F fun a7 F h12=>?_
  refine st_call gG3_1 rfl (wanted_free rfl) (yc1_ enA47_31 rfl h12) ((of_any _ (a)).mono ?_)
  rintro e9 w8 ⟨rfl,kk⟩
  replace K1:=keep_onto K1 kk
  replace B1:=blk_on B1 kk
  clear kk
  refine ⟨_,rfl,fun a9 e=>?_⟩
  clear h12;have h13:=pt_ F e;replace F:=pu_ F e;clear e
  have Y:(execOp a9.eval oG3_2).run Try.prog w8=.ok (.value (.pointer (some ⟨w8.heap.size,0,none⟩))) (w8.alloc (.cells #[.int .i64 0,.int .i64 0,.string (⟨#[]⟩),.int .i64 0,.slice none 0 0,.bool false] 30)):=by unfold oG3_2;go_simp
  have B10:=Blk.new w8 30 #[.int .i64 0,.int .i64 0,.string (⟨#[]⟩),.int .i64 0,.slice none 0 0,.bool false]
  obtain ⟨w11,hw⟩:∃ x,x=w8.alloc (.cells #[.int .i64 0,.int .i64 0,.string (⟨#[]⟩),.int .i64 0,.slice none 0 0,.bool false] 30):=⟨_,rfl⟩;rw [← hw] at Y B10
  obtain ⟨b10,hb⟩:∃ x,x=w8.heap.size:=⟨_,rfl⟩;rw [← hb] at Y B10
  have Nb1_b10:=nb_ hb B1;replace B1:=ba_ hw B1;have LK1_b10:=lk_ hb K1;replace K1:=ka_ hw K1;clear hw hb
  refine sv_ gG3_2 Y fun a12 e=>?_;clear Y
  have h7:=pt_ F e;replace F:=pu_ F e;replace h13:=so_ e h13;clear e
  obtain ⟨w13,Y,hk,hB⟩:=ys6_ (o:=oG3_3) rfl h7 h13 B10
  replace K1:=kx_ hk K1 (Nat.not_lt.2 LK1_b10);replace B1:=bx_ hk B1 Nb1_b10;clear B10;have B10:=hB;clear hB hk
  refine st_skip gG3_3 rfl (wanted_free rfl) Y ?_;clear Y
  refine st_end ?_
  replace h0:=F.of h0;clear h1;replace h2:=F.of h2;replace h6:=F.of h6;clear h10;clear h13;have R:=F.r;clear F
  change (cG12).wp _ _ _ _
  refine wp_seq (x:=cG13) (y:=cG39) ?_
  refine wp_seq (x:=cG14) (y:=cG15) ?_
  change (Code.region 4 OG4 false).wp _ _ _ _
  refine reg_in (l:=[0]) rfl ?_
  have F:=fe_ R;clear R
  have Y:(execOp a12.eval oG4_0).run Try.prog w13=.ok (.value (.int .i64 0)) w13:=by unfold oG4_0;go_simp
  refine sw_ gG4_0 Y F fun a14 F h8=>?_;clear Y
  refine st_end ?_
  replace h0:=F.of h0;replace h2:=F.of h2;replace h6:=F.of h6;replace h7:=F.of h7;have R:=F.r;clear F
  change (cG15).wp _ _ _ _
  refine wp_block (id:=0) (c:=cG16) ?_
  have hpz:a * 2 ^ 0=a:=by rw [Int.pow_zero];first | exact Int.mul_one a | exact Int.ediv_one a
  have BB0:Blk w13 b10 30 #[.int .i64 (a * 2 ^ 0),.int .i64 zeroT.k,.string (str zeroT.nm),.int .i64 zeroT.i,.slice none zeroT.args.length 0,.bool true]:=by rw [hpz];exact B10
  clear B10;have B10:=BB0;clear BB0
  have hin0:inR (a * 2 ^ 0):=by rw [hpz];exact HA.out
  refine wp_loop_ghost (c:=cG17) (fun n fX wX=>∃ j:Nat,∃ az:Option Addr,∃ cz:Nat,n=70 - j∧FrS 41 fX∧fX.tmps[0]? = some (.string (str [60,60]))∧fX.tmps[2]? = some (.int .i64 b)∧fX.tmps[6]? = some (.pointer (some ⟨b1,0,none⟩))∧fX.tmps[7]? = some (.pointer (some ⟨b10,0,none⟩))∧fX.tmps[8]? = some (.int .i64 (j:Int))∧Keep (fun g=>g < W.heap.size) W wX∧Blk wX b1 30 #[.int .i64 0,.int .i64 0,.string (⟨#[]⟩),.int .i64 0,.slice none 0 0,.bool false]∧Blk wX b10 30 #[.int .i64 (a * 2 ^ j),.int .i64 zeroT.k,.string (str zeroT.nm),.int .i64 zeroT.i,.slice az zeroT.args.length cz,.bool true]∧(j:Int) ≤ b∧j ≤ 70∧inR (a * 2 ^ j)) (70 - 0) ⟨0,none,0,rfl,R,h0,h2,h6,h7,h8,K1,B1,B10,(by omega),(by decide),hin0⟩ ?_
  clear R h0 h2 h6 h7 h8 K1 B1 B10
  rintro n17 a15 w16 ⟨j,az,cz,rfl,R,h0,h2,h6,h7,h8,K1,B1,B10,hj,hj7,hin⟩
  refine wp_seq (x:=cG18) (y:=cG23) ?_
  refine wp_seq (x:=cG19) (y:=cG20) ?_
  change (Code.region 5 OG5 false).wp _ _ _ _
  refine reg_in (l:=[0,1,2,3,4,5,6]) rfl ?_
  have F:=fe_ R;clear R
  refine sw_ gG5_0 (ym_ rfl (F.of h8)) F fun a18 F h14=>?_
  refine sv_ gG5_1 (ym_ rfl (F.of h2)) fun a19 e=>?_
  have h15:=pt_ F e;replace F:=pu_ F e;replace h14:=so_ e h14;clear e
  obtain ⟨b20,hb20⟩:∃ x,(decide ((j:Int) < (b:Int)))=x:=⟨_,rfl⟩
  have Y:(execOp a19.eval oG5_2).run Try.prog w16=.ok (.value (.bool b20)) w16:=by rw [← hb20];unfold oG5_2;go_simp
  refine sv_ gG5_2 Y fun a21 e=>?_;clear Y
  have h16:=pt_ F e;replace F:=pu_ F e;replace h14:=so_ e h14;replace h15:=so_ e h15;clear e
  refine sv_ gG5_3 (ym_ rfl h16) fun a22 e=>?_
  have h17:=pt_ F e;replace F:=pu_ F e;replace h14:=so_ e h14;replace h15:=so_ e h15;replace h16:=so_ e h16;clear e
  cases b20 with
  | false =>
   have fb20:=hb20;clear hb20
   simp only [dd_] at fb20
   refine st_not gG5_4 rfl (wanted_is (j:=3) (d:=17) rfl rfl h17 rfl) fun a23 e=>?_
   have h18:=pt_ F e;replace F:=pu_ F e;replace h14:=so_ e h14;replace h15:=so_ e h15;replace h16:=so_ e h16;replace h17:=so_ e h17;clear e
   refine st_not gG5_5 rfl (wanted_is (j:=3) (d:=17) rfl rfl h17 rfl) fun a24 e=>?_
   have h19:=pt_ F e;replace F:=pu_ F e;replace h14:=so_ e h14;replace h15:=so_ e h15;replace h16:=so_ e h16;replace h17:=so_ e h17;replace h18:=so_ e h18;clear e
   have Y:(execOp a24.eval oG5_6).run Try.prog w16=.ok (.value (.bool false)) w16:=by unfold oG5_6;go_simp
   refine sv_ gG5_6 Y fun a25 e=>?_;clear Y
   have h20:=pt_ F e;replace F:=pu_ F e;replace h14:=so_ e h14;replace h15:=so_ e h15;replace h16:=so_ e h16;replace h17:=so_ e h17;replace h18:=so_ e h18;replace h19:=so_ e h19;clear e
   refine st_end ?_
   replace h0:=F.of h0;replace h2:=F.of h2;replace h6:=F.of h6;replace h7:=F.of h7;replace h8:=F.of h8;have R:=F.r;clear F
   change (cG20).wp _ _ _ _
   refine wp_cond_false (x:=Code.skip) (y:=cG22) (eval_slot h20) ?_
   refine wp_exit ?_
   change (cG39).wp _ _ _ _
   refine wp_seq (x:=cG40) (y:=Code.ret) ?_
   change (Code.region 12 OG12 false).wp _ _ _ _
   refine reg_in (l:=[0,1]) rfl ?_
   have F:=fe_ R;clear R
   refine sv_ gG12_0 (yl6_ rfl (F.of h7) B10) fun a26 e=>?_
   have h40:=pt_ F e;replace F:=pu_ F e;clear e
   obtain ⟨w27,Y,hk,hB⟩:=ys6_ (o:=oG12_1) rfl (F.of h6) h40 B1
   replace K1:=kx_ hk K1 (Nat.not_lt.2 LK1_b1);replace B10:=bx_ hk B10 (Ne.symm Nb1_b10);clear B1;have B1:=hB;clear hB hk
   refine st_skip gG12_1 rfl (wanted_free rfl) Y ?_;clear Y
   refine st_end ?_
   replace h0:=F.of h0;replace h2:=F.of h2;replace h6:=F.of h6;replace h7:=F.of h7;replace h8:=F.of h8;replace h14:=F.of h14;replace h15:=F.of h15;replace h16:=F.of h16;replace h17:=F.of h17;replace h18:=F.of h18;replace h19:=F.of h19;replace h20:=F.of h20;clear h40;have R:=F.r;clear F
   change (Code.ret).wp _ _ _ _
   refine wp_ret ?_
   change bodyPost Try.prog Try.f47 (fun e w'=>WA (resW (shlR a b)) W e w') .ret a26 w27
   refine ret_cell6 (fn:=Try.f47) rfl R h6 B1 ?_
   exact (show WA (resW (shlR a b)) W _ _ by rw [shl_end hin hj (by omega),resW_n];exact ⟨az,cz,rfl,fun V _=>hzero _ _ _,K1⟩)
  | true =>
   have fb20:=hb20;clear hb20
   simp only [dd_] at fb20
   refine st_val gG5_4 rfl (wanted_is (j:=3) (d:=17) rfl rfl h17 rfl) (ym_ rfl (F.of h8)) fun a28 e=>?_
   have h18:=pt_ F e;replace F:=pu_ F e;replace h14:=so_ e h14;replace h15:=so_ e h15;replace h16:=so_ e h16;replace h17:=so_ e h17;clear e
   obtain ⟨b29,hb29⟩:∃ x,(decide ((j:Int) < (70:Int)))=x:=⟨_,rfl⟩
   have Y:(execOp a28.eval oG5_5).run Try.prog w16=.ok (.value (.bool b29)) w16:=by rw [← hb29];unfold oG5_5;go_simp
   refine st_val gG5_5 rfl (wanted_is (j:=3) (d:=17) rfl rfl h17 rfl) Y fun a30 e=>?_;clear Y
   have h19:=pt_ F e;replace F:=pu_ F e;replace h14:=so_ e h14;replace h15:=so_ e h15;replace h16:=so_ e h16;replace h17:=so_ e h17;replace h18:=so_ e h18;clear e
   have Y:(execOp a30.eval oG5_6).run Try.prog w16=.ok (.value (.bool b29)) w16:=by unfold oG5_6;go_simp
   refine sv_ gG5_6 Y fun a31 e=>?_;clear Y
   have h20:=pt_ F e;replace F:=pu_ F e;replace h14:=so_ e h14;replace h15:=so_ e h15;replace h16:=so_ e h16;replace h17:=so_ e h17;replace h18:=so_ e h18;replace h19:=so_ e h19;clear e
   refine st_end ?_
   replace h0:=F.of h0;replace h2:=F.of h2;replace h6:=F.of h6;replace h7:=F.of h7;replace h8:=F.of h8;have R:=F.r;clear F
   change (cG20).wp _ _ _ _
   cases b29 with
   | false =>
    have fb29:=hb29;clear hb29
    simp only [dd_] at fb29
    refine wp_cond_false (x:=Code.skip) (y:=cG22) (eval_slot h20) ?_
    refine wp_exit ?_
    change (cG39).wp _ _ _ _
    refine wp_seq (x:=cG40) (y:=Code.ret) ?_
    change (Code.region 12 OG12 false).wp _ _ _ _
    refine reg_in (l:=[0,1]) rfl ?_
    have F:=fe_ R;clear R
    refine sv_ gG12_0 (yl6_ rfl (F.of h7) B10) fun a32 e=>?_
    have h40:=pt_ F e;replace F:=pu_ F e;clear e
    obtain ⟨w33,Y,hk,hB⟩:=ys6_ (o:=oG12_1) rfl (F.of h6) h40 B1
    replace K1:=kx_ hk K1 (Nat.not_lt.2 LK1_b1);replace B10:=bx_ hk B10 (Ne.symm Nb1_b10);clear B1;have B1:=hB;clear hB hk
    refine st_skip gG12_1 rfl (wanted_free rfl) Y ?_;clear Y
    refine st_end ?_
    replace h0:=F.of h0;replace h2:=F.of h2;replace h6:=F.of h6;replace h7:=F.of h7;replace h8:=F.of h8;replace h14:=F.of h14;replace h15:=F.of h15;replace h16:=F.of h16;replace h17:=F.of h17;replace h18:=F.of h18;replace h19:=F.of h19;replace h20:=F.of h20;clear h40;have R:=F.r;clear F
    change (Code.ret).wp _ _ _ _
    refine wp_ret ?_
    change bodyPost Try.prog Try.f47 (fun e w'=>WA (resW (shlR a b)) W e w') .ret a32 w33
    refine ret_cell6 (fn:=Try.f47) rfl R h6 B1 ?_
    exact (show WA (resW (shlR a b)) W _ _ by rw [shl_end hin hj (by omega),resW_n];exact ⟨az,cz,rfl,fun V _=>hzero _ _ _,K1⟩)
   | true =>
    have fb29:=hb29;clear hb29
    simp only [dd_] at fb29
    refine wp_cond_true (x:=Code.skip) (y:=cG22) (eval_slot h20) ?_
    refine wp_skip ?_
    change (cG23).wp _ _ _ _
    refine wp_seq (x:=cG24) (y:=cG38) ?_
    refine wp_block (id:=1) (c:=cG25) ?_
    refine wp_seq (x:=cG26) (y:=cG27) ?_
    change (Code.region 7 OG7 false).wp _ _ _ _
    refine reg_in (l:=[0,1]) rfl ?_
    have F:=fe_ R;clear R
    refine sw_ gG7_0 (ym_ rfl (F.of h0)) F fun a34 F h23=>?_
    have Y:(execOp a34.eval oG7_1).run Try.prog w16=.ok (.value (.bool true)) w16:=by have h8:((str [60,60]).toList == [60,60])=true:=(by rw [str_eq];exact decide_eq_true rfl);unfold oG7_1;go_simp
    refine sv_ gG7_1 Y fun a35 e=>?_;clear Y
    have h24:=pt_ F e;replace F:=pu_ F e;replace h23:=so_ e h23;clear e
    refine st_end ?_
    replace h0:=F.of h0;replace h2:=F.of h2;replace h6:=F.of h6;replace h7:=F.of h7;replace h8:=F.of h8;replace h14:=F.of h14;replace h15:=F.of h15;replace h16:=F.of h16;replace h17:=F.of h17;replace h18:=F.of h18;replace h19:=F.of h19;replace h20:=F.of h20;have R:=F.r;clear F
    change (cG27).wp _ _ _ _
    refine wp_cond_true (x:=cG28) (y:=cG37) (eval_slot h24) ?_
    refine wp_seq (x:=cG29) (y:=cG30) ?_
    change (Code.region 8 OG8 false).wp _ _ _ _
    refine reg_in (l:=[0,1,2,3]) rfl ?_
    have F:=fe_ R;clear R
    have Y:(execOp a35.eval oG8_0).run Try.prog w16=.ok (.value (.pointer (some ⟨b10,0,none⟩))) w16:=by have r7:=F.of h7;unfold oG8_0;go_simp
    refine sw_ gG8_0 Y F fun a36 F h25=>?_;clear Y
    have Y:(execOp a36.eval oG8_1).run Try.prog w16=.ok (.value (.int .i64 (a * 2 ^ j))) w16:=by have qq0:w16.cell? ⟨b10,0,none⟩=some (.int .i64 (a * 2 ^ j)):=B10.cell 0;have qq1:w16.cell? ⟨b10,1,none⟩=some (.int .i64 zeroT.k):=B10.cell 1;have qq2:w16.cell? ⟨b10,2,none⟩=some (.string (str zeroT.nm)):=B10.cell 2;have qq3:w16.cell? ⟨b10,3,none⟩=some (.int .i64 zeroT.i):=B10.cell 3;have qq4:w16.cell? ⟨b10,4,none⟩=some (.slice az zeroT.args.length cz):=B10.cell 4;have qq5:w16.cell? ⟨b10,5,none⟩=some (.bool true):=B10.cell 5;unfold oG8_1;go_simp
    refine sv_ gG8_1 Y fun a37 e=>?_;clear Y
    have h26:=pt_ F e;replace F:=pu_ F e;replace h25:=so_ e h25;clear e
    have Y:(execOp a37.eval oG8_2).run Try.prog w16=.ok (.enter 45 #[.int .i64 (a * 2 ^ j),.int .i64 2]) w16:=by unfold oG8_2;go_simp
    have hca:=rmul_any w16 (a:=a * 2 ^ j) (b:=2) hin (by decide)
    rw [mul_two] at hca;obtain ⟨kz,hkz⟩:∃ q,(resW (big (a * 2 ^ (j + 1)))).k=q:=⟨_,rfl⟩
    unfold WA wv at hca;rw [hkz] at hca;have HKZ:=Lib.hid hkz;clear hkz
    have UKX_b1:=B1.lt
    have UKX_b10:=B10.lt
    have HWKX:W.heap.size ≤ w16.heap.size:=K1.size
    refine st_call gG8_2 rfl (wanted_free rfl) Y ((hca).mono ?_);clear Y
    rintro e9 w38 ⟨ax,cx,rfl,hx,kk⟩
    replace K1:=keep_onto K1 kk
    replace B1:=blk_on B1 kk
    replace B10:=blk_on B10 kk
    clear kk
    clear hca
    have HX:=Lib.hid hx;clear hx
    have KX:=Keep.refl (fun g=>w16.heap.size ≤ g∧g < w38.heap.size) w38
    refine ⟨_,rfl,fun a39 e=>?_⟩
    have h27:=pt_ F e;replace F:=pu_ F e;replace h25:=so_ e h25;replace h26:=so_ e h26;clear e
    obtain ⟨w40,Y,hk,hB⟩:=ys6_ (o:=oG8_3) rfl (F.of h7) h27 B10
    replace K1:=kx_ hk K1 (Nat.not_lt.2 LK1_b10);replace KX:=kx_ hk KX (fun hx=>absurd hx.1 (Nat.not_le.2 UKX_b10));replace B1:=bx_ hk B1 Nb1_b10;clear B10;have B10:=hB;clear hB hk
    refine st_skip gG8_3 rfl (wanted_free rfl) Y ?_;clear Y
    refine st_end ?_
    replace h0:=F.of h0;replace h2:=F.of h2;replace h6:=F.of h6;replace h7:=F.of h7;replace h8:=F.of h8;replace h14:=F.of h14;replace h15:=F.of h15;replace h16:=F.of h16;replace h17:=F.of h17;replace h18:=F.of h18;replace h19:=F.of h19;replace h20:=F.of h20;replace h23:=F.of h23;replace h24:=F.of h24;have R:=F.r;clear F
    change (cG30).wp _ _ _ _
    refine wp_seq (x:=cG31) (y:=cG32) ?_
    change (Code.region 9 OG9 false).wp _ _ _ _
    refine reg_in (l:=[0,1,2]) rfl ?_
    have F:=fe_ R;clear R
    have Y:(execOp a39.eval oG9_0).run Try.prog w40=.ok (.value (.pointer (some ⟨b10,5,none⟩))) w40:=by have r7:=F.of h7;unfold oG9_0;go_simp
    refine sw_ gG9_0 Y F fun a41 F h28=>?_;clear Y
    have Y:(execOp a41.eval oG9_1).run Try.prog w40=.ok (.value (.bool kz)) w40:=by have qq0:w40.cell? ⟨b10,0,none⟩=some (.int .i64 ((resW (big (a * 2 ^ (j + 1)))).v)):=B10.cell 0;have qq1:w40.cell? ⟨b10,1,none⟩=some (.int .i64 ((resW (big (a * 2 ^ (j + 1)))).b.k)):=B10.cell 1;have qq2:w40.cell? ⟨b10,2,none⟩=some (.string (str (resW (big (a * 2 ^ (j + 1)))).b.nm)):=B10.cell 2;have qq3:w40.cell? ⟨b10,3,none⟩=some (.int .i64 ((resW (big (a * 2 ^ (j + 1)))).b.i)):=B10.cell 3;have qq4:w40.cell? ⟨b10,4,none⟩=some (.slice ax (resW (big (a * 2 ^ (j + 1)))).b.args.length cx):=B10.cell 4;have qq5:w40.cell? ⟨b10,5,none⟩=some (.bool kz):=B10.cell 5;unfold oG9_1;go_simp
    refine sv_ gG9_1 Y fun a42 e=>?_;clear Y
    have h29:=pt_ F e;replace F:=pu_ F e;replace h28:=so_ e h28;clear e
    cases kz with
    | false =>
     have Y:(execOp a42.eval oG9_2).run Try.prog w40=.ok (.value (.bool true)) w40:=by unfold oG9_2;go_simp
     refine sv_ gG9_2 Y fun a43 e=>?_;clear Y
     have h30:=pt_ F e;replace F:=pu_ F e;replace h28:=so_ e h28;replace h29:=so_ e h29;clear e
     refine st_end ?_
     replace h0:=F.of h0;replace h2:=F.of h2;replace h6:=F.of h6;replace h7:=F.of h7;replace h8:=F.of h8;replace h14:=F.of h14;replace h15:=F.of h15;replace h16:=F.of h16;replace h17:=F.of h17;replace h18:=F.of h18;replace h19:=F.of h19;replace h20:=F.of h20;replace h23:=F.of h23;replace h24:=F.of h24;replace h25:=F.of h25;replace h26:=F.of h26;replace h27:=F.of h27;have R:=F.r;clear F
     change (cG32).wp _ _ _ _
     refine wp_cond_true (x:=cG33) (y:=Code.skip) (eval_slot h30) ?_
     refine wp_seq (x:=cG34) (y:=Code.ret) ?_
     change (Code.region 10 OG10 false).wp _ _ _ _
     refine reg_in (l:=[0,1]) rfl ?_
     have F:=fe_ R;clear R
     refine sv_ gG10_0 (yl6_ rfl (F.of h7) B10) fun a44 e=>?_
     have h31:=pt_ F e;replace F:=pu_ F e;clear e
     obtain ⟨w45,Y,hk,hB⟩:=ys6_ (o:=oG10_1) rfl (F.of h6) h31 B1
     replace K1:=kx_ hk K1 (Nat.not_lt.2 LK1_b1);replace KX:=kx_ hk KX (fun hx=>absurd hx.1 (Nat.not_le.2 UKX_b1));replace B10:=bx_ hk B10 (Ne.symm Nb1_b10);clear B1;have B1:=hB;clear hB hk
     refine st_skip gG10_1 rfl (wanted_free rfl) Y ?_;clear Y
     refine st_end ?_
     replace h0:=F.of h0;replace h2:=F.of h2;replace h6:=F.of h6;replace h7:=F.of h7;replace h8:=F.of h8;replace h14:=F.of h14;replace h15:=F.of h15;replace h16:=F.of h16;replace h17:=F.of h17;replace h18:=F.of h18;replace h19:=F.of h19;replace h20:=F.of h20;replace h23:=F.of h23;replace h24:=F.of h24;replace h25:=F.of h25;replace h26:=F.of h26;replace h27:=F.of h27;replace h28:=F.of h28;replace h29:=F.of h29;replace h30:=F.of h30;have R:=F.r;clear F
     change (Code.ret).wp _ _ _ _
     refine wp_ret ?_
     change bodyPost Try.prog Try.f47 (fun e w'=>WA (resW (shlR a b)) W e w') .ret a44 w45
     refine ret_cell6 (fn:=Try.f47) rfl R h6 B1 ?_
     exact (show WA (resW (shlR a b)) W _ _ by rw [show resW (shlR a b)=resW (big (a * 2 ^ (j + 1))) by rw [shl_fail (res_no HKZ.out) (by assumption),big_not (res_no HKZ.out)]];exact ⟨ax,cx,by unfold wv;rw [HKZ.out],(HX.out.on KX).up HWKX,K1⟩)
    | true =>
     have Y:(execOp a42.eval oG9_2).run Try.prog w40=.ok (.value (.bool false)) w40:=by unfold oG9_2;go_simp
     refine sv_ gG9_2 Y fun a46 e=>?_;clear Y
     have h30:=pt_ F e;replace F:=pu_ F e;replace h28:=so_ e h28;replace h29:=so_ e h29;clear e
     refine st_end ?_
     replace h0:=F.of h0;replace h2:=F.of h2;replace h6:=F.of h6;replace h7:=F.of h7;replace h8:=F.of h8;replace h14:=F.of h14;replace h15:=F.of h15;replace h16:=F.of h16;replace h17:=F.of h17;replace h18:=F.of h18;replace h19:=F.of h19;replace h20:=F.of h20;replace h23:=F.of h23;replace h24:=F.of h24;replace h25:=F.of h25;replace h26:=F.of h26;replace h27:=F.of h27;have R:=F.r;clear F
     change (cG32).wp _ _ _ _
     refine wp_cond_false (x:=cG33) (y:=Code.skip) (eval_slot h30) ?_
     refine wp_skip ?_
     change (cG38).wp _ _ _ _
     change (Code.region 6 OG6 false).wp _ _ _ _
     refine reg_in (l:=[0,1,2]) rfl ?_
     have F:=fe_ R;clear R
     refine sw_ gG6_0 (ym_ rfl (F.of h8)) F fun a47 F h21=>?_
     have Y:(execOp a47.eval oG6_1).run Try.prog w40=.ok (.value (.int .i64 ((j:Int) + 1))) w40:=by have hwj:IntKind.i64.wrap ((j:Int) + 1)=(j:Int) + 1:=(by rw [IntKind.wrap_i64];omega);unfold oG6_1;go_simp
     refine sv_ gG6_1 Y fun a48 e=>?_;clear Y
     have h22:=pt_ F e;replace F:=pu_ F e;replace h21:=so_ e h21;clear e
     refine sv_ gG6_2 (ya_ rfl h22) fun a49 e=>?_
     clear h8;have h8:=pt_ F e;replace F:=pu_ F e;replace h21:=so_ e h21;replace h22:=so_ e h22;clear e
     refine st_end ?_
     replace h0:=F.of h0;replace h2:=F.of h2;replace h6:=F.of h6;replace h7:=F.of h7;replace h14:=F.of h14;replace h15:=F.of h15;replace h16:=F.of h16;replace h17:=F.of h17;replace h18:=F.of h18;replace h19:=F.of h19;replace h20:=F.of h20;replace h23:=F.of h23;replace h24:=F.of h24;replace h25:=F.of h25;replace h26:=F.of h26;replace h27:=F.of h27;replace h28:=F.of h28;replace h29:=F.of h29;replace h30:=F.of h30;have R:=F.r;clear F
     obtain ⟨hz9,hrw⟩:=res_k HKZ.out
     rw [hrw] at B10
     exact ⟨_,(by omega),j + 1,ax,cx,rfl,R,h0,h2,h6,h7,h8,K1,B1,B10,(by omega),(by omega),hz9⟩
 | true =>
  have fb5:=hb5;clear hb5
  simp only [dd_] at fb5
  refine wp_cond_true (x:=cG6) (y:=Code.skip) (eval_slot h10) ?_
  refine wp_seq (x:=cG7) (y:=Code.ret) ?_
  change (Code.region 2 OG2 false).wp _ _ _ _
  refine reg_in (l:=[0,1]) rfl ?_
  have F:=fe_ R;clear R
  have Y:(execOp a6.eval oG2_0).run Try.prog w2=.ok (.enter 59 #[.string (⟨#[117,110,100,101,102,105,110,101,100]⟩)]) w2:=by unfold oG2_0;go_simp
  have hca:=fails_any (W:=w2) (s:=fUndef) (by decide)
  have UKX_b1:=B1.lt
  have HWKX:W.heap.size ≤ w2.heap.size:=K1.size
  refine st_call gG2_0 rfl (wanted_free rfl) Y ((hca).mono ?_);clear Y
  rintro e9 w50 ⟨ax,cx,rfl,hx,kk⟩
  replace K1:=keep_onto K1 kk
  replace B1:=blk_on B1 kk
  clear kk
  clear hca
  have HX:=Lib.hid hx;clear hx
  have KX:=Keep.refl (fun g=>w2.heap.size ≤ g∧g < w50.heap.size) w50
  refine ⟨_,rfl,fun a51 e=>?_⟩
  have h11:=pt_ F e;replace F:=pu_ F e;clear e
  obtain ⟨w52,Y,hk,hB⟩:=ys6_ (o:=oG2_1) rfl (F.of h6) h11 B1
  replace K1:=kx_ hk K1 (Nat.not_lt.2 LK1_b1);replace KX:=kx_ hk KX (fun hx=>absurd hx.1 (Nat.not_le.2 UKX_b1));clear B1;have B1:=hB;clear hB hk
  refine st_skip gG2_1 rfl (wanted_free rfl) Y ?_;clear Y
  refine st_end ?_
  replace h0:=F.of h0;replace h1:=F.of h1;replace h2:=F.of h2;replace h6:=F.of h6;clear h10;clear h11;have R:=F.r;clear F
  change (Code.ret).wp _ _ _ _
  refine wp_ret ?_
  change bodyPost Try.prog Try.f47 (fun e w'=>WA (resW (shlR a b)) W e w') .ret a51 w52
  refine ret_cell6 (fn:=Try.f47) rfl R h6 B1 ?_
  exact (show WA (resW (shlR a b)) W _ _ by rw [shl_no (by assumption),resW_u];exact ⟨ax,cx,rfl,(HX.out.on KX).up HWKX,K1⟩)
theorem rshift_shl_any (W:World) {a b:Int} (ha:inR a) (hb:inR b):Calls Try.prog 47 #[.string (str [60,60]),.int .i64 a,.int .i64 b] W fun e w'=>WA (resW (shlR a b)) W e w':=by
  refine enter_sx Try.func47 bodyA47 rfl (by show (3:Nat) ≤ 41;decide) fun f0 R hs=>?_
  exact rshift_shl_w R (hs 0 _ rfl) (hs 1 _ rfl) (hs 2 _ rfl) (Keep.refl _ W) (Lib.hid ha) (Lib.hid hb)
set_option maxRecDepth 100000 in
set_option maxHeartbeats 4000000 in
theorem rshift_shr_w {W:World} {a b:Int} {f0:Act} {w0:World} (R:FrS 41 f0) (h0:f0.tmps[0]? = some (.string (str [62,62]))) (h1:f0.tmps[1]? = some (.int .i64 a)) (h2:f0.tmps[2]? = some (.int .i64 b)) (K1:Keep (fun g=>g < W.heap.size) W w0)  (HA:Hid (inR a)) (HB:Hid (inR b)):cG0.wp Try.prog (bodyPost Try.prog Try.f47 (fun e w'=>WA (resW (shrR a b)) W e w')) f0 w0:=by
 refine wp_seq (x:=cG1) (y:=cG2) ?_
 change (Code.region 0 OG0 false).wp _ _ _ _
 refine reg_in (l:=[0]) rfl ?_
 have F:=fe_ R;clear R
 have Y:(execOp f0.eval oG0_0).run Try.prog w0=.ok (.value (.pointer (some ⟨w0.heap.size,0,none⟩))) (w0.alloc (.cells #[.int .i64 0,.int .i64 0,.string (⟨#[]⟩),.int .i64 0,.slice none 0 0,.bool false] 30)):=by unfold oG0_0;go_simp
 have B53:=Blk.new w0 30 #[.int .i64 0,.int .i64 0,.string (⟨#[]⟩),.int .i64 0,.slice none 0 0,.bool false]
 obtain ⟨w54,hw⟩:∃ x,x=w0.alloc (.cells #[.int .i64 0,.int .i64 0,.string (⟨#[]⟩),.int .i64 0,.slice none 0 0,.bool false] 30):=⟨_,rfl⟩;rw [← hw] at Y B53
 obtain ⟨b53,hb⟩:∃ x,x=w0.heap.size:=⟨_,rfl⟩;rw [← hb] at Y B53
 have LK1_b53:=lk_ hb K1;replace K1:=ka_ hw K1;clear hw hb
 refine sw_ gG0_0 Y F fun a55 F h6=>?_;clear Y
 refine st_end ?_
 replace h0:=F.of h0;replace h1:=F.of h1;replace h2:=F.of h2;have R:=F.r;clear F
 change (cG2).wp _ _ _ _
 refine wp_seq (x:=cG3) (y:=cG10) ?_
 refine wp_seq (x:=cG4) (y:=cG5) ?_
 change (Code.region 1 OG1 false).wp _ _ _ _
 refine reg_in (l:=[0,1]) rfl ?_
 have F:=fe_ R;clear R
 refine sw_ gG1_0 (ym_ rfl (F.of h2)) F fun a56 F h9=>?_
 obtain ⟨b57,hb57⟩:∃ x,(decide ((b:Int) < (0:Int)))=x:=⟨_,rfl⟩
 have Y:(execOp a56.eval oG1_1).run Try.prog w54=.ok (.value (.bool b57)) w54:=by rw [← hb57];unfold oG1_1;go_simp
 refine sw_ gG1_1 Y F fun a58 F h10=>?_;clear Y h9
 refine st_end ?_
 replace h0:=F.of h0;replace h1:=F.of h1;replace h2:=F.of h2;replace h6:=F.of h6;have R:=F.r;clear F
 change (cG5).wp _ _ _ _
 cases b57 with
 | false =>
  have fb57:=hb57;clear hb57
  simp only [dd_] at fb57
  refine wp_cond_false (x:=cG6) (y:=Code.skip) (eval_slot h10) ?_
  refine wp_skip ?_
  change (cG10).wp _ _ _ _
  refine wp_seq (x:=cG11) (y:=cG12) ?_
  change (Code.region 3 OG3 false).wp _ _ _ _
  refine reg_in (l:=[0,1,2,3]) rfl ?_
  have F:=fe_ R;clear R
  refine sw_ gG3_0 (ym_ rfl (F.of h1)) F fun a59 F h12=>?_
  refine st_call gG3_1 rfl (wanted_free rfl) (yc1_ enA47_31 rfl h12) ((of_any _ (a)).mono ?_)
  rintro e9 w60 ⟨rfl,kk⟩
  replace K1:=keep_onto K1 kk
  replace B53:=blk_on B53 kk
  clear kk
  refine ⟨_,rfl,fun a61 e=>?_⟩
  clear h12;have h13:=pt_ F e;replace F:=pu_ F e;clear e
  have Y:(execOp a61.eval oG3_2).run Try.prog w60=.ok (.value (.pointer (some ⟨w60.heap.size,0,none⟩))) (w60.alloc (.cells #[.int .i64 0,.int .i64 0,.string (⟨#[]⟩),.int .i64 0,.slice none 0 0,.bool false] 30)):=by unfold oG3_2;go_simp
  have B62:=Blk.new w60 30 #[.int .i64 0,.int .i64 0,.string (⟨#[]⟩),.int .i64 0,.slice none 0 0,.bool false]
  obtain ⟨w63,hw⟩:∃ x,x=w60.alloc (.cells #[.int .i64 0,.int .i64 0,.string (⟨#[]⟩),.int .i64 0,.slice none 0 0,.bool false] 30):=⟨_,rfl⟩;rw [← hw] at Y B62
  obtain ⟨b62,hb⟩:∃ x,x=w60.heap.size:=⟨_,rfl⟩;rw [← hb] at Y B62
  have Nb53_b62:=nb_ hb B53;replace B53:=ba_ hw B53;have LK1_b62:=lk_ hb K1;replace K1:=ka_ hw K1;clear hw hb
  refine sv_ gG3_2 Y fun a64 e=>?_;clear Y
  have h7:=pt_ F e;replace F:=pu_ F e;replace h13:=so_ e h13;clear e
  obtain ⟨w65,Y,hk,hB⟩:=ys6_ (o:=oG3_3) rfl h7 h13 B62
  replace K1:=kx_ hk K1 (Nat.not_lt.2 LK1_b62);replace B53:=bx_ hk B53 Nb53_b62;clear B62;have B62:=hB;clear hB hk
  refine st_skip gG3_3 rfl (wanted_free rfl) Y ?_;clear Y
  refine st_end ?_
  replace h0:=F.of h0;clear h1;replace h2:=F.of h2;replace h6:=F.of h6;clear h10;clear h13;have R:=F.r;clear F
  change (cG12).wp _ _ _ _
  refine wp_seq (x:=cG13) (y:=cG39) ?_
  refine wp_seq (x:=cG14) (y:=cG15) ?_
  change (Code.region 4 OG4 false).wp _ _ _ _
  refine reg_in (l:=[0]) rfl ?_
  have F:=fe_ R;clear R
  have Y:(execOp a64.eval oG4_0).run Try.prog w65=.ok (.value (.int .i64 0)) w65:=by unfold oG4_0;go_simp
  refine sw_ gG4_0 Y F fun a66 F h8=>?_;clear Y
  refine st_end ?_
  replace h0:=F.of h0;replace h2:=F.of h2;replace h6:=F.of h6;replace h7:=F.of h7;have R:=F.r;clear F
  change (cG15).wp _ _ _ _
  refine wp_block (id:=0) (c:=cG16) ?_
  have hpz:a / 2 ^ 0=a:=by rw [Int.pow_zero];first | exact Int.mul_one a | exact Int.ediv_one a
  have BB0:Blk w65 b62 30 #[.int .i64 (a / 2 ^ 0),.int .i64 zeroT.k,.string (str zeroT.nm),.int .i64 zeroT.i,.slice none zeroT.args.length 0,.bool true]:=by rw [hpz];exact B62
  clear B62;have B62:=BB0;clear BB0
  have hin0:inR (a / 2 ^ 0):=by rw [hpz];exact HA.out
  refine wp_loop_ghost (c:=cG17) (fun n fX wX=>∃ j:Nat,n=70 - j∧FrS 41 fX∧fX.tmps[0]? = some (.string (str [62,62]))∧fX.tmps[2]? = some (.int .i64 b)∧fX.tmps[6]? = some (.pointer (some ⟨b53,0,none⟩))∧fX.tmps[7]? = some (.pointer (some ⟨b62,0,none⟩))∧fX.tmps[8]? = some (.int .i64 (j:Int))∧Keep (fun g=>g < W.heap.size) W wX∧Blk wX b53 30 #[.int .i64 0,.int .i64 0,.string (⟨#[]⟩),.int .i64 0,.slice none 0 0,.bool false]∧Blk wX b62 30 #[.int .i64 (a / 2 ^ j),.int .i64 zeroT.k,.string (str zeroT.nm),.int .i64 zeroT.i,.slice none zeroT.args.length 0,.bool true]∧(j:Int) ≤ b∧j ≤ 70) (70 - 0) ⟨0,rfl,R,h0,h2,h6,h7,h8,K1,B53,B62,(by omega),(by decide)⟩ ?_
  clear R h0 h2 h6 h7 h8 K1 B53 B62
  rintro n69 a67 w68 ⟨j,rfl,R,h0,h2,h6,h7,h8,K1,B53,B62,hj,hj7⟩
  have hstep:=shr_step HA.out j
  refine wp_seq (x:=cG18) (y:=cG23) ?_
  refine wp_seq (x:=cG19) (y:=cG20) ?_
  change (Code.region 5 OG5 false).wp _ _ _ _
  refine reg_in (l:=[0,1,2,3,4,5,6]) rfl ?_
  have F:=fe_ R;clear R
  refine sw_ gG5_0 (ym_ rfl (F.of h8)) F fun a70 F h14=>?_
  refine sv_ gG5_1 (ym_ rfl (F.of h2)) fun a71 e=>?_
  have h15:=pt_ F e;replace F:=pu_ F e;replace h14:=so_ e h14;clear e
  obtain ⟨b72,hb72⟩:∃ x,(decide ((j:Int) < (b:Int)))=x:=⟨_,rfl⟩
  have Y:(execOp a71.eval oG5_2).run Try.prog w68=.ok (.value (.bool b72)) w68:=by rw [← hb72];unfold oG5_2;go_simp
  refine sv_ gG5_2 Y fun a73 e=>?_;clear Y
  have h16:=pt_ F e;replace F:=pu_ F e;replace h14:=so_ e h14;replace h15:=so_ e h15;clear e
  refine sv_ gG5_3 (ym_ rfl h16) fun a74 e=>?_
  have h17:=pt_ F e;replace F:=pu_ F e;replace h14:=so_ e h14;replace h15:=so_ e h15;replace h16:=so_ e h16;clear e
  cases b72 with
  | false =>
   have fb72:=hb72;clear hb72
   simp only [dd_] at fb72
   refine st_not gG5_4 rfl (wanted_is (j:=3) (d:=17) rfl rfl h17 rfl) fun a75 e=>?_
   have h18:=pt_ F e;replace F:=pu_ F e;replace h14:=so_ e h14;replace h15:=so_ e h15;replace h16:=so_ e h16;replace h17:=so_ e h17;clear e
   refine st_not gG5_5 rfl (wanted_is (j:=3) (d:=17) rfl rfl h17 rfl) fun a76 e=>?_
   have h19:=pt_ F e;replace F:=pu_ F e;replace h14:=so_ e h14;replace h15:=so_ e h15;replace h16:=so_ e h16;replace h17:=so_ e h17;replace h18:=so_ e h18;clear e
   have Y:(execOp a76.eval oG5_6).run Try.prog w68=.ok (.value (.bool false)) w68:=by unfold oG5_6;go_simp
   refine sv_ gG5_6 Y fun a77 e=>?_;clear Y
   have h20:=pt_ F e;replace F:=pu_ F e;replace h14:=so_ e h14;replace h15:=so_ e h15;replace h16:=so_ e h16;replace h17:=so_ e h17;replace h18:=so_ e h18;replace h19:=so_ e h19;clear e
   refine st_end ?_
   replace h0:=F.of h0;replace h2:=F.of h2;replace h6:=F.of h6;replace h7:=F.of h7;replace h8:=F.of h8;have R:=F.r;clear F
   change (cG20).wp _ _ _ _
   refine wp_cond_false (x:=Code.skip) (y:=cG22) (eval_slot h20) ?_
   refine wp_exit ?_
   change (cG39).wp _ _ _ _
   refine wp_seq (x:=cG40) (y:=Code.ret) ?_
   change (Code.region 12 OG12 false).wp _ _ _ _
   refine reg_in (l:=[0,1]) rfl ?_
   have F:=fe_ R;clear R
   refine sv_ gG12_0 (yl6_ rfl (F.of h7) B62) fun a78 e=>?_
   have h40:=pt_ F e;replace F:=pu_ F e;clear e
   obtain ⟨w79,Y,hk,hB⟩:=ys6_ (o:=oG12_1) rfl (F.of h6) h40 B53
   replace K1:=kx_ hk K1 (Nat.not_lt.2 LK1_b53);replace B62:=bx_ hk B62 (Ne.symm Nb53_b62);clear B53;have B53:=hB;clear hB hk
   refine st_skip gG12_1 rfl (wanted_free rfl) Y ?_;clear Y
   refine st_end ?_
   replace h0:=F.of h0;replace h2:=F.of h2;replace h6:=F.of h6;replace h7:=F.of h7;replace h8:=F.of h8;replace h14:=F.of h14;replace h15:=F.of h15;replace h16:=F.of h16;replace h17:=F.of h17;replace h18:=F.of h18;replace h19:=F.of h19;replace h20:=F.of h20;clear h40;have R:=F.r;clear F
   change (Code.ret).wp _ _ _ _
   refine wp_ret ?_
   change bodyPost Try.prog Try.f47 (fun e w'=>WA (resW (shrR a b)) W e w') .ret a78 w79
   refine ret_cell6 (fn:=Try.f47) rfl R h6 B53 ?_
   exact (show WA (resW (shrR a b)) W _ _ by rw [shr_end HA.out hj (by omega),resW_n];exact ⟨none,0,rfl,own_zero,K1⟩)
  | true =>
   have fb72:=hb72;clear hb72
   simp only [dd_] at fb72
   refine st_val gG5_4 rfl (wanted_is (j:=3) (d:=17) rfl rfl h17 rfl) (ym_ rfl (F.of h8)) fun a80 e=>?_
   have h18:=pt_ F e;replace F:=pu_ F e;replace h14:=so_ e h14;replace h15:=so_ e h15;replace h16:=so_ e h16;replace h17:=so_ e h17;clear e
   obtain ⟨b81,hb81⟩:∃ x,(decide ((j:Int) < (70:Int)))=x:=⟨_,rfl⟩
   have Y:(execOp a80.eval oG5_5).run Try.prog w68=.ok (.value (.bool b81)) w68:=by rw [← hb81];unfold oG5_5;go_simp
   refine st_val gG5_5 rfl (wanted_is (j:=3) (d:=17) rfl rfl h17 rfl) Y fun a82 e=>?_;clear Y
   have h19:=pt_ F e;replace F:=pu_ F e;replace h14:=so_ e h14;replace h15:=so_ e h15;replace h16:=so_ e h16;replace h17:=so_ e h17;replace h18:=so_ e h18;clear e
   have Y:(execOp a82.eval oG5_6).run Try.prog w68=.ok (.value (.bool b81)) w68:=by unfold oG5_6;go_simp
   refine sv_ gG5_6 Y fun a83 e=>?_;clear Y
   have h20:=pt_ F e;replace F:=pu_ F e;replace h14:=so_ e h14;replace h15:=so_ e h15;replace h16:=so_ e h16;replace h17:=so_ e h17;replace h18:=so_ e h18;replace h19:=so_ e h19;clear e
   refine st_end ?_
   replace h0:=F.of h0;replace h2:=F.of h2;replace h6:=F.of h6;replace h7:=F.of h7;replace h8:=F.of h8;have R:=F.r;clear F
   change (cG20).wp _ _ _ _
   cases b81 with
   | false =>
    have fb81:=hb81;clear hb81
    simp only [dd_] at fb81
    refine wp_cond_false (x:=Code.skip) (y:=cG22) (eval_slot h20) ?_
    refine wp_exit ?_
    change (cG39).wp _ _ _ _
    refine wp_seq (x:=cG40) (y:=Code.ret) ?_
    change (Code.region 12 OG12 false).wp _ _ _ _
    refine reg_in (l:=[0,1]) rfl ?_
    have F:=fe_ R;clear R
    refine sv_ gG12_0 (yl6_ rfl (F.of h7) B62) fun a84 e=>?_
    have h40:=pt_ F e;replace F:=pu_ F e;clear e
    obtain ⟨w85,Y,hk,hB⟩:=ys6_ (o:=oG12_1) rfl (F.of h6) h40 B53
    replace K1:=kx_ hk K1 (Nat.not_lt.2 LK1_b53);replace B62:=bx_ hk B62 (Ne.symm Nb53_b62);clear B53;have B53:=hB;clear hB hk
    refine st_skip gG12_1 rfl (wanted_free rfl) Y ?_;clear Y
    refine st_end ?_
    replace h0:=F.of h0;replace h2:=F.of h2;replace h6:=F.of h6;replace h7:=F.of h7;replace h8:=F.of h8;replace h14:=F.of h14;replace h15:=F.of h15;replace h16:=F.of h16;replace h17:=F.of h17;replace h18:=F.of h18;replace h19:=F.of h19;replace h20:=F.of h20;clear h40;have R:=F.r;clear F
    change (Code.ret).wp _ _ _ _
    refine wp_ret ?_
    change bodyPost Try.prog Try.f47 (fun e w'=>WA (resW (shrR a b)) W e w') .ret a84 w85
    refine ret_cell6 (fn:=Try.f47) rfl R h6 B53 ?_
    exact (show WA (resW (shrR a b)) W _ _ by rw [shr_end HA.out hj (by omega),resW_n];exact ⟨none,0,rfl,own_zero,K1⟩)
   | true =>
    have fb81:=hb81;clear hb81
    simp only [dd_] at fb81
    refine wp_cond_true (x:=Code.skip) (y:=cG22) (eval_slot h20) ?_
    refine wp_skip ?_
    change (cG23).wp _ _ _ _
    refine wp_seq (x:=cG24) (y:=cG38) ?_
    refine wp_block (id:=1) (c:=cG25) ?_
    refine wp_seq (x:=cG26) (y:=cG27) ?_
    change (Code.region 7 OG7 false).wp _ _ _ _
    refine reg_in (l:=[0,1]) rfl ?_
    have F:=fe_ R;clear R
    refine sw_ gG7_0 (ym_ rfl (F.of h0)) F fun a86 F h23=>?_
    have Y:(execOp a86.eval oG7_1).run Try.prog w68=.ok (.value (.bool false)) w68:=by have h8:((str [62,62]).toList == [60,60])=false:=(by rw [str_eq];exact decide_eq_false (by decide));unfold oG7_1;go_simp
    refine sv_ gG7_1 Y fun a87 e=>?_;clear Y
    have h24:=pt_ F e;replace F:=pu_ F e;replace h23:=so_ e h23;clear e
    refine st_end ?_
    replace h0:=F.of h0;replace h2:=F.of h2;replace h6:=F.of h6;replace h7:=F.of h7;replace h8:=F.of h8;replace h14:=F.of h14;replace h15:=F.of h15;replace h16:=F.of h16;replace h17:=F.of h17;replace h18:=F.of h18;replace h19:=F.of h19;replace h20:=F.of h20;have R:=F.r;clear F
    change (cG27).wp _ _ _ _
    refine wp_cond_false (x:=cG28) (y:=cG37) (eval_slot h24) ?_
    change (Code.region 11 OG11 false).wp _ _ _ _
    refine reg_in (l:=[0,1,2,3,4,5,6,7,8]) rfl ?_
    have F:=fe_ R;clear R
    have Y:(execOp a87.eval oG11_0).run Try.prog w68=.ok (.value (.pointer (some ⟨b62,0,none⟩))) w68:=by have r7:=F.of h7;unfold oG11_0;go_simp
    refine sw_ gG11_0 Y F fun a88 F h32=>?_;clear Y
    have Y:(execOp a88.eval oG11_1).run Try.prog w68=.ok (.value (.int .i64 (a / 2 ^ j))) w68:=by have qq0:w68.cell? ⟨b62,0,none⟩=some (.int .i64 (a / 2 ^ j)):=B62.cell 0;have qq1:w68.cell? ⟨b62,1,none⟩=some (.int .i64 zeroT.k):=B62.cell 1;have qq2:w68.cell? ⟨b62,2,none⟩=some (.string (str zeroT.nm)):=B62.cell 2;have qq3:w68.cell? ⟨b62,3,none⟩=some (.int .i64 zeroT.i):=B62.cell 3;have qq4:w68.cell? ⟨b62,4,none⟩=some (.slice none zeroT.args.length 0):=B62.cell 4;have qq5:w68.cell? ⟨b62,5,none⟩=some (.bool true):=B62.cell 5;unfold oG11_1;go_simp
    refine sv_ gG11_1 Y fun a89 e=>?_;clear Y
    have h33:=pt_ F e;replace F:=pu_ F e;replace h32:=so_ e h32;clear e
    have Y:(execOp a89.eval oG11_2).run Try.prog w68=.ok (.value (.pointer (some ⟨b62,0,none⟩))) w68:=by have r7:=F.of h7;unfold oG11_2;go_simp
    refine sv_ gG11_2 Y fun a90 e=>?_;clear Y
    have h34:=pt_ F e;replace F:=pu_ F e;replace h32:=so_ e h32;replace h33:=so_ e h33;clear e
    have Y:(execOp a90.eval oG11_3).run Try.prog w68=.ok (.value (.int .i64 (a / 2 ^ j))) w68:=by have qq0:w68.cell? ⟨b62,0,none⟩=some (.int .i64 (a / 2 ^ j)):=B62.cell 0;have qq1:w68.cell? ⟨b62,1,none⟩=some (.int .i64 zeroT.k):=B62.cell 1;have qq2:w68.cell? ⟨b62,2,none⟩=some (.string (str zeroT.nm)):=B62.cell 2;have qq3:w68.cell? ⟨b62,3,none⟩=some (.int .i64 zeroT.i):=B62.cell 3;have qq4:w68.cell? ⟨b62,4,none⟩=some (.slice none zeroT.args.length 0):=B62.cell 4;have qq5:w68.cell? ⟨b62,5,none⟩=some (.bool true):=B62.cell 5;unfold oG11_3;go_simp
    refine sv_ gG11_3 Y fun a91 e=>?_;clear Y
    have h35:=pt_ F e;replace F:=pu_ F e;replace h32:=so_ e h32;replace h33:=so_ e h33;replace h34:=so_ e h34;clear e
    have Y:(execOp a91.eval oG11_4).run Try.prog w68=.ok (.value (.int .i64 (bits .and .i64 (a / 2 ^ j) 1))) w68:=by unfold oG11_4;go_simp
    refine sv_ gG11_4 Y fun a92 e=>?_;clear Y
    have h36:=pt_ F e;replace F:=pu_ F e;replace h32:=so_ e h32;replace h33:=so_ e h33;replace h34:=so_ e h34;replace h35:=so_ e h35;clear e
    have Y:(execOp a92.eval oG11_5).run Try.prog w68=.ok (.value (.int .i64 (IntKind.i64.wrap ((a / 2 ^ j) - (bits .and .i64 (a / 2 ^ j) 1))))) w68:=by unfold oG11_5;go_simp
    refine sv_ gG11_5 Y fun a93 e=>?_;clear Y
    have h37:=pt_ F e;replace F:=pu_ F e;replace h32:=so_ e h32;replace h33:=so_ e h33;replace h34:=so_ e h34;replace h35:=so_ e h35;replace h36:=so_ e h36;clear e
    have Y:(execOp a93.eval oG11_6).run Try.prog w68=.ok (.value (.int .i64 (a / 2 ^ (j + 1)))) w68:=by unfold oG11_6;go_simp
    refine sv_ gG11_6 Y fun a94 e=>?_;clear Y
    have h38:=pt_ F e;replace F:=pu_ F e;replace h32:=so_ e h32;replace h33:=so_ e h33;replace h34:=so_ e h34;replace h35:=so_ e h35;replace h36:=so_ e h36;replace h37:=so_ e h37;clear e
    refine st_call gG11_7 rfl (wanted_free rfl) (yc1_ enA47_31 rfl h38) ((of_any _ (a / 2 ^ (j + 1))).mono ?_)
    rintro e9 w95 ⟨rfl,kk⟩
    replace K1:=keep_onto K1 kk
    replace B53:=blk_on B53 kk
    replace B62:=blk_on B62 kk
    clear kk
    refine ⟨_,rfl,fun a96 e=>?_⟩
    have h39:=pt_ F e;replace F:=pu_ F e;replace h32:=so_ e h32;replace h33:=so_ e h33;replace h34:=so_ e h34;replace h35:=so_ e h35;replace h36:=so_ e h36;replace h37:=so_ e h37;replace h38:=so_ e h38;clear e
    obtain ⟨w97,Y,hk,hB⟩:=ys6_ (o:=oG11_8) rfl (F.of h7) h39 B62
    replace K1:=kx_ hk K1 (Nat.not_lt.2 LK1_b62);replace B53:=bx_ hk B53 Nb53_b62;clear B62;have B62:=hB;clear hB hk
    refine st_skip gG11_8 rfl (wanted_free rfl) Y ?_;clear Y
    refine st_end ?_
    replace h0:=F.of h0;replace h2:=F.of h2;replace h6:=F.of h6;replace h7:=F.of h7;replace h8:=F.of h8;replace h14:=F.of h14;replace h15:=F.of h15;replace h16:=F.of h16;replace h17:=F.of h17;replace h18:=F.of h18;replace h19:=F.of h19;replace h20:=F.of h20;replace h23:=F.of h23;replace h24:=F.of h24;have R:=F.r;clear F
    change (cG38).wp _ _ _ _
    change (Code.region 6 OG6 false).wp _ _ _ _
    refine reg_in (l:=[0,1,2]) rfl ?_
    have F:=fe_ R;clear R
    refine sw_ gG6_0 (ym_ rfl (F.of h8)) F fun a98 F h21=>?_
    have Y:(execOp a98.eval oG6_1).run Try.prog w97=.ok (.value (.int .i64 ((j:Int) + 1))) w97:=by have hwj:IntKind.i64.wrap ((j:Int) + 1)=(j:Int) + 1:=(by rw [IntKind.wrap_i64];omega);unfold oG6_1;go_simp
    refine sv_ gG6_1 Y fun a99 e=>?_;clear Y
    have h22:=pt_ F e;replace F:=pu_ F e;replace h21:=so_ e h21;clear e
    refine sv_ gG6_2 (ya_ rfl h22) fun a100 e=>?_
    clear h8;have h8:=pt_ F e;replace F:=pu_ F e;replace h21:=so_ e h21;replace h22:=so_ e h22;clear e
    refine st_end ?_
    replace h0:=F.of h0;replace h2:=F.of h2;replace h6:=F.of h6;replace h7:=F.of h7;replace h14:=F.of h14;replace h15:=F.of h15;replace h16:=F.of h16;replace h17:=F.of h17;replace h18:=F.of h18;replace h19:=F.of h19;replace h20:=F.of h20;replace h23:=F.of h23;replace h24:=F.of h24;replace h32:=F.of h32;replace h33:=F.of h33;replace h34:=F.of h34;replace h35:=F.of h35;replace h36:=F.of h36;replace h37:=F.of h37;replace h38:=F.of h38;replace h39:=F.of h39;have R:=F.r;clear F
    exact ⟨_,(by omega),j + 1,rfl,R,h0,h2,h6,h7,h8,K1,B53,B62,(by omega),(by omega)⟩
 | true =>
  have fb57:=hb57;clear hb57
  simp only [dd_] at fb57
  refine wp_cond_true (x:=cG6) (y:=Code.skip) (eval_slot h10) ?_
  refine wp_seq (x:=cG7) (y:=Code.ret) ?_
  change (Code.region 2 OG2 false).wp _ _ _ _
  refine reg_in (l:=[0,1]) rfl ?_
  have F:=fe_ R;clear R
  have Y:(execOp a58.eval oG2_0).run Try.prog w54=.ok (.enter 59 #[.string (⟨#[117,110,100,101,102,105,110,101,100]⟩)]) w54:=by unfold oG2_0;go_simp
  have hca:=fails_any (W:=w54) (s:=fUndef) (by decide)
  have UKX_b53:=B53.lt
  have HWKX:W.heap.size ≤ w54.heap.size:=K1.size
  refine st_call gG2_0 rfl (wanted_free rfl) Y ((hca).mono ?_);clear Y
  rintro e9 w101 ⟨ax,cx,rfl,hx,kk⟩
  replace K1:=keep_onto K1 kk
  replace B53:=blk_on B53 kk
  clear kk
  clear hca
  have HX:=Lib.hid hx;clear hx
  have KX:=Keep.refl (fun g=>w54.heap.size ≤ g∧g < w101.heap.size) w101
  refine ⟨_,rfl,fun a102 e=>?_⟩
  have h11:=pt_ F e;replace F:=pu_ F e;clear e
  obtain ⟨w103,Y,hk,hB⟩:=ys6_ (o:=oG2_1) rfl (F.of h6) h11 B53
  replace K1:=kx_ hk K1 (Nat.not_lt.2 LK1_b53);replace KX:=kx_ hk KX (fun hx=>absurd hx.1 (Nat.not_le.2 UKX_b53));clear B53;have B53:=hB;clear hB hk
  refine st_skip gG2_1 rfl (wanted_free rfl) Y ?_;clear Y
  refine st_end ?_
  replace h0:=F.of h0;replace h1:=F.of h1;replace h2:=F.of h2;replace h6:=F.of h6;clear h10;clear h11;have R:=F.r;clear F
  change (Code.ret).wp _ _ _ _
  refine wp_ret ?_
  change bodyPost Try.prog Try.f47 (fun e w'=>WA (resW (shrR a b)) W e w') .ret a102 w103
  refine ret_cell6 (fn:=Try.f47) rfl R h6 B53 ?_
  exact (show WA (resW (shrR a b)) W _ _ by rw [shr_no (by assumption),resW_u];exact ⟨ax,cx,rfl,(HX.out.on KX).up HWKX,K1⟩)
theorem rshift_shr_any (W:World) {a b:Int} (ha:inR a) (hb:inR b):Calls Try.prog 47 #[.string (str [62,62]),.int .i64 a,.int .i64 b] W fun e w'=>WA (resW (shrR a b)) W e w':=by
  refine enter_sx Try.func47 bodyA47 rfl (by show (3:Nat) ≤ 41;decide) fun f0 R hs=>?_
  exact rshift_shr_w R (hs 0 _ rfl) (hs 1 _ rfl) (hs 2 _ rfl) (Keep.refl _ W) (Lib.hid ha) (Lib.hid hb)
def oE0_0:Oper:=⟨some 4,Op.alloc 30,0, "ref.go:208",#[],none⟩
def OE0:Array Oper:=List.toArray (oE0_0::[])
theorem gE0_0:OE0[0]? = some oE0_0:=rfl
def cE1:Code:=Code.region 0 OE0 false
def oE1_0:Oper:=⟨some 7,Op.move (Operand.tmp 0),2, "ref.go:209",#[],none⟩
def oE1_1:Oper:=⟨some 8,Op.binOp Go.BinOp.eql 2 (Operand.tmp 7) (Operand.const (Value.int IntKind.i64 1)) 2,4, "ref.go:209",#[ed_ 0],none⟩
def OE1:Array Oper:=List.toArray (oE1_0::oE1_1::[])
theorem gE1_0:OE1[0]? = some oE1_0:=rfl
theorem gE1_1:OE1[1]? = some oE1_1:=rfl
def cE4:Code:=Code.region 1 OE1 false
def oE2_0:Oper:=⟨some 9,Op.call { callee:=Callee.value (Operand.func 31),args:=#[Operand.const (Value.int IntKind.i64 1)],argTypes:=#[2] },30, "ref.go:210",#[],none⟩
def oE2_1:Oper:=⟨none,Op.store 30 (Operand.tmp 4) (Operand.tmp 9),0, "ref.go:210",#[ed_ 0,ec_ 0,ep_ 0],none⟩
def OE2:Array Oper:=List.toArray (oE2_0::oE2_1::[])
theorem gE2_0:OE2[0]? = some oE2_0:=rfl
theorem gE2_1:OE2[1]? = some oE2_1:=rfl
def cE7:Code:=Code.region 2 OE2 false
def cE6:Code:=Code.seq cE7 Code.ret
def cE5:Code:=Code.cond (Operand.tmp 8) cE6 Code.skip
def cE3:Code:=Code.seq cE4 cE5
def oE3_0:Oper:=⟨some 10,Op.move (Operand.tmp 0),2, "ref.go:212",#[],none⟩
def oE3_1:Oper:=⟨some 11,Op.binOp Go.BinOp.eql 2 (Operand.tmp 10) (Operand.const (Value.int IntKind.i64 (-1))) 2,4, "ref.go:212",#[ed_ 0],none⟩
def OE3:Array Oper:=List.toArray (oE3_0::oE3_1::[])
theorem gE3_0:OE3[0]? = some oE3_0:=rfl
theorem gE3_1:OE3[1]? = some oE3_1:=rfl
def cE12:Code:=Code.region 3 OE3 false
def oE4_0:Oper:=⟨some 12,Op.move (Operand.tmp 1),2, "ref.go:213",#[],none⟩
def oE4_1:Oper:=⟨some 13,Op.binOp Go.BinOp.and 2 (Operand.tmp 12) (Operand.const (Value.int IntKind.i64 1)) 2,2, "ref.go:213",#[ed_ 0],none⟩
def oE4_2:Oper:=⟨some 14,Op.binOp Go.BinOp.eql 2 (Operand.tmp 13) (Operand.const (Value.int IntKind.i64 0)) 2,4, "ref.go:213",#[ed_ 1],none⟩
def OE4:Array Oper:=List.toArray (oE4_0::oE4_1::oE4_2::[])
theorem gE4_0:OE4[0]? = some oE4_0:=rfl
theorem gE4_1:OE4[1]? = some oE4_1:=rfl
theorem gE4_2:OE4[2]? = some oE4_2:=rfl
def cE16:Code:=Code.region 4 OE4 false
def oE5_0:Oper:=⟨some 15,Op.call { callee:=Callee.value (Operand.func 31),args:=#[Operand.const (Value.int IntKind.i64 1)],argTypes:=#[2] },30, "ref.go:214",#[],none⟩
def oE5_1:Oper:=⟨none,Op.store 30 (Operand.tmp 4) (Operand.tmp 15),0, "ref.go:214",#[ed_ 0,ec_ 0,ep_ 0],none⟩
def OE5:Array Oper:=List.toArray (oE5_0::oE5_1::[])
theorem gE5_0:OE5[0]? = some oE5_0:=rfl
theorem gE5_1:OE5[1]? = some oE5_1:=rfl
def cE19:Code:=Code.region 5 OE5 false
def cE18:Code:=Code.seq cE19 Code.ret
def cE17:Code:=Code.cond (Operand.tmp 14) cE18 Code.skip
def cE15:Code:=Code.seq cE16 cE17
def oE6_0:Oper:=⟨some 16,Op.call { callee:=Callee.value (Operand.func 31),args:=#[Operand.const (Value.int IntKind.i64 (-1))],argTypes:=#[2] },30, "ref.go:216",#[],none⟩
def oE6_1:Oper:=⟨none,Op.store 30 (Operand.tmp 4) (Operand.tmp 16),0, "ref.go:216",#[ed_ 0,ec_ 0,ep_ 0],none⟩
def OE6:Array Oper:=List.toArray (oE6_0::oE6_1::[])
theorem gE6_0:OE6[0]? = some oE6_0:=rfl
theorem gE6_1:OE6[1]? = some oE6_1:=rfl
def cE23:Code:=Code.region 6 OE6 false
def cE22:Code:=Code.seq cE23 Code.ret
def cE14:Code:=Code.seq cE15 cE22
def cE13:Code:=Code.cond (Operand.tmp 11) cE14 Code.skip
def cE11:Code:=Code.seq cE12 cE13
def oE7_0:Oper:=⟨some 17,Op.move (Operand.tmp 1),2, "ref.go:218",#[],none⟩
def oE7_1:Oper:=⟨some 18,Op.binOp Go.BinOp.lss 2 (Operand.tmp 17) (Operand.const (Value.int IntKind.i64 0)) 2,4, "ref.go:218",#[ed_ 0],none⟩
def OE7:Array Oper:=List.toArray (oE7_0::oE7_1::[])
theorem gE7_0:OE7[0]? = some oE7_0:=rfl
theorem gE7_1:OE7[1]? = some oE7_1:=rfl
def cE28:Code:=Code.region 7 OE7 false
def oE8_0:Oper:=⟨some 19,Op.call { callee:=Callee.value (Operand.func 59),args:=#[Operand.const (Value.string { data:=#[117,110,100,101,102,105,110,101,100] })],argTypes:=#[9] },30, "ref.go:219",#[],none⟩
def oE8_1:Oper:=⟨none,Op.store 30 (Operand.tmp 4) (Operand.tmp 19),0, "ref.go:219",#[ed_ 0,ec_ 0,ep_ 0],none⟩
def OE8:Array Oper:=List.toArray (oE8_0::oE8_1::[])
theorem gE8_0:OE8[0]? = some oE8_0:=rfl
theorem gE8_1:OE8[1]? = some oE8_1:=rfl
def cE31:Code:=Code.region 8 OE8 false
def cE30:Code:=Code.seq cE31 Code.ret
def cE29:Code:=Code.cond (Operand.tmp 18) cE30 Code.skip
def cE27:Code:=Code.seq cE28 cE29
def oE9_0:Oper:=⟨some 20,Op.move (Operand.tmp 0),2, "ref.go:221",#[],none⟩
def oE9_1:Oper:=⟨some 21,Op.binOp Go.BinOp.eql 2 (Operand.tmp 20) (Operand.const (Value.int IntKind.i64 0)) 2,4, "ref.go:221",#[ed_ 0],none⟩
def OE9:Array Oper:=List.toArray (oE9_0::oE9_1::[])
theorem gE9_0:OE9[0]? = some oE9_0:=rfl
theorem gE9_1:OE9[1]? = some oE9_1:=rfl
def cE36:Code:=Code.region 9 OE9 false
def oE10_0:Oper:=⟨some 22,Op.move (Operand.tmp 1),2, "ref.go:222",#[],none⟩
def oE10_1:Oper:=⟨some 23,Op.binOp Go.BinOp.eql 2 (Operand.tmp 22) (Operand.const (Value.int IntKind.i64 0)) 2,4, "ref.go:222",#[ed_ 0],none⟩
def OE10:Array Oper:=List.toArray (oE10_0::oE10_1::[])
theorem gE10_0:OE10[0]? = some oE10_0:=rfl
theorem gE10_1:OE10[1]? = some oE10_1:=rfl
def cE40:Code:=Code.region 10 OE10 false
def oE11_0:Oper:=⟨some 24,Op.call { callee:=Callee.value (Operand.func 31),args:=#[Operand.const (Value.int IntKind.i64 1)],argTypes:=#[2] },30, "ref.go:223",#[],none⟩
def oE11_1:Oper:=⟨none,Op.store 30 (Operand.tmp 4) (Operand.tmp 24),0, "ref.go:223",#[ed_ 0,ec_ 0,ep_ 0],none⟩
def OE11:Array Oper:=List.toArray (oE11_0::oE11_1::[])
theorem gE11_0:OE11[0]? = some oE11_0:=rfl
theorem gE11_1:OE11[1]? = some oE11_1:=rfl
def cE43:Code:=Code.region 11 OE11 false
def cE42:Code:=Code.seq cE43 Code.ret
def cE41:Code:=Code.cond (Operand.tmp 23) cE42 Code.skip
def cE39:Code:=Code.seq cE40 cE41
def oE12_0:Oper:=⟨some 25,Op.call { callee:=Callee.value (Operand.func 31),args:=#[Operand.const (Value.int IntKind.i64 0)],argTypes:=#[2] },30, "ref.go:225",#[],none⟩
def oE12_1:Oper:=⟨none,Op.store 30 (Operand.tmp 4) (Operand.tmp 25),0, "ref.go:225",#[ed_ 0,ec_ 0,ep_ 0],none⟩
def OE12:Array Oper:=List.toArray (oE12_0::oE12_1::[])
theorem gE12_0:OE12[0]? = some oE12_0:=rfl
theorem gE12_1:OE12[1]? = some oE12_1:=rfl
def cE47:Code:=Code.region 12 OE12 false
def cE46:Code:=Code.seq cE47 Code.ret
def cE38:Code:=Code.seq cE39 cE46
def cE37:Code:=Code.cond (Operand.tmp 21) cE38 Code.skip
def cE35:Code:=Code.seq cE36 cE37
def oE13_0:Oper:=⟨some 26,Op.call { callee:=Callee.value (Operand.func 31),args:=#[Operand.const (Value.int IntKind.i64 1)],argTypes:=#[2] },30, "ref.go:227",#[],none⟩
def oE13_1:Oper:=⟨some 5,Op.alloc 30,0, "ref.go:227",#[],none⟩
def oE13_2:Oper:=⟨none,Op.store 30 (Operand.tmp 5) (Operand.tmp 26),0, "ref.go:227",#[ed_ 1,ed_ 0,ec_ 0,ep_ 0,ep_ 1],none⟩
def OE13:Array Oper:=List.toArray (oE13_0::oE13_1::oE13_2::[])
theorem gE13_0:OE13[0]? = some oE13_0:=rfl
theorem gE13_1:OE13[1]? = some oE13_1:=rfl
theorem gE13_2:OE13[2]? = some oE13_2:=rfl
def cE51:Code:=Code.region 13 OE13 false
def oE14_0:Oper:=⟨some 6,Op.assign (Operand.const (Value.int IntKind.i64 0)),2, "ref.go:228",#[],none⟩
def OE14:Array Oper:=List.toArray (oE14_0::[])
theorem gE14_0:OE14[0]? = some oE14_0:=rfl
def cE54:Code:=Code.region 14 OE14 false
def oE15_0:Oper:=⟨some 27,Op.move (Operand.tmp 6),2, "ref.go:228",#[],none⟩
def oE15_1:Oper:=⟨some 28,Op.move (Operand.tmp 1),2, "ref.go:228",#[],none⟩
def oE15_2:Oper:=⟨some 29,Op.binOp Go.BinOp.lss 2 (Operand.tmp 27) (Operand.tmp 28) 2,4, "ref.go:228",#[ed_ 0,ed_ 1],none⟩
def oE15_3:Oper:=⟨some 30,Op.move (Operand.tmp 29),4, "ref.go:228",#[ed_ 2],none⟩
def oE15_4:Oper:=⟨some 31,Op.move (Operand.tmp 6),2, "ref.go:228",#[eg_ 3],some (3,true)⟩
def oE15_5:Oper:=⟨some 32,Op.binOp Go.BinOp.lss 2 (Operand.tmp 31) (Operand.const (Value.int IntKind.i64 70)) 2,4, "ref.go:228",#[ed_ 4,eg_ 3],some (3,true)⟩
def oE15_6:Oper:=⟨some 33,Op.pick (Operand.tmp 30) (Operand.tmp 32) (Operand.const (Value.bool false)),4, "ref.go:228",#[ed_ 3,ed_ 5],none⟩
def OE15:Array Oper:=List.toArray (oE15_0::oE15_1::oE15_2::oE15_3::oE15_4::oE15_5::oE15_6::[])
theorem gE15_0:OE15[0]? = some oE15_0:=rfl
theorem gE15_1:OE15[1]? = some oE15_1:=rfl
theorem gE15_2:OE15[2]? = some oE15_2:=rfl
theorem gE15_3:OE15[3]? = some oE15_3:=rfl
theorem gE15_4:OE15[4]? = some oE15_4:=rfl
theorem gE15_5:OE15[5]? = some oE15_5:=rfl
theorem gE15_6:OE15[6]? = some oE15_6:=rfl
def cE59:Code:=Code.region 15 OE15 false
def cE62:Code:=Code.exit 0
def cE60:Code:=Code.cond (Operand.tmp 33) Code.skip cE62
def cE58:Code:=Code.seq cE59 cE60
def oE17_0:Oper:=⟨some 36,Op.fieldAddr 30 (Operand.tmp 5) 0,0, "ref.go:229",#[],none⟩
def oE17_1:Oper:=⟨some 37,Op.load 2 (Operand.tmp 36),2, "ref.go:229",#[ed_ 0],none⟩
def oE17_2:Oper:=⟨some 38,Op.move (Operand.tmp 0),2, "ref.go:229",#[],none⟩
def oE17_3:Oper:=⟨some 39,Op.call { callee:=Callee.value (Operand.func 45),args:=#[Operand.tmp 37,Operand.tmp 38],argTypes:=#[2,2] },30, "ref.go:229",#[ed_ 1,ed_ 2],none⟩
def oE17_4:Oper:=⟨none,Op.store 30 (Operand.tmp 5) (Operand.tmp 39),0, "ref.go:229",#[ed_ 3,ec_ 3,ep_ 0,ep_ 1,ep_ 2,ep_ 3],none⟩
def OE17:Array Oper:=List.toArray (oE17_0::oE17_1::oE17_2::oE17_3::oE17_4::[])
theorem gE17_0:OE17[0]? = some oE17_0:=rfl
theorem gE17_1:OE17[1]? = some oE17_1:=rfl
theorem gE17_2:OE17[2]? = some oE17_2:=rfl
theorem gE17_3:OE17[3]? = some oE17_3:=rfl
theorem gE17_4:OE17[4]? = some oE17_4:=rfl
def cE66:Code:=Code.region 17 OE17 false
def oE18_0:Oper:=⟨some 40,Op.fieldAddr 30 (Operand.tmp 5) 2,0, "ref.go:230",#[],none⟩
def oE18_1:Oper:=⟨some 41,Op.load 4 (Operand.tmp 40),4, "ref.go:230",#[ed_ 0],none⟩
def oE18_2:Oper:=⟨some 42,Op.unOp Go.UnOp.not 4 (Operand.tmp 41),4, "ref.go:230",#[ed_ 1],none⟩
def OE18:Array Oper:=List.toArray (oE18_0::oE18_1::oE18_2::[])
theorem gE18_0:OE18[0]? = some oE18_0:=rfl
theorem gE18_1:OE18[1]? = some oE18_1:=rfl
theorem gE18_2:OE18[2]? = some oE18_2:=rfl
def cE68:Code:=Code.region 18 OE18 false
def oE19_0:Oper:=⟨some 43,Op.load 30 (Operand.tmp 5),30, "ref.go:231",#[],none⟩
def oE19_1:Oper:=⟨none,Op.store 30 (Operand.tmp 4) (Operand.tmp 43),0, "ref.go:231",#[ed_ 0,ep_ 0],none⟩
def OE19:Array Oper:=List.toArray (oE19_0::oE19_1::[])
theorem gE19_0:OE19[0]? = some oE19_0:=rfl
theorem gE19_1:OE19[1]? = some oE19_1:=rfl
def cE71:Code:=Code.region 19 OE19 false
def cE70:Code:=Code.seq cE71 Code.ret
def cE69:Code:=Code.cond (Operand.tmp 42) cE70 Code.skip
def cE67:Code:=Code.seq cE68 cE69
def cE65:Code:=Code.seq cE66 cE67
def cE64:Code:=Code.block 1 cE65
def oE16_0:Oper:=⟨some 34,Op.move (Operand.tmp 6),2, "ref.go:228",#[],none⟩
def oE16_1:Oper:=⟨some 35,Op.binOp Go.BinOp.add 2 (Operand.tmp 34) (Operand.const (Value.int IntKind.i64 1)) 2,2, "ref.go:228",#[ed_ 0],none⟩
def oE16_2:Oper:=⟨some 6,Op.assign (Operand.tmp 35),2, "ref.go:228",#[ed_ 1,ep_ 0,ep_ 1],none⟩
def OE16:Array Oper:=List.toArray (oE16_0::oE16_1::oE16_2::[])
theorem gE16_0:OE16[0]? = some oE16_0:=rfl
theorem gE16_1:OE16[1]? = some oE16_1:=rfl
theorem gE16_2:OE16[2]? = some oE16_2:=rfl
def cE74:Code:=Code.region 16 OE16 false
def cE63:Code:=Code.seq cE64 cE74
def cE57:Code:=Code.seq cE58 cE63
def cE56:Code:=Code.loop cE57
def cE55:Code:=Code.block 0 cE56
def cE53:Code:=Code.seq cE54 cE55
def oE20_0:Oper:=⟨some 44,Op.load 30 (Operand.tmp 5),30, "ref.go:234",#[],none⟩
def oE20_1:Oper:=⟨none,Op.store 30 (Operand.tmp 4) (Operand.tmp 44),0, "ref.go:234",#[ed_ 0,ep_ 0],none⟩
def OE20:Array Oper:=List.toArray (oE20_0::oE20_1::[])
theorem gE20_0:OE20[0]? = some oE20_0:=rfl
theorem gE20_1:OE20[1]? = some oE20_1:=rfl
def cE76:Code:=Code.region 20 OE20 false
def cE75:Code:=Code.seq cE76 Code.ret
def cE52:Code:=Code.seq cE53 cE75
def cE50:Code:=Code.seq cE51 cE52
def cE34:Code:=Code.seq cE35 cE50
def cE26:Code:=Code.seq cE27 cE34
def cE10:Code:=Code.seq cE11 cE26
def cE2:Code:=Code.seq cE3 cE10
def cE0:Code:=Code.seq cE1 cE2
theorem enA48_45:Enters Try.prog 45:=enters_of Try.func45 (by kernel_rfl) rfl
theorem bodyA48:Try.f48.body=some cE0:=by kernel_rfl
set_option maxRecDepth 100000 in
set_option maxHeartbeats 4000000 in
theorem rpow_w {W:World} {a b:Int} {f0:Act} {w0:World} (R:FrS 45 f0) (h0:f0.tmps[0]? = some (.int .i64 a)) (h1:f0.tmps[1]? = some (.int .i64 b)) (K1:Keep (fun g=>g < W.heap.size) W w0)  (HA:Hid (inR a)) (HB:Hid (inR b)):cE0.wp Try.prog (bodyPost Try.prog Try.f48 (fun e w'=>WA (resW (powR a b)) W e w')) f0 w0:=by
 refine wp_seq (x:=cE1) (y:=cE2) ?_
 change (Code.region 0 OE0 false).wp _ _ _ _
 refine reg_in (l:=[0]) rfl ?_
 have F:=fe_ R;clear R
 have Y:(execOp f0.eval oE0_0).run Try.prog w0=.ok (.value (.pointer (some ⟨w0.heap.size,0,none⟩))) (w0.alloc (.cells #[.int .i64 0,.int .i64 0,.string (⟨#[]⟩),.int .i64 0,.slice none 0 0,.bool false] 30)):=by unfold oE0_0;go_simp
 have B1:=Blk.new w0 30 #[.int .i64 0,.int .i64 0,.string (⟨#[]⟩),.int .i64 0,.slice none 0 0,.bool false]
 obtain ⟨w2,hw⟩:∃ x,x=w0.alloc (.cells #[.int .i64 0,.int .i64 0,.string (⟨#[]⟩),.int .i64 0,.slice none 0 0,.bool false] 30):=⟨_,rfl⟩;rw [← hw] at Y B1
 obtain ⟨b1,hb⟩:∃ x,x=w0.heap.size:=⟨_,rfl⟩;rw [← hb] at Y B1
 have LK1_b1:=lk_ hb K1;replace K1:=ka_ hw K1;clear hw hb
 refine sw_ gE0_0 Y F fun a3 F h4=>?_;clear Y
 refine st_end ?_
 replace h0:=F.of h0;replace h1:=F.of h1;have R:=F.r;clear F
 change (cE2).wp _ _ _ _
 refine wp_seq (x:=cE3) (y:=cE10) ?_
 refine wp_seq (x:=cE4) (y:=cE5) ?_
 change (Code.region 1 OE1 false).wp _ _ _ _
 refine reg_in (l:=[0,1]) rfl ?_
 have F:=fe_ R;clear R
 refine sw_ gE1_0 (ym_ rfl (F.of h0)) F fun a4 F h7=>?_
 obtain ⟨b5,hb5⟩:∃ x,(((a:Int) == (1:Int)))=x:=⟨_,rfl⟩
 have Y:(execOp a4.eval oE1_1).run Try.prog w2=.ok (.value (.bool b5)) w2:=by rw [← hb5];unfold oE1_1;go_simp
 refine sw_ gE1_1 Y F fun a6 F h8=>?_;clear Y h7
 refine st_end ?_
 replace h0:=F.of h0;replace h1:=F.of h1;replace h4:=F.of h4;have R:=F.r;clear F
 change (cE5).wp _ _ _ _
 cases b5 with
 | false =>
  have fb5:=hb5;clear hb5
  simp only [dd_] at fb5
  refine wp_cond_false (x:=cE6) (y:=Code.skip) (eval_slot h8) ?_
  refine wp_skip ?_
  change (cE10).wp _ _ _ _
  refine wp_seq (x:=cE11) (y:=cE26) ?_
  refine wp_seq (x:=cE12) (y:=cE13) ?_
  change (Code.region 3 OE3 false).wp _ _ _ _
  refine reg_in (l:=[0,1]) rfl ?_
  have F:=fe_ R;clear R
  refine sw_ gE3_0 (ym_ rfl (F.of h0)) F fun a7 F h10=>?_
  obtain ⟨b8,hb8⟩:∃ x,(((a:Int) == (-1:Int)))=x:=⟨_,rfl⟩
  have Y:(execOp a7.eval oE3_1).run Try.prog w2=.ok (.value (.bool b8)) w2:=by rw [← hb8];unfold oE3_1;go_simp
  refine sw_ gE3_1 Y F fun a9 F h11=>?_;clear Y h10
  refine st_end ?_
  replace h0:=F.of h0;replace h1:=F.of h1;replace h4:=F.of h4;clear h8;have R:=F.r;clear F
  change (cE13).wp _ _ _ _
  cases b8 with
  | false =>
   have fb8:=hb8;clear hb8
   simp only [dd_] at fb8
   refine wp_cond_false (x:=cE14) (y:=Code.skip) (eval_slot h11) ?_
   refine wp_skip ?_
   change (cE26).wp _ _ _ _
   refine wp_seq (x:=cE27) (y:=cE34) ?_
   refine wp_seq (x:=cE28) (y:=cE29) ?_
   change (Code.region 7 OE7 false).wp _ _ _ _
   refine reg_in (l:=[0,1]) rfl ?_
   have F:=fe_ R;clear R
   refine sw_ gE7_0 (ym_ rfl (F.of h1)) F fun a10 F h17=>?_
   obtain ⟨b11,hb11⟩:∃ x,(decide ((b:Int) < (0:Int)))=x:=⟨_,rfl⟩
   have Y:(execOp a10.eval oE7_1).run Try.prog w2=.ok (.value (.bool b11)) w2:=by rw [← hb11];unfold oE7_1;go_simp
   refine sw_ gE7_1 Y F fun a12 F h18=>?_;clear Y h17
   refine st_end ?_
   replace h0:=F.of h0;replace h1:=F.of h1;replace h4:=F.of h4;clear h11;have R:=F.r;clear F
   change (cE29).wp _ _ _ _
   cases b11 with
   | false =>
    have fb11:=hb11;clear hb11
    simp only [dd_] at fb11
    refine wp_cond_false (x:=cE30) (y:=Code.skip) (eval_slot h18) ?_
    refine wp_skip ?_
    change (cE34).wp _ _ _ _
    refine wp_seq (x:=cE35) (y:=cE50) ?_
    refine wp_seq (x:=cE36) (y:=cE37) ?_
    change (Code.region 9 OE9 false).wp _ _ _ _
    refine reg_in (l:=[0,1]) rfl ?_
    have F:=fe_ R;clear R
    refine sw_ gE9_0 (ym_ rfl (F.of h0)) F fun a13 F h20=>?_
    obtain ⟨b14,hb14⟩:∃ x,(((a:Int) == (0:Int)))=x:=⟨_,rfl⟩
    have Y:(execOp a13.eval oE9_1).run Try.prog w2=.ok (.value (.bool b14)) w2:=by rw [← hb14];unfold oE9_1;go_simp
    refine sw_ gE9_1 Y F fun a15 F h21=>?_;clear Y h20
    refine st_end ?_
    replace h0:=F.of h0;replace h1:=F.of h1;replace h4:=F.of h4;clear h18;have R:=F.r;clear F
    change (cE37).wp _ _ _ _
    cases b14 with
    | false =>
     have fb14:=hb14;clear hb14
     simp only [dd_] at fb14
     refine wp_cond_false (x:=cE38) (y:=Code.skip) (eval_slot h21) ?_
     refine wp_skip ?_
     change (cE50).wp _ _ _ _
     refine wp_seq (x:=cE51) (y:=cE52) ?_
     change (Code.region 13 OE13 false).wp _ _ _ _
     refine reg_in (l:=[0,1,2]) rfl ?_
     have F:=fe_ R;clear R
     have Y:(execOp a15.eval oE13_0).run Try.prog w2=.ok (.enter 31 #[.int .i64 1]) w2:=by unfold oE13_0;go_simp
     refine st_call gE13_0 rfl (wanted_free rfl) Y ((of_any _ (1)).mono ?_);clear Y
     rintro e9 w16 ⟨rfl,kk⟩
     replace K1:=keep_onto K1 kk
     replace B1:=blk_on B1 kk
     clear kk
     refine ⟨_,rfl,fun a17 e=>?_⟩
     have h26:=pt_ F e;replace F:=pu_ F e;clear e
     have Y:(execOp a17.eval oE13_1).run Try.prog w16=.ok (.value (.pointer (some ⟨w16.heap.size,0,none⟩))) (w16.alloc (.cells #[.int .i64 0,.int .i64 0,.string (⟨#[]⟩),.int .i64 0,.slice none 0 0,.bool false] 30)):=by unfold oE13_1;go_simp
     have B18:=Blk.new w16 30 #[.int .i64 0,.int .i64 0,.string (⟨#[]⟩),.int .i64 0,.slice none 0 0,.bool false]
     obtain ⟨w19,hw⟩:∃ x,x=w16.alloc (.cells #[.int .i64 0,.int .i64 0,.string (⟨#[]⟩),.int .i64 0,.slice none 0 0,.bool false] 30):=⟨_,rfl⟩;rw [← hw] at Y B18
     obtain ⟨b18,hb⟩:∃ x,x=w16.heap.size:=⟨_,rfl⟩;rw [← hb] at Y B18
     have Nb1_b18:=nb_ hb B1;replace B1:=ba_ hw B1;have LK1_b18:=lk_ hb K1;replace K1:=ka_ hw K1;clear hw hb
     refine sv_ gE13_1 Y fun a20 e=>?_;clear Y
     have h5:=pt_ F e;replace F:=pu_ F e;replace h26:=so_ e h26;clear e
     obtain ⟨w21,Y,hk,hB⟩:=ys6_ (o:=oE13_2) rfl h5 h26 B18
     replace K1:=kx_ hk K1 (Nat.not_lt.2 LK1_b18);replace B1:=bx_ hk B1 Nb1_b18;clear B18;have B18:=hB;clear hB hk
     refine st_skip gE13_2 rfl (wanted_free rfl) Y ?_;clear Y
     refine st_end ?_
     replace h0:=F.of h0;replace h1:=F.of h1;replace h4:=F.of h4;clear h21;clear h26;have R:=F.r;clear F
     change (cE52).wp _ _ _ _
     refine wp_seq (x:=cE53) (y:=cE75) ?_
     refine wp_seq (x:=cE54) (y:=cE55) ?_
     change (Code.region 14 OE14 false).wp _ _ _ _
     refine reg_in (l:=[0]) rfl ?_
     have F:=fe_ R;clear R
     have Y:(execOp a20.eval oE14_0).run Try.prog w21=.ok (.value (.int .i64 0)) w21:=by unfold oE14_0;go_simp
     refine sw_ gE14_0 Y F fun a22 F h6=>?_;clear Y
     refine st_end ?_
     replace h0:=F.of h0;replace h1:=F.of h1;replace h4:=F.of h4;replace h5:=F.of h5;have R:=F.r;clear F
     change (cE55).wp _ _ _ _
     refine wp_block (id:=0) (c:=cE56) ?_
     have hpz:a ^ 0=1:=Int.pow_zero a
     have BB0:Blk w21 b18 30 #[.int .i64 (a ^ 0),.int .i64 zeroT.k,.string (str zeroT.nm),.int .i64 zeroT.i,.slice none zeroT.args.length 0,.bool true]:=by rw [hpz];exact B18
     clear B18;have B18:=BB0;clear BB0
     have hin0:inR (a ^ 0):=by rw [hpz];exact inR_1
     have hbig:2 ≤ a∨a ≤ -2:=by omega
     refine wp_loop_ghost (c:=cE57) (fun n fX wX=>∃ j:Nat,∃ az:Option Addr,∃ cz:Nat,n=70 - j∧FrS 45 fX∧fX.tmps[0]? = some (.int .i64 a)∧fX.tmps[1]? = some (.int .i64 b)∧fX.tmps[4]? = some (.pointer (some ⟨b1,0,none⟩))∧fX.tmps[5]? = some (.pointer (some ⟨b18,0,none⟩))∧fX.tmps[6]? = some (.int .i64 (j:Int))∧Keep (fun g=>g < W.heap.size) W wX∧Blk wX b1 30 #[.int .i64 0,.int .i64 0,.string (⟨#[]⟩),.int .i64 0,.slice none 0 0,.bool false]∧Blk wX b18 30 #[.int .i64 (a ^ j),.int .i64 zeroT.k,.string (str zeroT.nm),.int .i64 zeroT.i,.slice az zeroT.args.length cz,.bool true]∧(j:Int) ≤ b∧j ≤ 70∧inR (a ^ j)) (70 - 0) ⟨0,none,0,rfl,R,h0,h1,h4,h5,h6,K1,B1,B18,(by omega),(by decide),hin0⟩ ?_
     clear R h0 h1 h4 h5 h6 K1 B1 B18
     rintro n25 a23 w24 ⟨j,az,cz,rfl,R,h0,h1,h4,h5,h6,K1,B1,B18,hj,hj7,hin⟩
     refine wp_seq (x:=cE58) (y:=cE63) ?_
     refine wp_seq (x:=cE59) (y:=cE60) ?_
     change (Code.region 15 OE15 false).wp _ _ _ _
     refine reg_in (l:=[0,1,2,3,4,5,6]) rfl ?_
     have F:=fe_ R;clear R
     refine sw_ gE15_0 (ym_ rfl (F.of h6)) F fun a26 F h27=>?_
     refine sv_ gE15_1 (ym_ rfl (F.of h1)) fun a27 e=>?_
     have h28:=pt_ F e;replace F:=pu_ F e;replace h27:=so_ e h27;clear e
     obtain ⟨b28,hb28⟩:∃ x,(decide ((j:Int) < (b:Int)))=x:=⟨_,rfl⟩
     have Y:(execOp a27.eval oE15_2).run Try.prog w24=.ok (.value (.bool b28)) w24:=by rw [← hb28];unfold oE15_2;go_simp
     refine sv_ gE15_2 Y fun a29 e=>?_;clear Y
     have h29:=pt_ F e;replace F:=pu_ F e;replace h27:=so_ e h27;replace h28:=so_ e h28;clear e
     refine sv_ gE15_3 (ym_ rfl h29) fun a30 e=>?_
     have h30:=pt_ F e;replace F:=pu_ F e;replace h27:=so_ e h27;replace h28:=so_ e h28;replace h29:=so_ e h29;clear e
     cases b28 with
     | false =>
      have fb28:=hb28;clear hb28
      simp only [dd_] at fb28
      refine st_not gE15_4 rfl (wanted_is (j:=3) (d:=30) rfl rfl h30 rfl) fun a31 e=>?_
      have h31:=pt_ F e;replace F:=pu_ F e;replace h27:=so_ e h27;replace h28:=so_ e h28;replace h29:=so_ e h29;replace h30:=so_ e h30;clear e
      refine st_not gE15_5 rfl (wanted_is (j:=3) (d:=30) rfl rfl h30 rfl) fun a32 e=>?_
      have h32:=pt_ F e;replace F:=pu_ F e;replace h27:=so_ e h27;replace h28:=so_ e h28;replace h29:=so_ e h29;replace h30:=so_ e h30;replace h31:=so_ e h31;clear e
      have Y:(execOp a32.eval oE15_6).run Try.prog w24=.ok (.value (.bool false)) w24:=by unfold oE15_6;go_simp
      refine sv_ gE15_6 Y fun a33 e=>?_;clear Y
      have h33:=pt_ F e;replace F:=pu_ F e;replace h27:=so_ e h27;replace h28:=so_ e h28;replace h29:=so_ e h29;replace h30:=so_ e h30;replace h31:=so_ e h31;replace h32:=so_ e h32;clear e
      refine st_end ?_
      replace h0:=F.of h0;replace h1:=F.of h1;replace h4:=F.of h4;replace h5:=F.of h5;replace h6:=F.of h6;have R:=F.r;clear F
      change (cE60).wp _ _ _ _
      refine wp_cond_false (x:=Code.skip) (y:=cE62) (eval_slot h33) ?_
      refine wp_exit ?_
      change (cE75).wp _ _ _ _
      refine wp_seq (x:=cE76) (y:=Code.ret) ?_
      change (Code.region 20 OE20 false).wp _ _ _ _
      refine reg_in (l:=[0,1]) rfl ?_
      have F:=fe_ R;clear R
      refine sv_ gE20_0 (yl6_ rfl (F.of h5) B18) fun a34 e=>?_
      have h44:=pt_ F e;replace F:=pu_ F e;clear e
      obtain ⟨w35,Y,hk,hB⟩:=ys6_ (o:=oE20_1) rfl (F.of h4) h44 B1
      replace K1:=kx_ hk K1 (Nat.not_lt.2 LK1_b1);replace B18:=bx_ hk B18 (Ne.symm Nb1_b18);clear B1;have B1:=hB;clear hB hk
      refine st_skip gE20_1 rfl (wanted_free rfl) Y ?_;clear Y
      refine st_end ?_
      replace h0:=F.of h0;replace h1:=F.of h1;replace h4:=F.of h4;replace h5:=F.of h5;replace h6:=F.of h6;replace h27:=F.of h27;replace h28:=F.of h28;replace h29:=F.of h29;replace h30:=F.of h30;replace h31:=F.of h31;replace h32:=F.of h32;replace h33:=F.of h33;clear h44;have R:=F.r;clear F
      change (Code.ret).wp _ _ _ _
      refine wp_ret ?_
      change bodyPost Try.prog Try.f48 (fun e w'=>WA (resW (powR a b)) W e w') .ret a34 w35
      refine ret_cell6 (fn:=Try.f48) rfl R h4 B1 ?_
      first
       | exact (show WA (resW (powR a b)) W _ _ by rw [pow_end' hbig hin hj (by omega),resW_n];exact ⟨az,cz,rfl,fun V _=>hzero _ _ _,K1⟩)
       | exact (show WA (resW (powR a b)) W _ _ by rw [pow_one1 (by assumption),resW_n];exact ⟨none,0,rfl,own_zero,K1⟩)
       | exact (show WA (resW (powR a b)) W _ _ by rw [pow_m1 (by assumption),if_pos (by assumption),resW_n];exact ⟨none,0,rfl,own_zero,K1⟩)
       | exact (show WA (resW (powR a b)) W _ _ by rw [pow_m1 (by assumption),if_neg (by assumption),resW_n];exact ⟨none,0,rfl,own_zero,K1⟩)
       | exact (show WA (resW (powR a b)) W _ _ by rw [pow_zero' (by assumption),resW_n];exact ⟨none,0,rfl,own_zero,K1⟩)
       | exact (show WA (resW (powR a b)) W _ _ by rw [pow_0 (by assumption) (by assumption) (by assumption),resW_n];exact ⟨none,0,rfl,own_zero,K1⟩)
     | true =>
      have fb28:=hb28;clear hb28
      simp only [dd_] at fb28
      refine st_val gE15_4 rfl (wanted_is (j:=3) (d:=30) rfl rfl h30 rfl) (ym_ rfl (F.of h6)) fun a36 e=>?_
      have h31:=pt_ F e;replace F:=pu_ F e;replace h27:=so_ e h27;replace h28:=so_ e h28;replace h29:=so_ e h29;replace h30:=so_ e h30;clear e
      obtain ⟨b37,hb37⟩:∃ x,(decide ((j:Int) < (70:Int)))=x:=⟨_,rfl⟩
      have Y:(execOp a36.eval oE15_5).run Try.prog w24=.ok (.value (.bool b37)) w24:=by rw [← hb37];unfold oE15_5;go_simp
      refine st_val gE15_5 rfl (wanted_is (j:=3) (d:=30) rfl rfl h30 rfl) Y fun a38 e=>?_;clear Y
      have h32:=pt_ F e;replace F:=pu_ F e;replace h27:=so_ e h27;replace h28:=so_ e h28;replace h29:=so_ e h29;replace h30:=so_ e h30;replace h31:=so_ e h31;clear e
      have Y:(execOp a38.eval oE15_6).run Try.prog w24=.ok (.value (.bool b37)) w24:=by unfold oE15_6;go_simp
      refine sv_ gE15_6 Y fun a39 e=>?_;clear Y
      have h33:=pt_ F e;replace F:=pu_ F e;replace h27:=so_ e h27;replace h28:=so_ e h28;replace h29:=so_ e h29;replace h30:=so_ e h30;replace h31:=so_ e h31;replace h32:=so_ e h32;clear e
      refine st_end ?_
      replace h0:=F.of h0;replace h1:=F.of h1;replace h4:=F.of h4;replace h5:=F.of h5;replace h6:=F.of h6;have R:=F.r;clear F
      change (cE60).wp _ _ _ _
      cases b37 with
      | false =>
       have fb37:=hb37;clear hb37
       simp only [dd_] at fb37
       refine wp_cond_false (x:=Code.skip) (y:=cE62) (eval_slot h33) ?_
       refine wp_exit ?_
       change (cE75).wp _ _ _ _
       refine wp_seq (x:=cE76) (y:=Code.ret) ?_
       change (Code.region 20 OE20 false).wp _ _ _ _
       refine reg_in (l:=[0,1]) rfl ?_
       have F:=fe_ R;clear R
       refine sv_ gE20_0 (yl6_ rfl (F.of h5) B18) fun a40 e=>?_
       have h44:=pt_ F e;replace F:=pu_ F e;clear e
       obtain ⟨w41,Y,hk,hB⟩:=ys6_ (o:=oE20_1) rfl (F.of h4) h44 B1
       replace K1:=kx_ hk K1 (Nat.not_lt.2 LK1_b1);replace B18:=bx_ hk B18 (Ne.symm Nb1_b18);clear B1;have B1:=hB;clear hB hk
       refine st_skip gE20_1 rfl (wanted_free rfl) Y ?_;clear Y
       refine st_end ?_
       replace h0:=F.of h0;replace h1:=F.of h1;replace h4:=F.of h4;replace h5:=F.of h5;replace h6:=F.of h6;replace h27:=F.of h27;replace h28:=F.of h28;replace h29:=F.of h29;replace h30:=F.of h30;replace h31:=F.of h31;replace h32:=F.of h32;replace h33:=F.of h33;clear h44;have R:=F.r;clear F
       change (Code.ret).wp _ _ _ _
       refine wp_ret ?_
       change bodyPost Try.prog Try.f48 (fun e w'=>WA (resW (powR a b)) W e w') .ret a40 w41
       refine ret_cell6 (fn:=Try.f48) rfl R h4 B1 ?_
       first
        | exact (show WA (resW (powR a b)) W _ _ by rw [pow_end' hbig hin hj (by omega),resW_n];exact ⟨az,cz,rfl,fun V _=>hzero _ _ _,K1⟩)
        | exact (show WA (resW (powR a b)) W _ _ by rw [pow_one1 (by assumption),resW_n];exact ⟨none,0,rfl,own_zero,K1⟩)
        | exact (show WA (resW (powR a b)) W _ _ by rw [pow_m1 (by assumption),if_pos (by assumption),resW_n];exact ⟨none,0,rfl,own_zero,K1⟩)
        | exact (show WA (resW (powR a b)) W _ _ by rw [pow_m1 (by assumption),if_neg (by assumption),resW_n];exact ⟨none,0,rfl,own_zero,K1⟩)
        | exact (show WA (resW (powR a b)) W _ _ by rw [pow_zero' (by assumption),resW_n];exact ⟨none,0,rfl,own_zero,K1⟩)
        | exact (show WA (resW (powR a b)) W _ _ by rw [pow_0 (by assumption) (by assumption) (by assumption),resW_n];exact ⟨none,0,rfl,own_zero,K1⟩)
      | true =>
       have fb37:=hb37;clear hb37
       simp only [dd_] at fb37
       refine wp_cond_true (x:=Code.skip) (y:=cE62) (eval_slot h33) ?_
       refine wp_skip ?_
       change (cE63).wp _ _ _ _
       refine wp_seq (x:=cE64) (y:=cE74) ?_
       refine wp_block (id:=1) (c:=cE65) ?_
       refine wp_seq (x:=cE66) (y:=cE67) ?_
       change (Code.region 17 OE17 false).wp _ _ _ _
       refine reg_in (l:=[0,1,2,3,4]) rfl ?_
       have F:=fe_ R;clear R
       have Y:(execOp a39.eval oE17_0).run Try.prog w24=.ok (.value (.pointer (some ⟨b18,0,none⟩))) w24:=by have r5:=F.of h5;unfold oE17_0;go_simp
       refine sw_ gE17_0 Y F fun a42 F h36=>?_;clear Y
       have Y:(execOp a42.eval oE17_1).run Try.prog w24=.ok (.value (.int .i64 (a ^ j))) w24:=by have qq0:w24.cell? ⟨b18,0,none⟩=some (.int .i64 (a ^ j)):=B18.cell 0;have qq1:w24.cell? ⟨b18,1,none⟩=some (.int .i64 zeroT.k):=B18.cell 1;have qq2:w24.cell? ⟨b18,2,none⟩=some (.string (str zeroT.nm)):=B18.cell 2;have qq3:w24.cell? ⟨b18,3,none⟩=some (.int .i64 zeroT.i):=B18.cell 3;have qq4:w24.cell? ⟨b18,4,none⟩=some (.slice az zeroT.args.length cz):=B18.cell 4;have qq5:w24.cell? ⟨b18,5,none⟩=some (.bool true):=B18.cell 5;unfold oE17_1;go_simp
       refine sv_ gE17_1 Y fun a43 e=>?_;clear Y
       have h37:=pt_ F e;replace F:=pu_ F e;replace h36:=so_ e h36;clear e
       refine sv_ gE17_2 (ym_ rfl (F.of h0)) fun a44 e=>?_
       have h38:=pt_ F e;replace F:=pu_ F e;replace h36:=so_ e h36;replace h37:=so_ e h37;clear e
       have hca:=rmul_any w24 (a:=a ^ j) (b:=a) hin HA.out
       rw [← Int.pow_succ] at hca;obtain ⟨kz,hkz⟩:∃ q,(resW (big (a ^ (j + 1)))).k=q:=⟨_,rfl⟩
       unfold WA wv at hca;rw [hkz] at hca;have HKZ:=Lib.hid hkz;clear hkz
       have UKX_b1:=B1.lt
       have UKX_b18:=B18.lt
       have HWKX:W.heap.size ≤ w24.heap.size:=K1.size
       refine st_call gE17_3 rfl (wanted_free rfl) (yc2_ enA48_45 rfl h37 h38) ((hca).mono ?_)
       rintro e9 w45 ⟨ax,cx,rfl,hx,kk⟩
       replace K1:=keep_onto K1 kk
       replace B1:=blk_on B1 kk
       replace B18:=blk_on B18 kk
       clear kk
       clear hca
       have HX:=Lib.hid hx;clear hx
       have KX:=Keep.refl (fun g=>w24.heap.size ≤ g∧g < w45.heap.size) w45
       refine ⟨_,rfl,fun a46 e=>?_⟩
       have h39:=pt_ F e;replace F:=pu_ F e;replace h36:=so_ e h36;replace h37:=so_ e h37;replace h38:=so_ e h38;clear e
       obtain ⟨w47,Y,hk,hB⟩:=ys6_ (o:=oE17_4) rfl (F.of h5) h39 B18
       replace K1:=kx_ hk K1 (Nat.not_lt.2 LK1_b18);replace KX:=kx_ hk KX (fun hx=>absurd hx.1 (Nat.not_le.2 UKX_b18));replace B1:=bx_ hk B1 Nb1_b18;clear B18;have B18:=hB;clear hB hk
       refine st_skip gE17_4 rfl (wanted_free rfl) Y ?_;clear Y
       refine st_end ?_
       replace h0:=F.of h0;replace h1:=F.of h1;replace h4:=F.of h4;replace h5:=F.of h5;replace h6:=F.of h6;replace h27:=F.of h27;replace h28:=F.of h28;replace h29:=F.of h29;replace h30:=F.of h30;replace h31:=F.of h31;replace h32:=F.of h32;replace h33:=F.of h33;have R:=F.r;clear F
       change (cE67).wp _ _ _ _
       refine wp_seq (x:=cE68) (y:=cE69) ?_
       change (Code.region 18 OE18 false).wp _ _ _ _
       refine reg_in (l:=[0,1,2]) rfl ?_
       have F:=fe_ R;clear R
       have Y:(execOp a46.eval oE18_0).run Try.prog w47=.ok (.value (.pointer (some ⟨b18,5,none⟩))) w47:=by have r5:=F.of h5;unfold oE18_0;go_simp
       refine sw_ gE18_0 Y F fun a48 F h40=>?_;clear Y
       have Y:(execOp a48.eval oE18_1).run Try.prog w47=.ok (.value (.bool kz)) w47:=by have qq0:w47.cell? ⟨b18,0,none⟩=some (.int .i64 ((resW (big (a ^ (j + 1)))).v)):=B18.cell 0;have qq1:w47.cell? ⟨b18,1,none⟩=some (.int .i64 ((resW (big (a ^ (j + 1)))).b.k)):=B18.cell 1;have qq2:w47.cell? ⟨b18,2,none⟩=some (.string (str (resW (big (a ^ (j + 1)))).b.nm)):=B18.cell 2;have qq3:w47.cell? ⟨b18,3,none⟩=some (.int .i64 ((resW (big (a ^ (j + 1)))).b.i)):=B18.cell 3;have qq4:w47.cell? ⟨b18,4,none⟩=some (.slice ax (resW (big (a ^ (j + 1)))).b.args.length cx):=B18.cell 4;have qq5:w47.cell? ⟨b18,5,none⟩=some (.bool kz):=B18.cell 5;unfold oE18_1;go_simp
       refine sv_ gE18_1 Y fun a49 e=>?_;clear Y
       have h41:=pt_ F e;replace F:=pu_ F e;replace h40:=so_ e h40;clear e
       cases kz with
       | false =>
        have Y:(execOp a49.eval oE18_2).run Try.prog w47=.ok (.value (.bool true)) w47:=by unfold oE18_2;go_simp
        refine sv_ gE18_2 Y fun a50 e=>?_;clear Y
        have h42:=pt_ F e;replace F:=pu_ F e;replace h40:=so_ e h40;replace h41:=so_ e h41;clear e
        refine st_end ?_
        replace h0:=F.of h0;replace h1:=F.of h1;replace h4:=F.of h4;replace h5:=F.of h5;replace h6:=F.of h6;replace h27:=F.of h27;replace h28:=F.of h28;replace h29:=F.of h29;replace h30:=F.of h30;replace h31:=F.of h31;replace h32:=F.of h32;replace h33:=F.of h33;replace h36:=F.of h36;replace h37:=F.of h37;replace h38:=F.of h38;replace h39:=F.of h39;have R:=F.r;clear F
        change (cE69).wp _ _ _ _
        refine wp_cond_true (x:=cE70) (y:=Code.skip) (eval_slot h42) ?_
        refine wp_seq (x:=cE71) (y:=Code.ret) ?_
        change (Code.region 19 OE19 false).wp _ _ _ _
        refine reg_in (l:=[0,1]) rfl ?_
        have F:=fe_ R;clear R
        refine sv_ gE19_0 (yl6_ rfl (F.of h5) B18) fun a51 e=>?_
        have h43:=pt_ F e;replace F:=pu_ F e;clear e
        obtain ⟨w52,Y,hk,hB⟩:=ys6_ (o:=oE19_1) rfl (F.of h4) h43 B1
        replace K1:=kx_ hk K1 (Nat.not_lt.2 LK1_b1);replace KX:=kx_ hk KX (fun hx=>absurd hx.1 (Nat.not_le.2 UKX_b1));replace B18:=bx_ hk B18 (Ne.symm Nb1_b18);clear B1;have B1:=hB;clear hB hk
        refine st_skip gE19_1 rfl (wanted_free rfl) Y ?_;clear Y
        refine st_end ?_
        replace h0:=F.of h0;replace h1:=F.of h1;replace h4:=F.of h4;replace h5:=F.of h5;replace h6:=F.of h6;replace h27:=F.of h27;replace h28:=F.of h28;replace h29:=F.of h29;replace h30:=F.of h30;replace h31:=F.of h31;replace h32:=F.of h32;replace h33:=F.of h33;replace h36:=F.of h36;replace h37:=F.of h37;replace h38:=F.of h38;replace h39:=F.of h39;replace h40:=F.of h40;replace h41:=F.of h41;replace h42:=F.of h42;have R:=F.r;clear F
        change (Code.ret).wp _ _ _ _
        refine wp_ret ?_
        change bodyPost Try.prog Try.f48 (fun e w'=>WA (resW (powR a b)) W e w') .ret a51 w52
        refine ret_cell6 (fn:=Try.f48) rfl R h4 B1 ?_
        exact (show WA (resW (powR a b)) W _ _ by rw [show resW (powR a b)=resW (big (a ^ (j + 1))) by rw [pow_fail hbig (res_no HKZ.out) (by assumption),big_not (res_no HKZ.out)]];exact ⟨ax,cx,by unfold wv;rw [HKZ.out],(HX.out.on KX).up HWKX,K1⟩)
       | true =>
        have Y:(execOp a49.eval oE18_2).run Try.prog w47=.ok (.value (.bool false)) w47:=by unfold oE18_2;go_simp
        refine sv_ gE18_2 Y fun a53 e=>?_;clear Y
        have h42:=pt_ F e;replace F:=pu_ F e;replace h40:=so_ e h40;replace h41:=so_ e h41;clear e
        refine st_end ?_
        replace h0:=F.of h0;replace h1:=F.of h1;replace h4:=F.of h4;replace h5:=F.of h5;replace h6:=F.of h6;replace h27:=F.of h27;replace h28:=F.of h28;replace h29:=F.of h29;replace h30:=F.of h30;replace h31:=F.of h31;replace h32:=F.of h32;replace h33:=F.of h33;replace h36:=F.of h36;replace h37:=F.of h37;replace h38:=F.of h38;replace h39:=F.of h39;have R:=F.r;clear F
        change (cE69).wp _ _ _ _
        refine wp_cond_false (x:=cE70) (y:=Code.skip) (eval_slot h42) ?_
        refine wp_skip ?_
        change (cE74).wp _ _ _ _
        change (Code.region 16 OE16 false).wp _ _ _ _
        refine reg_in (l:=[0,1,2]) rfl ?_
        have F:=fe_ R;clear R
        refine sw_ gE16_0 (ym_ rfl (F.of h6)) F fun a54 F h34=>?_
        have Y:(execOp a54.eval oE16_1).run Try.prog w47=.ok (.value (.int .i64 ((j:Int) + 1))) w47:=by have hwj:IntKind.i64.wrap ((j:Int) + 1)=(j:Int) + 1:=(by rw [IntKind.wrap_i64];omega);unfold oE16_1;go_simp
        refine sv_ gE16_1 Y fun a55 e=>?_;clear Y
        have h35:=pt_ F e;replace F:=pu_ F e;replace h34:=so_ e h34;clear e
        refine sv_ gE16_2 (ya_ rfl h35) fun a56 e=>?_
        clear h6;have h6:=pt_ F e;replace F:=pu_ F e;replace h34:=so_ e h34;replace h35:=so_ e h35;clear e
        refine st_end ?_
        replace h0:=F.of h0;replace h1:=F.of h1;replace h4:=F.of h4;replace h5:=F.of h5;replace h27:=F.of h27;replace h28:=F.of h28;replace h29:=F.of h29;replace h30:=F.of h30;replace h31:=F.of h31;replace h32:=F.of h32;replace h33:=F.of h33;replace h36:=F.of h36;replace h37:=F.of h37;replace h38:=F.of h38;replace h39:=F.of h39;replace h40:=F.of h40;replace h41:=F.of h41;replace h42:=F.of h42;have R:=F.r;clear F
        obtain ⟨hz9,hrw⟩:=res_k HKZ.out
        rw [hrw] at B18
        exact ⟨_,(by omega),j + 1,ax,cx,rfl,R,h0,h1,h4,h5,h6,K1,B1,B18,(by omega),(by omega),hz9⟩
    | true =>
     have fb14:=hb14;clear hb14
     simp only [dd_] at fb14
     refine wp_cond_true (x:=cE38) (y:=Code.skip) (eval_slot h21) ?_
     refine wp_seq (x:=cE39) (y:=cE46) ?_
     refine wp_seq (x:=cE40) (y:=cE41) ?_
     change (Code.region 10 OE10 false).wp _ _ _ _
     refine reg_in (l:=[0,1]) rfl ?_
     have F:=fe_ R;clear R
     refine sw_ gE10_0 (ym_ rfl (F.of h1)) F fun a57 F h22=>?_
     obtain ⟨b58,hb58⟩:∃ x,(((b:Int) == (0:Int)))=x:=⟨_,rfl⟩
     have Y:(execOp a57.eval oE10_1).run Try.prog w2=.ok (.value (.bool b58)) w2:=by rw [← hb58];unfold oE10_1;go_simp
     refine sw_ gE10_1 Y F fun a59 F h23=>?_;clear Y h22
     refine st_end ?_
     replace h0:=F.of h0;replace h1:=F.of h1;replace h4:=F.of h4;clear h21;have R:=F.r;clear F
     change (cE41).wp _ _ _ _
     cases b58 with
     | false =>
      have fb58:=hb58;clear hb58
      simp only [dd_] at fb58
      refine wp_cond_false (x:=cE42) (y:=Code.skip) (eval_slot h23) ?_
      refine wp_skip ?_
      change (cE46).wp _ _ _ _
      refine wp_seq (x:=cE47) (y:=Code.ret) ?_
      change (Code.region 12 OE12 false).wp _ _ _ _
      refine reg_in (l:=[0,1]) rfl ?_
      have F:=fe_ R;clear R
      have Y:(execOp a59.eval oE12_0).run Try.prog w2=.ok (.enter 31 #[.int .i64 0]) w2:=by unfold oE12_0;go_simp
      refine st_call gE12_0 rfl (wanted_free rfl) Y ((of_any _ (0)).mono ?_);clear Y
      rintro e9 w60 ⟨rfl,kk⟩
      replace K1:=keep_onto K1 kk
      replace B1:=blk_on B1 kk
      clear kk
      refine ⟨_,rfl,fun a61 e=>?_⟩
      have h25:=pt_ F e;replace F:=pu_ F e;clear e
      obtain ⟨w62,Y,hk,hB⟩:=ys6_ (o:=oE12_1) rfl (F.of h4) h25 B1
      replace K1:=kx_ hk K1 (Nat.not_lt.2 LK1_b1);clear B1;have B1:=hB;clear hB hk
      refine st_skip gE12_1 rfl (wanted_free rfl) Y ?_;clear Y
      refine st_end ?_
      replace h0:=F.of h0;replace h1:=F.of h1;replace h4:=F.of h4;clear h23;clear h25;have R:=F.r;clear F
      change (Code.ret).wp _ _ _ _
      refine wp_ret ?_
      change bodyPost Try.prog Try.f48 (fun e w'=>WA (resW (powR a b)) W e w') .ret a61 w62
      refine ret_cell6 (fn:=Try.f48) rfl R h4 B1 ?_
      first
       | exact (show WA (resW (powR a b)) W _ _ by rw [pow_end' hbig hin hj (by omega),resW_n];exact ⟨az,cz,rfl,fun V _=>hzero _ _ _,K1⟩)
       | exact (show WA (resW (powR a b)) W _ _ by rw [pow_one1 (by assumption),resW_n];exact ⟨none,0,rfl,own_zero,K1⟩)
       | exact (show WA (resW (powR a b)) W _ _ by rw [pow_m1 (by assumption),if_pos (by assumption),resW_n];exact ⟨none,0,rfl,own_zero,K1⟩)
       | exact (show WA (resW (powR a b)) W _ _ by rw [pow_m1 (by assumption),if_neg (by assumption),resW_n];exact ⟨none,0,rfl,own_zero,K1⟩)
       | exact (show WA (resW (powR a b)) W _ _ by rw [pow_zero' (by assumption),resW_n];exact ⟨none,0,rfl,own_zero,K1⟩)
       | exact (show WA (resW (powR a b)) W _ _ by rw [pow_0 (by assumption) (by assumption) (by assumption),resW_n];exact ⟨none,0,rfl,own_zero,K1⟩)
     | true =>
      have fb58:=hb58;clear hb58
      simp only [dd_] at fb58
      refine wp_cond_true (x:=cE42) (y:=Code.skip) (eval_slot h23) ?_
      refine wp_seq (x:=cE43) (y:=Code.ret) ?_
      change (Code.region 11 OE11 false).wp _ _ _ _
      refine reg_in (l:=[0,1]) rfl ?_
      have F:=fe_ R;clear R
      have Y:(execOp a59.eval oE11_0).run Try.prog w2=.ok (.enter 31 #[.int .i64 1]) w2:=by unfold oE11_0;go_simp
      refine st_call gE11_0 rfl (wanted_free rfl) Y ((of_any _ (1)).mono ?_);clear Y
      rintro e9 w63 ⟨rfl,kk⟩
      replace K1:=keep_onto K1 kk
      replace B1:=blk_on B1 kk
      clear kk
      refine ⟨_,rfl,fun a64 e=>?_⟩
      have h24:=pt_ F e;replace F:=pu_ F e;clear e
      obtain ⟨w65,Y,hk,hB⟩:=ys6_ (o:=oE11_1) rfl (F.of h4) h24 B1
      replace K1:=kx_ hk K1 (Nat.not_lt.2 LK1_b1);clear B1;have B1:=hB;clear hB hk
      refine st_skip gE11_1 rfl (wanted_free rfl) Y ?_;clear Y
      refine st_end ?_
      replace h0:=F.of h0;replace h1:=F.of h1;replace h4:=F.of h4;clear h23;clear h24;have R:=F.r;clear F
      change (Code.ret).wp _ _ _ _
      refine wp_ret ?_
      change bodyPost Try.prog Try.f48 (fun e w'=>WA (resW (powR a b)) W e w') .ret a64 w65
      refine ret_cell6 (fn:=Try.f48) rfl R h4 B1 ?_
      first
       | exact (show WA (resW (powR a b)) W _ _ by rw [pow_end' hbig hin hj (by omega),resW_n];exact ⟨az,cz,rfl,fun V _=>hzero _ _ _,K1⟩)
       | exact (show WA (resW (powR a b)) W _ _ by rw [pow_one1 (by assumption),resW_n];exact ⟨none,0,rfl,own_zero,K1⟩)
       | exact (show WA (resW (powR a b)) W _ _ by rw [pow_m1 (by assumption),if_pos (by assumption),resW_n];exact ⟨none,0,rfl,own_zero,K1⟩)
       | exact (show WA (resW (powR a b)) W _ _ by rw [pow_m1 (by assumption),if_neg (by assumption),resW_n];exact ⟨none,0,rfl,own_zero,K1⟩)
       | exact (show WA (resW (powR a b)) W _ _ by rw [pow_zero' (by assumption),resW_n];exact ⟨none,0,rfl,own_zero,K1⟩)
       | exact (show WA (resW (powR a b)) W _ _ by rw [pow_0 (by assumption) (by assumption) (by assumption),resW_n];exact ⟨none,0,rfl,own_zero,K1⟩)
   | true =>
    have fb11:=hb11;clear hb11
    simp only [dd_] at fb11
    refine wp_cond_true (x:=cE30) (y:=Code.skip) (eval_slot h18) ?_
    refine wp_seq (x:=cE31) (y:=Code.ret) ?_
    change (Code.region 8 OE8 false).wp _ _ _ _
    refine reg_in (l:=[0,1]) rfl ?_
    have F:=fe_ R;clear R
    have Y:(execOp a12.eval oE8_0).run Try.prog w2=.ok (.enter 59 #[.string (⟨#[117,110,100,101,102,105,110,101,100]⟩)]) w2:=by unfold oE8_0;go_simp
    have hca:=fails_any (W:=w2) (s:=fUndef) (by decide)
    have UKX_b1:=B1.lt
    have HWKX:W.heap.size ≤ w2.heap.size:=K1.size
    refine st_call gE8_0 rfl (wanted_free rfl) Y ((hca).mono ?_);clear Y
    rintro e9 w66 ⟨ax,cx,rfl,hx,kk⟩
    replace K1:=keep_onto K1 kk
    replace B1:=blk_on B1 kk
    clear kk
    clear hca
    have HX:=Lib.hid hx;clear hx
    have KX:=Keep.refl (fun g=>w2.heap.size ≤ g∧g < w66.heap.size) w66
    refine ⟨_,rfl,fun a67 e=>?_⟩
    have h19:=pt_ F e;replace F:=pu_ F e;clear e
    obtain ⟨w68,Y,hk,hB⟩:=ys6_ (o:=oE8_1) rfl (F.of h4) h19 B1
    replace K1:=kx_ hk K1 (Nat.not_lt.2 LK1_b1);replace KX:=kx_ hk KX (fun hx=>absurd hx.1 (Nat.not_le.2 UKX_b1));clear B1;have B1:=hB;clear hB hk
    refine st_skip gE8_1 rfl (wanted_free rfl) Y ?_;clear Y
    refine st_end ?_
    replace h0:=F.of h0;replace h1:=F.of h1;replace h4:=F.of h4;clear h18;clear h19;have R:=F.r;clear F
    change (Code.ret).wp _ _ _ _
    refine wp_ret ?_
    change bodyPost Try.prog Try.f48 (fun e w'=>WA (resW (powR a b)) W e w') .ret a67 w68
    refine ret_cell6 (fn:=Try.f48) rfl R h4 B1 ?_
    exact (show WA (resW (powR a b)) W _ _ by rw [pow_undef (by omega) (by omega) (by omega),resW_u];exact ⟨ax,cx,rfl,(HX.out.on KX).up HWKX,K1⟩)
  | true =>
   have fb8:=hb8;clear hb8
   simp only [dd_] at fb8
   refine wp_cond_true (x:=cE14) (y:=Code.skip) (eval_slot h11) ?_
   refine wp_seq (x:=cE15) (y:=cE22) ?_
   refine wp_seq (x:=cE16) (y:=cE17) ?_
   change (Code.region 4 OE4 false).wp _ _ _ _
   refine reg_in (l:=[0,1,2]) rfl ?_
   have F:=fe_ R;clear R
   refine sw_ gE4_0 (ym_ rfl (F.of h1)) F fun a69 F h12=>?_
   have Y:(execOp a69.eval oE4_1).run Try.prog w2=.ok (.value (.int .i64 (b % 2))) w2:=by have h8:=and_one b;unfold oE4_1;go_simp
   refine sw_ gE4_1 Y F fun a70 F h13=>?_;clear Y h12
   obtain ⟨b71,hb71⟩:∃ x,(((b % 2:Int) == (0:Int)))=x:=⟨_,rfl⟩
   have Y:(execOp a70.eval oE4_2).run Try.prog w2=.ok (.value (.bool b71)) w2:=by rw [← hb71];unfold oE4_2;go_simp
   refine sw_ gE4_2 Y F fun a72 F h14=>?_;clear Y h13
   refine st_end ?_
   replace h0:=F.of h0;replace h1:=F.of h1;replace h4:=F.of h4;clear h11;have R:=F.r;clear F
   change (cE17).wp _ _ _ _
   cases b71 with
   | false =>
    have fb71:=hb71;clear hb71
    simp only [dd_] at fb71
    refine wp_cond_false (x:=cE18) (y:=Code.skip) (eval_slot h14) ?_
    refine wp_skip ?_
    change (cE22).wp _ _ _ _
    refine wp_seq (x:=cE23) (y:=Code.ret) ?_
    change (Code.region 6 OE6 false).wp _ _ _ _
    refine reg_in (l:=[0,1]) rfl ?_
    have F:=fe_ R;clear R
    have Y:(execOp a72.eval oE6_0).run Try.prog w2=.ok (.enter 31 #[.int .i64 (-1)]) w2:=by unfold oE6_0;go_simp
    refine st_call gE6_0 rfl (wanted_free rfl) Y ((of_any _ (-1)).mono ?_);clear Y
    rintro e9 w73 ⟨rfl,kk⟩
    replace K1:=keep_onto K1 kk
    replace B1:=blk_on B1 kk
    clear kk
    refine ⟨_,rfl,fun a74 e=>?_⟩
    have h16:=pt_ F e;replace F:=pu_ F e;clear e
    obtain ⟨w75,Y,hk,hB⟩:=ys6_ (o:=oE6_1) rfl (F.of h4) h16 B1
    replace K1:=kx_ hk K1 (Nat.not_lt.2 LK1_b1);clear B1;have B1:=hB;clear hB hk
    refine st_skip gE6_1 rfl (wanted_free rfl) Y ?_;clear Y
    refine st_end ?_
    replace h0:=F.of h0;replace h1:=F.of h1;replace h4:=F.of h4;clear h14;clear h16;have R:=F.r;clear F
    change (Code.ret).wp _ _ _ _
    refine wp_ret ?_
    change bodyPost Try.prog Try.f48 (fun e w'=>WA (resW (powR a b)) W e w') .ret a74 w75
    refine ret_cell6 (fn:=Try.f48) rfl R h4 B1 ?_
    first
     | exact (show WA (resW (powR a b)) W _ _ by rw [pow_end' hbig hin hj (by omega),resW_n];exact ⟨az,cz,rfl,fun V _=>hzero _ _ _,K1⟩)
     | exact (show WA (resW (powR a b)) W _ _ by rw [pow_one1 (by assumption),resW_n];exact ⟨none,0,rfl,own_zero,K1⟩)
     | exact (show WA (resW (powR a b)) W _ _ by rw [pow_m1 (by assumption),if_pos (by assumption),resW_n];exact ⟨none,0,rfl,own_zero,K1⟩)
     | exact (show WA (resW (powR a b)) W _ _ by rw [pow_m1 (by assumption),if_neg (by assumption),resW_n];exact ⟨none,0,rfl,own_zero,K1⟩)
     | exact (show WA (resW (powR a b)) W _ _ by rw [pow_zero' (by assumption),resW_n];exact ⟨none,0,rfl,own_zero,K1⟩)
     | exact (show WA (resW (powR a b)) W _ _ by rw [pow_0 (by assumption) (by assumption) (by assumption),resW_n];exact ⟨none,0,rfl,own_zero,K1⟩)
   | true =>
    have fb71:=hb71;clear hb71
    simp only [dd_] at fb71
    refine wp_cond_true (x:=cE18) (y:=Code.skip) (eval_slot h14) ?_
    refine wp_seq (x:=cE19) (y:=Code.ret) ?_
    change (Code.region 5 OE5 false).wp _ _ _ _
    refine reg_in (l:=[0,1]) rfl ?_
    have F:=fe_ R;clear R
    have Y:(execOp a72.eval oE5_0).run Try.prog w2=.ok (.enter 31 #[.int .i64 1]) w2:=by unfold oE5_0;go_simp
    refine st_call gE5_0 rfl (wanted_free rfl) Y ((of_any _ (1)).mono ?_);clear Y
    rintro e9 w76 ⟨rfl,kk⟩
    replace K1:=keep_onto K1 kk
    replace B1:=blk_on B1 kk
    clear kk
    refine ⟨_,rfl,fun a77 e=>?_⟩
    have h15:=pt_ F e;replace F:=pu_ F e;clear e
    obtain ⟨w78,Y,hk,hB⟩:=ys6_ (o:=oE5_1) rfl (F.of h4) h15 B1
    replace K1:=kx_ hk K1 (Nat.not_lt.2 LK1_b1);clear B1;have B1:=hB;clear hB hk
    refine st_skip gE5_1 rfl (wanted_free rfl) Y ?_;clear Y
    refine st_end ?_
    replace h0:=F.of h0;replace h1:=F.of h1;replace h4:=F.of h4;clear h14;clear h15;have R:=F.r;clear F
    change (Code.ret).wp _ _ _ _
    refine wp_ret ?_
    change bodyPost Try.prog Try.f48 (fun e w'=>WA (resW (powR a b)) W e w') .ret a77 w78
    refine ret_cell6 (fn:=Try.f48) rfl R h4 B1 ?_
    first
     | exact (show WA (resW (powR a b)) W _ _ by rw [pow_end' hbig hin hj (by omega),resW_n];exact ⟨az,cz,rfl,fun V _=>hzero _ _ _,K1⟩)
     | exact (show WA (resW (powR a b)) W _ _ by rw [pow_one1 (by assumption),resW_n];exact ⟨none,0,rfl,own_zero,K1⟩)
     | exact (show WA (resW (powR a b)) W _ _ by rw [pow_m1 (by assumption),if_pos (by assumption),resW_n];exact ⟨none,0,rfl,own_zero,K1⟩)
     | exact (show WA (resW (powR a b)) W _ _ by rw [pow_m1 (by assumption),if_neg (by assumption),resW_n];exact ⟨none,0,rfl,own_zero,K1⟩)
     | exact (show WA (resW (powR a b)) W _ _ by rw [pow_zero' (by assumption),resW_n];exact ⟨none,0,rfl,own_zero,K1⟩)
     | exact (show WA (resW (powR a b)) W _ _ by rw [pow_0 (by assumption) (by assumption) (by assumption),resW_n];exact ⟨none,0,rfl,own_zero,K1⟩)
 | true =>
  have fb5:=hb5;clear hb5
  simp only [dd_] at fb5
  refine wp_cond_true (x:=cE6) (y:=Code.skip) (eval_slot h8) ?_
  refine wp_seq (x:=cE7) (y:=Code.ret) ?_
  change (Code.region 2 OE2 false).wp _ _ _ _
  refine reg_in (l:=[0,1]) rfl ?_
  have F:=fe_ R;clear R
  have Y:(execOp a6.eval oE2_0).run Try.prog w2=.ok (.enter 31 #[.int .i64 1]) w2:=by unfold oE2_0;go_simp
  refine st_call gE2_0 rfl (wanted_free rfl) Y ((of_any _ (1)).mono ?_);clear Y
  rintro e9 w79 ⟨rfl,kk⟩
  replace K1:=keep_onto K1 kk
  replace B1:=blk_on B1 kk
  clear kk
  refine ⟨_,rfl,fun a80 e=>?_⟩
  have h9:=pt_ F e;replace F:=pu_ F e;clear e
  obtain ⟨w81,Y,hk,hB⟩:=ys6_ (o:=oE2_1) rfl (F.of h4) h9 B1
  replace K1:=kx_ hk K1 (Nat.not_lt.2 LK1_b1);clear B1;have B1:=hB;clear hB hk
  refine st_skip gE2_1 rfl (wanted_free rfl) Y ?_;clear Y
  refine st_end ?_
  replace h0:=F.of h0;replace h1:=F.of h1;replace h4:=F.of h4;clear h8;clear h9;have R:=F.r;clear F
  change (Code.ret).wp _ _ _ _
  refine wp_ret ?_
  change bodyPost Try.prog Try.f48 (fun e w'=>WA (resW (powR a b)) W e w') .ret a80 w81
  refine ret_cell6 (fn:=Try.f48) rfl R h4 B1 ?_
  first
   | exact (show WA (resW (powR a b)) W _ _ by rw [pow_end' hbig hin hj (by omega),resW_n];exact ⟨az,cz,rfl,fun V _=>hzero _ _ _,K1⟩)
   | exact (show WA (resW (powR a b)) W _ _ by rw [pow_one1 (by assumption),resW_n];exact ⟨none,0,rfl,own_zero,K1⟩)
   | exact (show WA (resW (powR a b)) W _ _ by rw [pow_m1 (by assumption),if_pos (by assumption),resW_n];exact ⟨none,0,rfl,own_zero,K1⟩)
   | exact (show WA (resW (powR a b)) W _ _ by rw [pow_m1 (by assumption),if_neg (by assumption),resW_n];exact ⟨none,0,rfl,own_zero,K1⟩)
   | exact (show WA (resW (powR a b)) W _ _ by rw [pow_zero' (by assumption),resW_n];exact ⟨none,0,rfl,own_zero,K1⟩)
   | exact (show WA (resW (powR a b)) W _ _ by rw [pow_0 (by assumption) (by assumption) (by assumption),resW_n];exact ⟨none,0,rfl,own_zero,K1⟩)
theorem rpow_any (W:World) {a b:Int} (ha:inR a) (hb:inR b):Calls Try.prog 48 #[.int .i64 a,.int .i64 b] W fun e w'=>WA (resW (powR a b)) W e w':=by
  refine enter_sx Try.func48 bodyA48 rfl (by show (2:Nat) ≤ 45;decide) fun f0 R hs=>?_
  exact rpow_w R (hs 0 _ rfl) (hs 1 _ rfl) (Keep.refl _ W) (Lib.hid ha) (Lib.hid hb)
end Go.Proofs.Ytmgephleogiaoaa
