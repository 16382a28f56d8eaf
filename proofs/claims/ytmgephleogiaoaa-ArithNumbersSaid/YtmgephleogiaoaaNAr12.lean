/-
  What any term is worth; terms of an operation and two numbers. No condition but where the term lies.
-/
import Derived.Test.YtmgephleogiaoaaNAr11
namespace Go.Proofs.Ytmgephleogiaoaa
open Go.RowKit Go.Maps
set_option linter.unusedVariables false
set_option linter.unusedSimpArgs false
def evW (t:Tm):Wth:=if t.right=true then wo t else .bal zeroT
def opT (nm:List UInt8) (a b:Int):Tm:=.node 4 nm 0 [.node 2 [] a [],.node 2 [] b []]
def oA10_0_0:Oper:=⟨some 1,Op.box 24 (Operand.tmp 0),0, "arith.go:27",#[],none⟩
def oA10_0_1:Oper:=⟨some 2,Op.assign (Operand.const (Value.int IntKind.i64 0)),2, "arith.go:27",#[],none⟩
def oA10_0_2:Oper:=⟨some 3,Op.alloc 24,0, "arith.go:27",#[],none⟩
def oA10_0_3:Oper:=⟨some 4,Op.assign (Operand.const (Value.bool false)),4, "arith.go:27",#[ec_ 1],none⟩
def OA10_0:Array Oper:=List.toArray (oA10_0_0::oA10_0_1::oA10_0_2::oA10_0_3::[])
theorem gA10_0_0:OA10_0[0]? = some oA10_0_0:=rfl
theorem gA10_0_1:OA10_0[1]? = some oA10_0_1:=rfl
theorem gA10_0_2:OA10_0[2]? = some oA10_0_2:=rfl
theorem gA10_0_3:OA10_0[3]? = some oA10_0_3:=rfl
def cA10_1:Code:=Code.region 0 OA10_0 false
def oA10_1_0:Oper:=⟨some 5,Op.load 24 (Operand.tmp 1),24, "arith.go:28",#[],none⟩
def oA10_1_1:Oper:=⟨some 6,Op.call { callee:=Callee.value (Operand.func 26),args:=#[Operand.tmp 5],argTypes:=#[24] },48, "arith.go:28",#[ed_ 0],none⟩
def oA10_1_2:Oper:=⟨some 7,Op.binOp Go.BinOp.neq 48 (Operand.tmp 6) (Operand.const (Value.int IntKind.i64 0)) 48,4, "arith.go:28",#[ed_ 1],none⟩
def OA10_1:Array Oper:=List.toArray (oA10_1_0::oA10_1_1::oA10_1_2::[])
theorem gA10_1_0:OA10_1[0]? = some oA10_1_0:=rfl
theorem gA10_1_1:OA10_1[1]? = some oA10_1_1:=rfl
theorem gA10_1_2:OA10_1[2]? = some oA10_1_2:=rfl
def cA10_4:Code:=Code.region 1 OA10_1 false
def oA10_2_0:Oper:=⟨some 8,Op.build 24 #[],24, "arith.go:29",#[{ on:=1,ground:=Go.Ground.gcOnly Go.Departure.lateStores }],none⟩
def oA10_2_1:Oper:=⟨some 2,Op.assign (Operand.const (Value.int IntKind.i64 0)),2, "arith.go:29",#[{ on:=0,ground:=Go.Ground.textOnly Go.Departure.lateStores }],none⟩
def oA10_2_2:Oper:=⟨none,Op.store 24 (Operand.tmp 3) (Operand.tmp 8),0, "arith.go:29",#[ed_ 0,ec_ 1,ep_ 0,ep_ 1],none⟩
def oA10_2_3:Oper:=⟨some 4,Op.assign (Operand.const (Value.bool false)),4, "arith.go:29",#[ec_ 2,ep_ 0,ep_ 1,ep_ 2],none⟩
def OA10_2:Array Oper:=List.toArray (oA10_2_0::oA10_2_1::oA10_2_2::oA10_2_3::[])
theorem gA10_2_0:OA10_2[0]? = some oA10_2_0:=rfl
theorem gA10_2_1:OA10_2[1]? = some oA10_2_1:=rfl
theorem gA10_2_2:OA10_2[2]? = some oA10_2_2:=rfl
theorem gA10_2_3:OA10_2[3]? = some oA10_2_3:=rfl
def cA10_7:Code:=Code.region 2 OA10_2 false
def cA10_6:Code:=Code.seq cA10_7 Code.ret
def cA10_5:Code:=Code.cond (Operand.tmp 7) cA10_6 Code.skip
def cA10_3:Code:=Code.seq cA10_4 cA10_5
def oA10_3_0:Oper:=⟨some 9,Op.load 24 (Operand.tmp 1),24, "arith.go:31",#[],none⟩
def oA10_3_1:Oper:=⟨some 10,Op.call { callee:=Callee.value (Operand.func 27),args:=#[Operand.tmp 9],argTypes:=#[24] },26, "arith.go:31",#[ed_ 0],none⟩
def oA10_3_2:Oper:=⟨some 11,Op.extract (Operand.tmp 10) 0,2, "arith.go:31",#[ed_ 1],none⟩
def oA10_3_3:Oper:=⟨some 12,Op.extract (Operand.tmp 10) 1,24, "arith.go:31",#[ed_ 1],none⟩
def oA10_3_4:Oper:=⟨some 13,Op.extract (Operand.tmp 10) 2,4, "arith.go:31",#[ed_ 1],none⟩
def oA10_3_5:Oper:=⟨some 2,Op.assign (Operand.tmp 11),2, "arith.go:31",#[ed_ 2,ec_ 1,ep_ 0,ep_ 1,ep_ 2,ep_ 3,ep_ 4],none⟩
def oA10_3_6:Oper:=⟨none,Op.store 24 (Operand.tmp 3) (Operand.tmp 12),0, "arith.go:31",#[ed_ 3,ec_ 5,ep_ 0,ep_ 1,ep_ 2,ep_ 3,ep_ 4,ep_ 5],none⟩
def oA10_3_7:Oper:=⟨some 4,Op.assign (Operand.tmp 13),4, "arith.go:31",#[ed_ 4,ec_ 6,ep_ 0,ep_ 1,ep_ 2,ep_ 3,ep_ 4,ep_ 5,ep_ 6],none⟩
def OA10_3:Array Oper:=List.toArray (oA10_3_0::oA10_3_1::oA10_3_2::oA10_3_3::oA10_3_4::oA10_3_5::oA10_3_6::oA10_3_7::[])
theorem gA10_3_0:OA10_3[0]? = some oA10_3_0:=rfl
theorem gA10_3_1:OA10_3[1]? = some oA10_3_1:=rfl
theorem gA10_3_2:OA10_3[2]? = some oA10_3_2:=rfl
theorem gA10_3_3:OA10_3[3]? = some oA10_3_3:=rfl
theorem gA10_3_4:OA10_3[4]? = some oA10_3_4:=rfl
theorem gA10_3_5:OA10_3[5]? = some oA10_3_5:=rfl
theorem gA10_3_6:OA10_3[6]? = some oA10_3_6:=rfl
theorem gA10_3_7:OA10_3[7]? = some oA10_3_7:=rfl
def cA10_11:Code:=Code.region 3 OA10_3 false
def cA10_10:Code:=Code.seq cA10_11 Code.ret
def cA10_2:Code:=Code.seq cA10_3 cA10_10
def cA10_0:Code:=Code.seq cA10_1 cA10_2
theorem enA10_26:Enters Try.prog 26:=enters_of Try.func26 (by kernel_rfl) rfl
theorem enA10_27:Enters Try.prog 27:=enters_of Try.func27 (by kernel_rfl) rfl
theorem bodyA10:Try.f10.body=some cA10_0:=by kernel_rfl
set_option maxRecDepth 100000 in
set_option maxHeartbeats 4000000 in
theorem eval_r {W:World} {t:Tm} {a:Option Addr} {c:Nat} {f0:Act} {w0:World} (R:FrS 14 f0) (h0:f0.tmps[0]? = some (.agg #[.int .i64 t.k,.string (str t.nm),.int .i64 t.i,.slice a t.args.length c])) (K1:Keep (fun g=>g < W.heap.size) W w0)  (HT:Hid (TmAt W.heap.size W t a c)) (HR:Hid (t.right=true)):cA10_0.wp Try.prog (bodyPost Try.prog Try.f10 (fun e w'=>∃ a' c',e=.returned (.tuple #[.int .i64 (wo t).v,tv (wo t).b a' c',.bool (wo t).k])∧Own W.heap.size w' (wo t).b a' c'∧inR (wo t).v∧Keep (fun g=>g < W.heap.size) W w')) f0 w0:=by
 refine wp_seq (x:=cA10_1) (y:=cA10_2) ?_
 change (Code.region 0 OA10_0 false).wp _ _ _ _
 refine reg_in (l:=[0,1,2,3]) rfl ?_
 have F:=fe_ R;clear R
 have Y:(execOp f0.eval oA10_0_0).run Try.prog w0=.ok (.value (.pointer (some ⟨w0.heap.size,0,none⟩))) (w0.alloc (.cells #[.int .i64 t.k,.string (str t.nm),.int .i64 t.i,.slice a t.args.length c] 24)):=by have r0:=F.of h0;unfold oA10_0_0;go_simp
 have B1:=Blk.new w0 24 #[.int .i64 t.k,.string (str t.nm),.int .i64 t.i,.slice a t.args.length c]
 obtain ⟨w2,hw⟩:∃ x,x=w0.alloc (.cells #[.int .i64 t.k,.string (str t.nm),.int .i64 t.i,.slice a t.args.length c] 24):=⟨_,rfl⟩;rw [← hw] at Y B1
 obtain ⟨b1,hb⟩:∃ x,x=w0.heap.size:=⟨_,rfl⟩;rw [← hb] at Y B1
 have LK1_b1:=lk_ hb K1;replace K1:=ka_ hw K1;clear hw hb
 refine sw_ gA10_0_0 Y F fun a3 F h1=>?_;clear Y
 have Y:(execOp a3.eval oA10_0_1).run Try.prog w2=.ok (.value (.int .i64 0)) w2:=by unfold oA10_0_1;go_simp
 refine sv_ gA10_0_1 Y fun a4 e=>?_;clear Y
 have h2:=pt_ F e;replace F:=pu_ F e;replace h1:=so_ e h1;clear e
 have Y:(execOp a4.eval oA10_0_2).run Try.prog w2=.ok (.value (.pointer (some ⟨w2.heap.size,0,none⟩))) (w2.alloc (.cells #[.int .i64 0,.string (⟨#[]⟩),.int .i64 0,.slice none 0 0] 24)):=by unfold oA10_0_2;go_simp
 have B5:=Blk.new w2 24 #[.int .i64 0,.string (⟨#[]⟩),.int .i64 0,.slice none 0 0]
 obtain ⟨w6,hw⟩:∃ x,x=w2.alloc (.cells #[.int .i64 0,.string (⟨#[]⟩),.int .i64 0,.slice none 0 0] 24):=⟨_,rfl⟩;rw [← hw] at Y B5
 obtain ⟨b5,hb⟩:∃ x,x=w2.heap.size:=⟨_,rfl⟩;rw [← hb] at Y B5
 have Nb1_b5:=nb_ hb B1;replace B1:=ba_ hw B1;have LK1_b5:=lk_ hb K1;replace K1:=ka_ hw K1;clear hw hb
 refine sv_ gA10_0_2 Y fun a7 e=>?_;clear Y
 have h3:=pt_ F e;replace F:=pu_ F e;replace h1:=so_ e h1;replace h2:=so_ e h2;clear e
 have Y:(execOp a7.eval oA10_0_3).run Try.prog w6=.ok (.value (.bool false)) w6:=by unfold oA10_0_3;go_simp
 refine sv_ gA10_0_3 Y fun a8 e=>?_;clear Y
 have h4:=pt_ F e;replace F:=pu_ F e;replace h1:=so_ e h1;replace h2:=so_ e h2;replace h3:=so_ e h3;clear e
 refine st_end ?_
 clear h0;have R:=F.r;clear F
 change (cA10_2).wp _ _ _ _
 refine wp_seq (x:=cA10_3) (y:=cA10_10) ?_
 refine wp_seq (x:=cA10_4) (y:=cA10_5) ?_
 change (Code.region 1 OA10_1 false).wp _ _ _ _
 refine reg_in (l:=[0,1,2]) rfl ?_
 have F:=fe_ R;clear R
 refine sv_ gA10_1_0 (yl4_ rfl (F.of h1) B1) fun a9 e=>?_
 have h5:=pt_ F e;replace F:=pu_ F e;clear e
 refine st_call gA10_1_1 rfl (wanted_free rfl) (yc1_ enA10_26 rfl h5) ((check_t (HT.out.on K1) HR.out).mono ?_)
 rintro e9 w10 ⟨rfl,kk⟩
 replace K1:=keep_onto K1 kk
 replace B1:=blk_on B1 kk
 replace B5:=blk_on B5 kk
 clear kk
 refine ⟨_,rfl,fun a11 e=>?_⟩
 clear h5;have h6:=pt_ F e;replace F:=pu_ F e;clear e
 have Y:(execOp a11.eval oA10_1_2).run Try.prog w10=.ok (.value (.bool false)) w10:=by unfold oA10_1_2;go_simp
 refine sw_ gA10_1_2 Y F fun a12 F h7=>?_;clear Y h6
 refine st_end ?_
 replace h1:=F.of h1;replace h2:=F.of h2;replace h3:=F.of h3;replace h4:=F.of h4;have R:=F.r;clear F
 change (cA10_5).wp _ _ _ _
 refine wp_cond_false (x:=cA10_6) (y:=Code.skip) (eval_slot h7) ?_
 refine wp_skip ?_
 change (cA10_10).wp _ _ _ _
 refine wp_seq (x:=cA10_11) (y:=Code.ret) ?_
 change (Code.region 3 OA10_3 false).wp _ _ _ _
 refine reg_in (l:=[0,1,2,3,4,5,6,7]) rfl ?_
 have F:=fe_ R;clear R
 refine sv_ gA10_3_0 (yl4_ rfl (F.of h1) B1) fun a13 e=>?_
 have h9:=pt_ F e;replace F:=pu_ F e;clear e
 have hca:=worth_any t w10 a c (HT.out.on K1) (right_of.1 HR.out).1
 have UKX_b1:=B1.lt
 have UKX_b5:=B5.lt
 have HWKX:W.heap.size ≤ w10.heap.size:=K1.size
 refine st_call gA10_3_1 rfl (wanted_free rfl) (yc1_ enA10_27 rfl h9) ((hca).mono ?_)
 rintro e9 w14 ⟨ax,cx,rfl,hx,hiy,kk⟩
 replace K1:=keep_onto K1 kk
 replace B1:=blk_on B1 kk
 replace B5:=blk_on B5 kk
 clear kk
 clear hca;have HIY:=Lib.hid hiy;clear hiy
 have HX:=Lib.hid hx;clear hx
 have KX:=Keep.refl (fun g=>w10.heap.size ≤ g∧g < w14.heap.size) w14
 refine ⟨_,rfl,fun a15 e=>?_⟩
 clear h9;have h10:=pt_ F e;replace F:=pu_ F e;clear e
 refine sv_ gA10_3_2 (ye30_ rfl h10) fun a16 e=>?_
 have h11:=pt_ F e;replace F:=pu_ F e;replace h10:=so_ e h10;clear e
 refine sv_ gA10_3_3 (ye31_ rfl h10) fun a17 e=>?_
 have h12:=pt_ F e;replace F:=pu_ F e;replace h10:=so_ e h10;replace h11:=so_ e h11;clear e
 refine sv_ gA10_3_4 (ye32_ rfl h10) fun a18 e=>?_
 clear h10;have h13:=pt_ F e;replace F:=pu_ F e;replace h11:=so_ e h11;replace h12:=so_ e h12;clear e
 refine sv_ gA10_3_5 (ya_ rfl h11) fun a19 e=>?_
 clear h11 h2;have h2:=pt_ F e;replace F:=pu_ F e;replace h12:=so_ e h12;replace h13:=so_ e h13;clear e
 obtain ⟨w20,Y,hk,hB⟩:=ys4_ (o:=oA10_3_6) rfl (F.of h3) h12 B5
 replace K1:=kx_ hk K1 (Nat.not_lt.2 LK1_b5);replace KX:=kx_ hk KX (fun hx=>absurd hx.1 (Nat.not_le.2 UKX_b5));replace B1:=bx_ hk B1 Nb1_b5;clear B5;have B5:=hB;clear hB hk
 refine st_skip gA10_3_6 rfl (wanted_free rfl) Y ?_;clear Y
 refine sv_ gA10_3_7 (ya_ rfl h13) fun a21 e=>?_
 clear h12 h13 h4;have h4:=pt_ F e;replace F:=pu_ F e;replace h2:=so_ e h2;clear e
 refine st_end ?_
 clear h1;replace h3:=F.of h3;clear h7;have R:=F.r;clear F
 change (Code.ret).wp _ _ _ _
 refine wp_ret ?_
 change bodyPost Try.prog Try.f10 (fun e w'=>∃ a' c',e=.returned (.tuple #[.int .i64 (wo t).v,tv (wo t).b a' c',.bool (wo t).k])∧Own W.heap.size w' (wo t).b a' c'∧inR (wo t).v∧Keep (fun g=>g < W.heap.size) W w') .ret a21 w20
 refine ret_tct (fn:=Try.f10) rfl R h2 h3 h4 B5 ?_
 exact ⟨ax,cx,rfl,(HX.out.on KX).up HWKX,HIY.out,K1⟩
set_option maxRecDepth 100000 in
set_option maxHeartbeats 4000000 in
theorem eval_w {W:World} {t:Tm} {a:Option Addr} {c:Nat} {f0:Act} {w0:World} (R:FrS 14 f0) (h0:f0.tmps[0]? = some (.agg #[.int .i64 t.k,.string (str t.nm),.int .i64 t.i,.slice a t.args.length c])) (K1:Keep (fun g=>g < W.heap.size) W w0)  (HT:Hid (TmAt W.heap.size W t a c)) (HR:Hid (t.right=false)):cA10_0.wp Try.prog (bodyPost Try.prog Try.f10 (fun e w'=>∃ a' c',e=.returned (.tuple #[.int .i64 (Wth.bal zeroT).v,tv (Wth.bal zeroT).b a' c',.bool (Wth.bal zeroT).k])∧Own W.heap.size w' (Wth.bal zeroT).b a' c'∧inR (Wth.bal zeroT).v∧Keep (fun g=>g < W.heap.size) W w')) f0 w0:=by
 refine wp_seq (x:=cA10_1) (y:=cA10_2) ?_
 change (Code.region 0 OA10_0 false).wp _ _ _ _
 refine reg_in (l:=[0,1,2,3]) rfl ?_
 have F:=fe_ R;clear R
 have Y:(execOp f0.eval oA10_0_0).run Try.prog w0=.ok (.value (.pointer (some ⟨w0.heap.size,0,none⟩))) (w0.alloc (.cells #[.int .i64 t.k,.string (str t.nm),.int .i64 t.i,.slice a t.args.length c] 24)):=by have r0:=F.of h0;unfold oA10_0_0;go_simp
 have B22:=Blk.new w0 24 #[.int .i64 t.k,.string (str t.nm),.int .i64 t.i,.slice a t.args.length c]
 obtain ⟨w23,hw⟩:∃ x,x=w0.alloc (.cells #[.int .i64 t.k,.string (str t.nm),.int .i64 t.i,.slice a t.args.length c] 24):=⟨_,rfl⟩;rw [← hw] at Y B22
 obtain ⟨b22,hb⟩:∃ x,x=w0.heap.size:=⟨_,rfl⟩;rw [← hb] at Y B22
 have LK1_b22:=lk_ hb K1;replace K1:=ka_ hw K1;clear hw hb
 refine sw_ gA10_0_0 Y F fun a24 F h1=>?_;clear Y
 have Y:(execOp a24.eval oA10_0_1).run Try.prog w23=.ok (.value (.int .i64 0)) w23:=by unfold oA10_0_1;go_simp
 refine sv_ gA10_0_1 Y fun a25 e=>?_;clear Y
 have h2:=pt_ F e;replace F:=pu_ F e;replace h1:=so_ e h1;clear e
 have Y:(execOp a25.eval oA10_0_2).run Try.prog w23=.ok (.value (.pointer (some ⟨w23.heap.size,0,none⟩))) (w23.alloc (.cells #[.int .i64 0,.string (⟨#[]⟩),.int .i64 0,.slice none 0 0] 24)):=by unfold oA10_0_2;go_simp
 have B26:=Blk.new w23 24 #[.int .i64 0,.string (⟨#[]⟩),.int .i64 0,.slice none 0 0]
 obtain ⟨w27,hw⟩:∃ x,x=w23.alloc (.cells #[.int .i64 0,.string (⟨#[]⟩),.int .i64 0,.slice none 0 0] 24):=⟨_,rfl⟩;rw [← hw] at Y B26
 obtain ⟨b26,hb⟩:∃ x,x=w23.heap.size:=⟨_,rfl⟩;rw [← hb] at Y B26
 have Nb22_b26:=nb_ hb B22;replace B22:=ba_ hw B22;have LK1_b26:=lk_ hb K1;replace K1:=ka_ hw K1;clear hw hb
 refine sv_ gA10_0_2 Y fun a28 e=>?_;clear Y
 have h3:=pt_ F e;replace F:=pu_ F e;replace h1:=so_ e h1;replace h2:=so_ e h2;clear e
 have Y:(execOp a28.eval oA10_0_3).run Try.prog w27=.ok (.value (.bool false)) w27:=by unfold oA10_0_3;go_simp
 refine sv_ gA10_0_3 Y fun a29 e=>?_;clear Y
 have h4:=pt_ F e;replace F:=pu_ F e;replace h1:=so_ e h1;replace h2:=so_ e h2;replace h3:=so_ e h3;clear e
 refine st_end ?_
 clear h0;have R:=F.r;clear F
 change (cA10_2).wp _ _ _ _
 refine wp_seq (x:=cA10_3) (y:=cA10_10) ?_
 refine wp_seq (x:=cA10_4) (y:=cA10_5) ?_
 change (Code.region 1 OA10_1 false).wp _ _ _ _
 refine reg_in (l:=[0,1,2]) rfl ?_
 have F:=fe_ R;clear R
 refine sv_ gA10_1_0 (yl4_ rfl (F.of h1) B22) fun a30 e=>?_
 have h5:=pt_ F e;replace F:=pu_ F e;clear e
 refine st_call gA10_1_1 rfl (wanted_free rfl) (yc1_ enA10_26 rfl h5) ((check_f (HT.out.on K1) HR.out).mono ?_)
 rintro e9 w31 ⟨rfl,kk⟩
 replace K1:=keep_onto K1 kk
 replace B22:=blk_on B22 kk
 replace B26:=blk_on B26 kk
 clear kk
 refine ⟨_,rfl,fun a32 e=>?_⟩
 clear h5;have h6:=pt_ F e;replace F:=pu_ F e;clear e
 have Y:(execOp a32.eval oA10_1_2).run Try.prog w31=.ok (.value (.bool true)) w31:=by unfold oA10_1_2;go_simp
 refine sw_ gA10_1_2 Y F fun a33 F h7=>?_;clear Y h6
 refine st_end ?_
 replace h1:=F.of h1;replace h2:=F.of h2;replace h3:=F.of h3;replace h4:=F.of h4;have R:=F.r;clear F
 change (cA10_5).wp _ _ _ _
 refine wp_cond_true (x:=cA10_6) (y:=Code.skip) (eval_slot h7) ?_
 refine wp_seq (x:=cA10_7) (y:=Code.ret) ?_
 change (Code.region 2 OA10_2 false).wp _ _ _ _
 refine reg_in (l:=[0,1,2,3]) rfl ?_
 have F:=fe_ R;clear R
 have Y:(execOp a33.eval oA10_2_0).run Try.prog w31=.ok (.value (.agg #[.int .i64 0,.string (⟨#[]⟩),.int .i64 0,.slice none 0 0])) w31:=by unfold oA10_2_0;go_simp
 refine sw_ gA10_2_0 Y F fun a34 F h8=>?_;clear Y
 have Y:(execOp a34.eval oA10_2_1).run Try.prog w31=.ok (.value (.int .i64 0)) w31:=by unfold oA10_2_1;go_simp
 refine sv_ gA10_2_1 Y fun a35 e=>?_;clear Y
 clear h2;have h2:=pt_ F e;replace F:=pu_ F e;replace h8:=so_ e h8;clear e
 obtain ⟨w36,Y,hk,hB⟩:=ys4_ (o:=oA10_2_2) rfl (F.of h3) h8 B26
 replace K1:=kx_ hk K1 (Nat.not_lt.2 LK1_b26);replace B22:=bx_ hk B22 Nb22_b26;clear B26;have B26:=hB;clear hB hk
 refine st_skip gA10_2_2 rfl (wanted_free rfl) Y ?_;clear Y
 have Y:(execOp a35.eval oA10_2_3).run Try.prog w36=.ok (.value (.bool false)) w36:=by unfold oA10_2_3;go_simp
 refine sv_ gA10_2_3 Y fun a37 e=>?_;clear Y
 clear h8 h4;have h4:=pt_ F e;replace F:=pu_ F e;replace h2:=so_ e h2;clear e
 refine st_end ?_
 replace h1:=F.of h1;replace h3:=F.of h3;clear h7;have R:=F.r;clear F
 change (Code.ret).wp _ _ _ _
 refine wp_ret ?_
 change bodyPost Try.prog Try.f10 (fun e w'=>∃ a' c',e=.returned (.tuple #[.int .i64 (Wth.bal zeroT).v,tv (Wth.bal zeroT).b a' c',.bool (Wth.bal zeroT).k])∧Own W.heap.size w' (Wth.bal zeroT).b a' c'∧inR (Wth.bal zeroT).v∧Keep (fun g=>g < W.heap.size) W w') .ret a37 w36
 refine ret_tct (fn:=Try.f10) rfl R h2 h3 h4 B26 ?_
 exact ⟨none,0,rfl,own_zero,inR_0,K1⟩
theorem Eval_any {W:World} {t:Tm} {a:Option Addr} {c:Nat} (hT:TmAt W.heap.size W t a c):Calls Try.prog 10 #[tv t a c] W fun e w'=>∃ a' c',e=.returned (.tuple #[.int .i64 (evW t).v,tv (evW t).b a' c',.bool (evW t).k])∧Own W.heap.size w' (evW t).b a' c'∧inR (evW t).v∧Keep (fun g=>g < W.heap.size) W w':=by
  refine enter_sx Try.func10 bodyA10 rfl (by show (1:Nat) ≤ 14;decide) fun f0 R hs=>?_
  cases h:t.right with
  | true=>rw [show evW t=wo t from if_pos h];exact eval_r R (hs 0 _ rfl) (Keep.refl _ W) (Lib.hid hT) (Lib.hid h)
  | false=>rw [show evW t=.bal zeroT from if_neg (by rw [h];decide)];exact eval_w R (hs 0 _ rfl) (Keep.refl _ W) (Lib.hid hT) (Lib.hid h)
def oA14_0_0:Oper:=⟨some 6,Op.alloc 24,0, "law.go:12",#[],none⟩
def OA14_0:Array Oper:=List.toArray (oA14_0_0::[])
theorem gA14_0_0:OA14_0[0]? = some oA14_0_0:=rfl
def cA14_1:Code:=Code.region 0 OA14_0 false
def oA14_1_0:Oper:=⟨some 7,Op.move (Operand.tmp 0),9, "law.go:13",#[],none⟩
def oA14_1_1:Oper:=⟨some 8,Op.move (Operand.tmp 1),2, "law.go:13",#[],none⟩
def oA14_1_2:Oper:=⟨some 9,Op.call { callee:=Callee.value (Operand.func 16),args:=#[Operand.tmp 8],argTypes:=#[2] },24, "law.go:13",#[ed_ 1],none⟩
def oA14_1_3:Oper:=⟨some 10,Op.move (Operand.tmp 2),2, "law.go:13",#[],none⟩
def oA14_1_4:Oper:=⟨some 11,Op.call { callee:=Callee.value (Operand.func 16),args:=#[Operand.tmp 10],argTypes:=#[2] },24, "law.go:13",#[ed_ 3,ec_ 2],none⟩
def oA14_1_5:Oper:=⟨some 12,Op.buildSlice 22 2 #[(0,Operand.tmp 9),(1,Operand.tmp 11)],22, "law.go:13",#[ed_ 2,ed_ 4],none⟩
def oA14_1_6:Oper:=⟨some 13,Op.call { callee:=Callee.value (Operand.func 15),args:=#[Operand.tmp 7,Operand.tmp 12],argTypes:=#[9,22] },24, "law.go:13",#[ed_ 0,ed_ 5,ec_ 4],none⟩
def oA14_1_7:Oper:=⟨none,Op.store 24 (Operand.tmp 6) (Operand.tmp 13),0, "law.go:13",#[ed_ 6,ec_ 6,ep_ 0,ep_ 1,ep_ 2,ep_ 3,ep_ 4,ep_ 5,ep_ 6],none⟩
def OA14_1:Array Oper:=List.toArray (oA14_1_0::oA14_1_1::oA14_1_2::oA14_1_3::oA14_1_4::oA14_1_5::oA14_1_6::oA14_1_7::[])
theorem gA14_1_0:OA14_1[0]? = some oA14_1_0:=rfl
theorem gA14_1_1:OA14_1[1]? = some oA14_1_1:=rfl
theorem gA14_1_2:OA14_1[2]? = some oA14_1_2:=rfl
theorem gA14_1_3:OA14_1[3]? = some oA14_1_3:=rfl
theorem gA14_1_4:OA14_1[4]? = some oA14_1_4:=rfl
theorem gA14_1_5:OA14_1[5]? = some oA14_1_5:=rfl
theorem gA14_1_6:OA14_1[6]? = some oA14_1_6:=rfl
theorem gA14_1_7:OA14_1[7]? = some oA14_1_7:=rfl
def cA14_3:Code:=Code.region 1 OA14_1 false
def cA14_2:Code:=Code.seq cA14_3 Code.ret
def cA14_0:Code:=Code.seq cA14_1 cA14_2
theorem enA14_15:Enters Try.prog 15:=enters_of Try.func15 (by kernel_rfl) rfl
theorem enA14_16:Enters Try.prog 16:=enters_of Try.func16 (by kernel_rfl) rfl
theorem bodyA14:Try.f14.body=some cA14_0:=by kernel_rfl
set_option maxRecDepth 100000 in
set_option maxHeartbeats 4000000 in
theorem op_w {W:World} {nm:List UInt8} {i k:Int} {f0:Act} {w0:World} (R:FrS 14 f0) (h0:f0.tmps[0]? = some (.string (str nm))) (h1:f0.tmps[1]? = some (.int .i64 i)) (h2:f0.tmps[2]? = some (.int .i64 k)) (K1:Keep (fun g=>g < W.heap.size) W w0)  (HNM:Hid (nm.length ≤ maxLen)) (HI:Hid ((Lit.int .i64 i).wf=true∧(Lit.int .i64 k).wf=true)):cA14_0.wp Try.prog (bodyPost Try.prog Try.f14 (fun e w'=>∃ a' c',e=.returned (tv (opT nm i k) a' c')∧Own W.heap.size w' (opT nm i k) a' c'∧Keep (fun g=>g < W.heap.size) W w')) f0 w0:=by
 refine wp_seq (x:=cA14_1) (y:=cA14_2) ?_
 change (Code.region 0 OA14_0 false).wp _ _ _ _
 refine reg_in (l:=[0]) rfl ?_
 have F:=fe_ R;clear R
 have Y:(execOp f0.eval oA14_0_0).run Try.prog w0=.ok (.value (.pointer (some ⟨w0.heap.size,0,none⟩))) (w0.alloc (.cells #[.int .i64 0,.string (⟨#[]⟩),.int .i64 0,.slice none 0 0] 24)):=by unfold oA14_0_0;go_simp
 have B1:=Blk.new w0 24 #[.int .i64 0,.string (⟨#[]⟩),.int .i64 0,.slice none 0 0]
 obtain ⟨w2,hw⟩:∃ x,x=w0.alloc (.cells #[.int .i64 0,.string (⟨#[]⟩),.int .i64 0,.slice none 0 0] 24):=⟨_,rfl⟩;rw [← hw] at Y B1
 obtain ⟨b1,hb⟩:∃ x,x=w0.heap.size:=⟨_,rfl⟩;rw [← hb] at Y B1
 have LK1_b1:=lk_ hb K1;replace K1:=ka_ hw K1;clear hw hb
 refine sw_ gA14_0_0 Y F fun a3 F h6=>?_;clear Y
 refine st_end ?_
 replace h0:=F.of h0;replace h1:=F.of h1;replace h2:=F.of h2;have R:=F.r;clear F
 change (cA14_2).wp _ _ _ _
 refine wp_seq (x:=cA14_3) (y:=Code.ret) ?_
 change (Code.region 1 OA14_1 false).wp _ _ _ _
 refine reg_in (l:=[0,1,2,3,4,5,6,7]) rfl ?_
 have F:=fe_ R;clear R
 refine sw_ gA14_1_0 (ym_ rfl (F.of h0)) F fun a4 F h7=>?_
 refine sv_ gA14_1_1 (ym_ rfl (F.of h1)) fun a5 e=>?_
 have h8:=pt_ F e;replace F:=pu_ F e;replace h7:=so_ e h7;clear e
 refine st_call gA14_1_2 rfl (wanted_free rfl) (yc1_ enA14_16 rfl h8) ((refN_any _ i).mono ?_)
 rintro e9 w6 ⟨rfl,kk⟩
 replace K1:=keep_onto K1 kk
 replace B1:=blk_on B1 kk
 clear kk
 refine ⟨_,rfl,fun a7 e=>?_⟩
 clear h8;have h9:=pt_ F e;replace F:=pu_ F e;replace h7:=so_ e h7;clear e
 refine sv_ gA14_1_3 (ym_ rfl (F.of h2)) fun a8 e=>?_
 have h10:=pt_ F e;replace F:=pu_ F e;replace h7:=so_ e h7;replace h9:=so_ e h9;clear e
 refine st_call gA14_1_4 rfl (wanted_free rfl) (yc1_ enA14_16 rfl h10) ((refN_any _ k).mono ?_)
 rintro e9 w9 ⟨rfl,kk⟩
 replace K1:=keep_onto K1 kk
 replace B1:=blk_on B1 kk
 clear kk
 refine ⟨_,rfl,fun a10 e=>?_⟩
 clear h10;have h11:=pt_ F e;replace F:=pu_ F e;replace h7:=so_ e h7;replace h9:=so_ e h9;clear e
 have Y:(execOp a10.eval oA14_1_5).run Try.prog w9=.ok (.value (.slice (some ⟨w9.heap.size,0,none⟩) 2 2)) (w9.alloc (.cells #[.int .i64 ((Tm.node 2 [] i []).k),.string (str (Tm.node 2 [] i []).nm),.int .i64 ((Tm.node 2 [] i []).i),.slice none (Tm.node 2 [] i []).args.length 0,.int .i64 ((Tm.node 2 [] k []).k),.string (str (Tm.node 2 [] k []).nm),.int .i64 ((Tm.node 2 [] k []).i),.slice none (Tm.node 2 [] k []).args.length 0] 24)):=by unfold oA14_1_5;go_simp
 have B11:=Blk.new w9 24 #[.int .i64 ((Tm.node 2 [] i []).k),.string (str (Tm.node 2 [] i []).nm),.int .i64 ((Tm.node 2 [] i []).i),.slice none (Tm.node 2 [] i []).args.length 0,.int .i64 ((Tm.node 2 [] k []).k),.string (str (Tm.node 2 [] k []).nm),.int .i64 ((Tm.node 2 [] k []).i),.slice none (Tm.node 2 [] k []).args.length 0]
 obtain ⟨w12,hw⟩:∃ x,x=w9.alloc (.cells #[.int .i64 ((Tm.node 2 [] i []).k),.string (str (Tm.node 2 [] i []).nm),.int .i64 ((Tm.node 2 [] i []).i),.slice none (Tm.node 2 [] i []).args.length 0,.int .i64 ((Tm.node 2 [] k []).k),.string (str (Tm.node 2 [] k []).nm),.int .i64 ((Tm.node 2 [] k []).i),.slice none (Tm.node 2 [] k []).args.length 0] 24):=⟨_,rfl⟩;rw [← hw] at Y B11
 obtain ⟨b11,hb⟩:∃ x,x=w9.heap.size:=⟨_,rfl⟩;rw [← hb] at Y B11
 have Nb1_b11:=nb_ hb B1;replace B1:=ba_ hw B1;have LK1_b11:=lk_ hb K1;replace K1:=ka_ hw K1;clear hw hb
 refine sv_ gA14_1_5 Y fun a13 e=>?_;clear Y
 clear h9 h11;have h12:=pt_ F e;replace F:=pu_ F e;replace h7:=so_ e h7;clear e
 refine st_call gA14_1_6 rfl (wanted_free rfl) (yc2_ enA14_15 rfl h7 h12) ((refC_any _ nm [Tm.node 2 [] i [],Tm.node 2 [] k []] (some ⟨b11,0,none⟩) 2).mono ?_)
 rintro e9 w14 ⟨rfl,kk⟩
 replace K1:=keep_onto K1 kk
 replace B1:=blk_on B1 kk
 replace B11:=blk_on B11 kk
 clear kk
 refine ⟨_,rfl,fun a15 e=>?_⟩
 clear h7 h12;have h13:=pt_ F e;replace F:=pu_ F e;clear e
 obtain ⟨w16,Y,hk,hB⟩:=ys4_ (o:=oA14_1_7) rfl (F.of h6) h13 B1
 replace K1:=kx_ hk K1 (Nat.not_lt.2 LK1_b1);replace B11:=bx_ hk B11 (Ne.symm Nb1_b11);clear B1;have B1:=hB;clear hB hk
 refine st_skip gA14_1_7 rfl (wanted_free rfl) Y ?_;clear Y
 refine st_end ?_
 clear h0;clear h1;clear h2;replace h6:=F.of h6;clear h13;have R:=F.r;clear F
 change (Code.ret).wp _ _ _ _
 refine wp_ret ?_
 change bodyPost Try.prog Try.f14 (fun e w'=>∃ a' c',e=.returned (tv (opT nm i k) a' c')∧Own W.heap.size w' (opT nm i k) a' c'∧Keep (fun g=>g < W.heap.size) W w') .ret a15 w16
 refine ret_cell (fn:=Try.f14) rfl R h6 B1 ?_
 refine ⟨_,_,rfl,Own.comp (lo:=W.heap.size) (ps:=[(Tm.node 2 [] i [],none,0),(Tm.node 2 [] k [],none,0)]) B11 LK1_b11 (fun p hp=>?_) HNM.out (Nat.le_of_ble_eq_true rfl),K1⟩
 rcases List.mem_cons.1 hp with rfl | hp
 · exact .leaf (by decide) HI.out.1 (by decide)
 · rw [List.mem_singleton.1 hp];exact .leaf (by decide) HI.out.2 (by decide)
theorem opT_any {W:World} {nm:List UInt8} {i k:Int} (hn:nm.length ≤ maxLen) (hi:(Lit.int .i64 i).wf=true) (hk:(Lit.int .i64 k).wf=true):Calls Try.prog 14 #[.string (str nm),.int .i64 i,.int .i64 k] W fun e w'=>∃ a' c',e=.returned (tv (opT nm i k) a' c')∧Own W.heap.size w' (opT nm i k) a' c'∧Keep (fun g=>g < W.heap.size) W w':=by
  refine enter_sx Try.func14 bodyA14 rfl (by show (3:Nat) ≤ 14;decide) fun f0 R hs=>?_
  exact op_w R (hs 0 _ rfl) (hs 1 _ rfl) (hs 2 _ rfl) (Keep.refl _ W) (Lib.hid hn) (Lib.hid ⟨hi,hk⟩)
end Go.Proofs.Ytmgephleogiaoaa
