/-
  The ball of a formal term of a name and arguments; that of what is no function. No condition but where the terms lie.
-/
import Derived.Test.YtmgephleogiaoaaNAr8
namespace Go.Proofs.Ytmgephleogiaoaa
open Go.RowKit Go.Maps
set_option linter.unusedVariables false
set_option linter.unusedSimpArgs false
def faultT (nm:List UInt8) (ts:List Tm):Tm:=if ts=[] then .node 3 nm 0 [] else .node 4 nm 0 ts
theorem atomX (w:World) (nm:List UInt8):Calls Try.prog 38 #[.string (str nm)] w fun e w'=>e=.returned (tv (.node 3 nm 0 []) none 0)∧Keep (fun g=>g < w.heap.size) w w':=atom_any w nm
def o22_0_0:Oper:=⟨some 4,Op.alloc 24,0, "arith.go:19",#[],none⟩
def O22_0:Array Oper:=List.toArray (o22_0_0::[])
theorem g22_0_0:O22_0[0]? = some o22_0_0:=rfl
def c22_1:Code:=Code.region 0 O22_0 false
def o22_1_0:Oper:=⟨some 5,Op.move (Operand.tmp 1),22, "arith.go:20",#[],none⟩
def o22_1_1:Oper:=⟨some 6,Op.call { callee:=Callee.builtin Go.Builtin.len,args:=#[Operand.tmp 5],argTypes:=#[22] },3, "arith.go:20",#[ed_ 0],none⟩
def o22_1_2:Oper:=⟨some 7,Op.binOp Go.BinOp.eql 3 (Operand.tmp 6) (Operand.const (Value.int IntKind.i64 0)) 3,4, "arith.go:20",#[ed_ 1],none⟩
def O22_1:Array Oper:=List.toArray (o22_1_0::o22_1_1::o22_1_2::[])
theorem g22_1_0:O22_1[0]? = some o22_1_0:=rfl
theorem g22_1_1:O22_1[1]? = some o22_1_1:=rfl
theorem g22_1_2:O22_1[2]? = some o22_1_2:=rfl
def c22_4:Code:=Code.region 1 O22_1 false
def o22_2_0:Oper:=⟨some 8,Op.move (Operand.tmp 0),9, "arith.go:21",#[],none⟩
def o22_2_1:Oper:=⟨some 9,Op.call { callee:=Callee.value (Operand.func 38),args:=#[Operand.tmp 8],argTypes:=#[9] },24, "arith.go:21",#[ed_ 0],none⟩
def o22_2_2:Oper:=⟨some 10,Op.call { callee:=Callee.value (Operand.func 21),args:=#[Operand.tmp 9],argTypes:=#[24] },24, "arith.go:21",#[ed_ 1,ec_ 1],none⟩
def o22_2_3:Oper:=⟨none,Op.store 24 (Operand.tmp 4) (Operand.tmp 10),0, "arith.go:21",#[ed_ 2,ec_ 2,ep_ 0,ep_ 1,ep_ 2],none⟩
def O22_2:Array Oper:=List.toArray (o22_2_0::o22_2_1::o22_2_2::o22_2_3::[])
theorem g22_2_0:O22_2[0]? = some o22_2_0:=rfl
theorem g22_2_1:O22_2[1]? = some o22_2_1:=rfl
theorem g22_2_2:O22_2[2]? = some o22_2_2:=rfl
theorem g22_2_3:O22_2[3]? = some o22_2_3:=rfl
def c22_7:Code:=Code.region 2 O22_2 false
def c22_6:Code:=Code.seq c22_7 Code.ret
def c22_5:Code:=Code.cond (Operand.tmp 7) c22_6 Code.skip
def c22_3:Code:=Code.seq c22_4 c22_5
def o22_3_0:Oper:=⟨some 11,Op.move (Operand.tmp 0),9, "arith.go:23",#[],none⟩
def o22_3_1:Oper:=⟨some 12,Op.move (Operand.tmp 1),22, "arith.go:23",#[],none⟩
def o22_3_2:Oper:=⟨some 13,Op.call { callee:=Callee.value (Operand.func 37),args:=#[Operand.tmp 11,Operand.tmp 12],argTypes:=#[9,22] },24, "arith.go:23",#[ed_ 0,ed_ 1],none⟩
def o22_3_3:Oper:=⟨some 14,Op.call { callee:=Callee.value (Operand.func 21),args:=#[Operand.tmp 13],argTypes:=#[24] },24, "arith.go:23",#[ed_ 2,ec_ 2],none⟩
def o22_3_4:Oper:=⟨none,Op.store 24 (Operand.tmp 4) (Operand.tmp 14),0, "arith.go:23",#[ed_ 3,ec_ 3,ep_ 0,ep_ 1,ep_ 2,ep_ 3],none⟩
def O22_3:Array Oper:=List.toArray (o22_3_0::o22_3_1::o22_3_2::o22_3_3::o22_3_4::[])
theorem g22_3_0:O22_3[0]? = some o22_3_0:=rfl
theorem g22_3_1:O22_3[1]? = some o22_3_1:=rfl
theorem g22_3_2:O22_3[2]? = some o22_3_2:=rfl
theorem g22_3_3:O22_3[3]? = some o22_3_3:=rfl
theorem g22_3_4:O22_3[4]? = some o22_3_4:=rfl
def c22_11:Code:=Code.region 3 O22_3 false
def c22_10:Code:=Code.seq c22_11 Code.ret
def c22_2:Code:=Code.seq c22_3 c22_10
def c22_0:Code:=Code.seq c22_1 c22_2
theorem en22_21:Enters Try.prog 21:=enters_of Try.func21 (by kernel_rfl) rfl
theorem en22_37:Enters Try.prog 37:=enters_of Try.func37 (by kernel_rfl) rfl
theorem en22_38:Enters Try.prog 38:=enters_of Try.func38 (by kernel_rfl) rfl
theorem body22:Try.f22.body=some c22_0:=by kernel_rfl
set_option maxRecDepth 100000 in
set_option maxHeartbeats 4000000 in
theorem fault_w {W:World} {nm:List UInt8} {ts:List Tm} {sa:Option Addr} {sc:Nat} {f0:Act} {w0:World} (R:FrS 15 f0) (h0:f0.tmps[0]? = some (.string (str nm))) (h1:f0.tmps[1]? = some (.slice sa ts.length sc)) (K1:Keep (fun g=>g < W.heap.size) W w0)  (HT:Hid (¬ ts=[]→TmAt W.heap.size W (.node 4 nm 0 ts) sa sc)) (HNM:Hid (nm.length ≤ maxLen)):c22_0.wp Try.prog (bodyPost Try.prog Try.f22 (fun e w'=>∃ a' c',e=.returned (tv (ballV (faultT nm ts)) a' c')∧Own W.heap.size w' (ballV (faultT nm ts)) a' c'∧Keep (fun g=>g < W.heap.size) W w')) f0 w0:=by
  refine wp_seq (x:=c22_1) (y:=c22_2) ?_
  change (Code.region 0 O22_0 false).wp _ _ _ _
  refine reg_in (l:=[0]) rfl ?_
  have F:=fe_ R;clear R
  have Y:(execOp f0.eval o22_0_0).run Try.prog w0=.ok (.value (.pointer (some ⟨w0.heap.size,0,none⟩))) (w0.alloc (.cells #[.int .i64 0,.string (⟨#[]⟩),.int .i64 0,.slice none 0 0] 24)):=by unfold o22_0_0;go_simp
  have B1:=Blk.new w0 24 #[.int .i64 0,.string (⟨#[]⟩),.int .i64 0,.slice none 0 0]
  obtain ⟨w2,hw⟩:∃ x,x=w0.alloc (.cells #[.int .i64 0,.string (⟨#[]⟩),.int .i64 0,.slice none 0 0] 24):=⟨_,rfl⟩;rw [← hw] at Y B1
  obtain ⟨b1,hb⟩:∃ x,x=w0.heap.size:=⟨_,rfl⟩;rw [← hb] at Y B1
  have LK1_b1:=lk_ hb K1;replace K1:=ka_ hw K1;clear hw hb
  refine sw_ g22_0_0 Y F fun a3 F h4=>?_;clear Y
  refine st_end ?_
  replace h0:=F.of h0;replace h1:=F.of h1;have R:=F.r;clear F
  change (c22_2).wp _ _ _ _
  refine wp_seq (x:=c22_3) (y:=c22_10) ?_
  refine wp_seq (x:=c22_4) (y:=c22_5) ?_
  change (Code.region 1 O22_1 false).wp _ _ _ _
  refine reg_in (l:=[0,1,2]) rfl ?_
  have F:=fe_ R;clear R
  refine sw_ g22_1_0 (ym_ rfl (F.of h1)) F fun a4 F h5=>?_
  have Y:(execOp a4.eval o22_1_1).run Try.prog w2=.ok (.value (.int .i64 ts.length)) w2:=by unfold o22_1_1;go_simp
  refine sw_ g22_1_1 Y F fun a5 F h6=>?_;clear Y h5
  obtain ⟨b6,hb6⟩:∃ x,(((ts.length:Int) == (0:Int)))=x:=⟨_,rfl⟩
  have Y:(execOp a5.eval o22_1_2).run Try.prog w2=.ok (.value (.bool b6)) w2:=by rw [← hb6];unfold o22_1_2;go_simp
  refine sw_ g22_1_2 Y F fun a7 F h7=>?_;clear Y h6
  refine st_end ?_
  replace h0:=F.of h0;replace h1:=F.of h1;replace h4:=F.of h4;have R:=F.r;clear F
  change (c22_5).wp _ _ _ _
  cases b6 with
  | false =>
    have fb6:=hb6;clear hb6
    simp only [dd_] at fb6
    refine wp_cond_false (x:=c22_6) (y:=Code.skip) (eval_slot h7) ?_
    refine wp_skip ?_
    change (c22_10).wp _ _ _ _
    refine wp_seq (x:=c22_11) (y:=Code.ret) ?_
    change (Code.region 3 O22_3 false).wp _ _ _ _
    refine reg_in (l:=[0,1,2,3,4]) rfl ?_
    have F:=fe_ R;clear R
    refine sw_ g22_3_0 (ym_ rfl (F.of h0)) F fun a8 F h11=>?_
    refine sv_ g22_3_1 (ym_ rfl (F.of h1)) fun a9 e=>?_
    have h12:=pt_ F e;replace F:=pu_ F e;replace h11:=so_ e h11;clear e
    refine st_call g22_3_2 rfl (wanted_free rfl) (yc2_ en22_37 rfl h11 h12) ((compound_any _ nm ts sa sc).mono ?_)
    rintro e9 w10 ⟨rfl,kk⟩
    replace K1:=keep_onto K1 kk
    replace B1:=blk_on B1 kk
    clear kk
    refine ⟨_,rfl,fun a11 e=>?_⟩
    clear h11 h12;have h13:=pt_ F e;replace F:=pu_ F e;clear e
    have hts:¬ ts=[]:=fun h=>absurd (congrArg List.length h) (by simp only [List.length_nil];omega)
    have hca:Calls Try.prog 21 #[tv (Tm.node 4 nm 0 ts) sa sc] w10 _:=Ball_any (W:=w10) ((HT.out hts).on K1)
    have hft:faultT nm ts=Tm.node 4 nm 0 ts:=if_neg hts
    clear hts
    have UKX_b1:=B1.lt
    have HWKX:W.heap.size ≤ w10.heap.size:=K1.size
    refine st_call g22_3_3 rfl (wanted_free rfl) (yc1_ en22_21 rfl h13) ((hca).mono ?_)
    rintro e9 w12 ⟨ax,cx,rfl,hx,kk⟩
    replace K1:=keep_onto K1 kk
    replace B1:=blk_on B1 kk
    clear kk
    clear hca
    have HX:=Lib.hid hx;clear hx
    have KX:=Keep.refl (fun g=>w10.heap.size ≤ g∧g < w12.heap.size) w12
    refine ⟨_,rfl,fun a13 e=>?_⟩
    clear h13;have h14:=pt_ F e;replace F:=pu_ F e;clear e
    obtain ⟨w14,Y,hk,hB⟩:=ys4_ (o:=o22_3_4) rfl (F.of h4) h14 B1
    replace K1:=kx_ hk K1 (Nat.not_lt.2 LK1_b1);replace KX:=kx_ hk KX (fun hx=>absurd hx.1 (Nat.not_le.2 UKX_b1));clear B1;have B1:=hB;clear hB hk
    refine st_skip g22_3_4 rfl (wanted_free rfl) Y ?_;clear Y
    refine st_end ?_
    clear h0;clear h1;replace h4:=F.of h4;clear h7;clear h14;have R:=F.r;clear F
    change (Code.ret).wp _ _ _ _
    refine wp_ret ?_
    change bodyPost Try.prog Try.f22 (fun e w'=>∃ a' c',e=.returned (tv (ballV (faultT nm ts)) a' c')∧Own W.heap.size w' (ballV (faultT nm ts)) a' c'∧Keep (fun g=>g < W.heap.size) W w') .ret a13 w14
    refine ret_cell (fn:=Try.f22) rfl R h4 B1 ?_
    rw [hft]
    exact ⟨ax,cx,rfl,(HX.out.on KX).up HWKX,K1⟩
  | true =>
    have fb6:=hb6;clear hb6
    simp only [dd_] at fb6
    refine wp_cond_true (x:=c22_6) (y:=Code.skip) (eval_slot h7) ?_
    refine wp_seq (x:=c22_7) (y:=Code.ret) ?_
    change (Code.region 2 O22_2 false).wp _ _ _ _
    refine reg_in (l:=[0,1,2,3]) rfl ?_
    have F:=fe_ R;clear R
    refine sw_ g22_2_0 (ym_ rfl (F.of h0)) F fun a15 F h8=>?_
    refine st_call g22_2_1 rfl (wanted_free rfl) (yc1_ en22_38 rfl h8) ((atomX _ nm).mono ?_)
    rintro e9 w16 ⟨rfl,kk⟩
    replace K1:=keep_onto K1 kk
    replace B1:=blk_on B1 kk
    clear kk
    refine ⟨_,rfl,fun a17 e=>?_⟩
    clear h8;have h9:=pt_ F e;replace F:=pu_ F e;clear e
    have hts:ts=[]:=List.length_eq_zero_iff.1 (by omega)
    have hca:Calls Try.prog 21 #[tv (Tm.node 3 nm 0 []) none 0] w16 _:=Ball_any (W:=w16) (tm_leaf (by decide) (by decide) HNM.out)
    have hft:faultT nm ts=Tm.node 3 nm 0 []:=if_pos hts
    clear hts
    have UKX_b1:=B1.lt
    have HWKX:W.heap.size ≤ w16.heap.size:=K1.size
    refine st_call g22_2_2 rfl (wanted_free rfl) (yc1_ en22_21 rfl h9) ((hca).mono ?_)
    rintro e9 w18 ⟨ax,cx,rfl,hx,kk⟩
    replace K1:=keep_onto K1 kk
    replace B1:=blk_on B1 kk
    clear kk
    clear hca
    have HX:=Lib.hid hx;clear hx
    have KX:=Keep.refl (fun g=>w16.heap.size ≤ g∧g < w18.heap.size) w18
    refine ⟨_,rfl,fun a19 e=>?_⟩
    clear h9;have h10:=pt_ F e;replace F:=pu_ F e;clear e
    obtain ⟨w20,Y,hk,hB⟩:=ys4_ (o:=o22_2_3) rfl (F.of h4) h10 B1
    replace K1:=kx_ hk K1 (Nat.not_lt.2 LK1_b1);replace KX:=kx_ hk KX (fun hx=>absurd hx.1 (Nat.not_le.2 UKX_b1));clear B1;have B1:=hB;clear hB hk
    refine st_skip g22_2_3 rfl (wanted_free rfl) Y ?_;clear Y
    refine st_end ?_
    replace h0:=F.of h0;replace h1:=F.of h1;replace h4:=F.of h4;clear h7;clear h10;have R:=F.r;clear F
    change (Code.ret).wp _ _ _ _
    refine wp_ret ?_
    change bodyPost Try.prog Try.f22 (fun e w'=>∃ a' c',e=.returned (tv (ballV (faultT nm ts)) a' c')∧Own W.heap.size w' (ballV (faultT nm ts)) a' c'∧Keep (fun g=>g < W.heap.size) W w') .ret a19 w20
    refine ret_cell (fn:=Try.f22) rfl R h4 B1 ?_
    rw [hft]
    exact ⟨ax,cx,rfl,(HX.out.on KX).up HWKX,K1⟩
theorem Fault_any {W:World} {nm:List UInt8} {ts:List Tm} {sa:Option Addr} {sc:Nat} (hT:¬ ts=[]→TmAt W.heap.size W (.node 4 nm 0 ts) sa sc) (hn:nm.length ≤ maxLen):Calls Try.prog 22 #[.string (str nm),.slice sa ts.length sc] W fun e w'=>∃ a' c',e=.returned (tv (ballV (faultT nm ts)) a' c')∧Own W.heap.size w' (ballV (faultT nm ts)) a' c'∧Keep (fun g=>g < W.heap.size) W w':=by
  refine enter_sx Try.func22 body22 rfl (by show (2:Nat) ≤ 15;decide) fun f0 R hs=>?_
  exact fault_w R (hs 0 _ rfl) (hs 1 _ rfl) (Keep.refl _ W) (Lib.hid hT) (Lib.hid hn)
def o40_0_0:Oper:=⟨some 4,Op.alloc 24,0, "arith.go:63",#[],none⟩
def O40_0:Array Oper:=List.toArray (o40_0_0::[])
theorem g40_0_0:O40_0[0]? = some o40_0_0:=rfl
def c40_1:Code:=Code.region 0 O40_0 false
def o40_1_0:Oper:=⟨some 6,Op.move (Operand.tmp 1),3, "arith.go:64",#[],none⟩
def o40_1_1:Oper:=⟨some 7,Op.build 24 #[(0,Operand.const (Value.int IntKind.i64 2)),(2,Operand.tmp 6)],24, "arith.go:64",#[ed_ 0],none⟩
def o40_1_2:Oper:=⟨some 5,Op.alloc 24,0, "arith.go:64",#[],none⟩
def o40_1_3:Oper:=⟨none,Op.store 24 (Operand.tmp 5) (Operand.tmp 7),0, "arith.go:64",#[ed_ 2,ed_ 1,ep_ 0,ep_ 1,ep_ 2],none⟩
def O40_1:Array Oper:=List.toArray (o40_1_0::o40_1_1::o40_1_2::o40_1_3::[])
theorem g40_1_0:O40_1[0]? = some o40_1_0:=rfl
theorem g40_1_1:O40_1[1]? = some o40_1_1:=rfl
theorem g40_1_2:O40_1[2]? = some o40_1_2:=rfl
theorem g40_1_3:O40_1[3]? = some o40_1_3:=rfl
def c40_3:Code:=Code.region 1 O40_1 false
def o40_2_0:Oper:=⟨some 8,Op.call { callee:=Callee.value (Operand.func 38),args:=#[Operand.const (Value.string { data:=#[101,118,97,108,117,97,98,108,101] })],argTypes:=#[9] },24, "arith.go:65",#[],none⟩
def o40_2_1:Oper:=⟨some 9,Op.move (Operand.tmp 0),9, "arith.go:65",#[],none⟩
def o40_2_2:Oper:=⟨some 10,Op.call { callee:=Callee.value (Operand.func 38),args:=#[Operand.tmp 9],argTypes:=#[9] },24, "arith.go:65",#[ed_ 1,ec_ 0],none⟩
def o40_2_3:Oper:=⟨some 11,Op.load 24 (Operand.tmp 5),24, "arith.go:65",#[],none⟩
def o40_2_4:Oper:=⟨some 12,Op.buildSlice 22 2 #[(0,Operand.tmp 10),(1,Operand.tmp 11)],22, "arith.go:65",#[ed_ 2,ed_ 3],none⟩
def o40_2_5:Oper:=⟨some 13,Op.call { callee:=Callee.value (Operand.func 37),args:=#[Operand.const (Value.string { data:=#[47] }),Operand.tmp 12],argTypes:=#[9,22] },24, "arith.go:65",#[ed_ 4,ec_ 2],none⟩
def o40_2_6:Oper:=⟨some 14,Op.buildSlice 22 2 #[(0,Operand.tmp 8),(1,Operand.tmp 13)],22, "arith.go:65",#[ed_ 0,ed_ 5],none⟩
def o40_2_7:Oper:=⟨some 15,Op.call { callee:=Callee.value (Operand.func 22),args:=#[Operand.const (Value.string { data:=#[116,121,112,101,95,101,114,114,111,114] }),Operand.tmp 14],argTypes:=#[9,22] },24, "arith.go:65",#[ed_ 6,ec_ 5],none⟩
def o40_2_8:Oper:=⟨none,Op.store 24 (Operand.tmp 4) (Operand.tmp 15),0, "arith.go:65",#[ed_ 7,ec_ 7,ep_ 0,ep_ 1,ep_ 2,ep_ 3,ep_ 4,ep_ 5,ep_ 6,ep_ 7],none⟩
def O40_2:Array Oper:=List.toArray (o40_2_0::o40_2_1::o40_2_2::o40_2_3::o40_2_4::o40_2_5::o40_2_6::o40_2_7::o40_2_8::[])
theorem g40_2_0:O40_2[0]? = some o40_2_0:=rfl
theorem g40_2_1:O40_2[1]? = some o40_2_1:=rfl
theorem g40_2_2:O40_2[2]? = some o40_2_2:=rfl
theorem g40_2_3:O40_2[3]? = some o40_2_3:=rfl
theorem g40_2_4:O40_2[4]? = some o40_2_4:=rfl
theorem g40_2_5:O40_2[5]? = some o40_2_5:=rfl
theorem g40_2_6:O40_2[6]? = some o40_2_6:=rfl
theorem g40_2_7:O40_2[7]? = some o40_2_7:=rfl
theorem g40_2_8:O40_2[8]? = some o40_2_8:=rfl
theorem ns40_2:Region.noSelect O40_2=true:=by kernel_rfl
def c40_5:Code:=Code.region 2 O40_2 true
def c40_4:Code:=Code.seq c40_5 Code.ret
def c40_2:Code:=Code.seq c40_3 c40_4
def c40_0:Code:=Code.seq c40_1 c40_2
theorem en40_38:Enters Try.prog 38:=enters_of Try.func38 (by kernel_rfl) rfl
theorem body40:Try.f40.body=some c40_0:=by kernel_rfl
def evF (nm:List UInt8) (n:Int):Tm:=.node 4 [116,121,112,101,95,101,114,114,111,114] 0 [.node 3 [101,118,97,108,117,97,98,108,101] 0 [],.node 4 [47] 0 [.node 3 nm 0 [],.node 2 [] n []]]
set_option maxRecDepth 100000 in
set_option maxHeartbeats 4000000 in
theorem nev_w {W:World} {nm:List UInt8} {n:Int} {f0:Act} {w0:World} (R:FrS 16 f0) (h0:f0.tmps[0]? = some (.string (str nm))) (h1:f0.tmps[1]? = some (.int .i64 n)) (K1:Keep (fun g=>g < W.heap.size) W w0)  (HNM:Hid (nm.length ≤ maxLen)) (HN:Hid ((Lit.int .i64 n).wf=true)):c40_0.wp Try.prog (bodyPost Try.prog Try.f40 (fun e w'=>∃ a' c',e=.returned (tv (ballV (evF nm n)) a' c')∧Own W.heap.size w' (ballV (evF nm n)) a' c'∧Keep (fun g=>g < W.heap.size) W w')) f0 w0:=by
  refine wp_seq (x:=c40_1) (y:=c40_2) ?_
  change (Code.region 0 O40_0 false).wp _ _ _ _
  refine reg_in (l:=[0]) rfl ?_
  have F:=fe_ R;clear R
  have Y:(execOp f0.eval o40_0_0).run Try.prog w0=.ok (.value (.pointer (some ⟨w0.heap.size,0,none⟩))) (w0.alloc (.cells #[.int .i64 0,.string (⟨#[]⟩),.int .i64 0,.slice none 0 0] 24)):=by unfold o40_0_0;go_simp
  have B1:=Blk.new w0 24 #[.int .i64 0,.string (⟨#[]⟩),.int .i64 0,.slice none 0 0]
  obtain ⟨w2,hw⟩:∃ x,x=w0.alloc (.cells #[.int .i64 0,.string (⟨#[]⟩),.int .i64 0,.slice none 0 0] 24):=⟨_,rfl⟩;rw [← hw] at Y B1
  obtain ⟨b1,hb⟩:∃ x,x=w0.heap.size:=⟨_,rfl⟩;rw [← hb] at Y B1
  have LK1_b1:=lk_ hb K1;replace K1:=ka_ hw K1;clear hw hb
  refine sw_ g40_0_0 Y F fun a3 F h4=>?_;clear Y
  refine st_end ?_
  replace h0:=F.of h0;replace h1:=F.of h1;have R:=F.r;clear F
  change (c40_2).wp _ _ _ _
  refine wp_seq (x:=c40_3) (y:=c40_4) ?_
  change (Code.region 1 O40_1 false).wp _ _ _ _
  refine reg_in (l:=[0,1,2,3]) rfl ?_
  have F:=fe_ R;clear R
  refine sw_ g40_1_0 (ym_ rfl (F.of h1)) F fun a4 F h6=>?_
  have Y:(execOp a4.eval o40_1_1).run Try.prog w2=.ok (.value (.agg #[.int .i64 2,.string (⟨#[]⟩),.int .i64 n,.slice none 0 0])) w2:=by unfold o40_1_1;go_simp
  refine sw_ g40_1_1 Y F fun a5 F h7=>?_;clear Y h6
  have Y:(execOp a5.eval o40_1_2).run Try.prog w2=.ok (.value (.pointer (some ⟨w2.heap.size,0,none⟩))) (w2.alloc (.cells #[.int .i64 0,.string (⟨#[]⟩),.int .i64 0,.slice none 0 0] 24)):=by unfold o40_1_2;go_simp
  have B6:=Blk.new w2 24 #[.int .i64 0,.string (⟨#[]⟩),.int .i64 0,.slice none 0 0]
  obtain ⟨w7,hw⟩:∃ x,x=w2.alloc (.cells #[.int .i64 0,.string (⟨#[]⟩),.int .i64 0,.slice none 0 0] 24):=⟨_,rfl⟩;rw [← hw] at Y B6
  obtain ⟨b6,hb⟩:∃ x,x=w2.heap.size:=⟨_,rfl⟩;rw [← hb] at Y B6
  have Nb1_b6:=nb_ hb B1;replace B1:=ba_ hw B1;have LK1_b6:=lk_ hb K1;replace K1:=ka_ hw K1;clear hw hb
  refine sv_ g40_1_2 Y fun a8 e=>?_;clear Y
  have h5:=pt_ F e;replace F:=pu_ F e;replace h7:=so_ e h7;clear e
  obtain ⟨w9,Y,hk,hB⟩:=ys4_ (o:=o40_1_3) rfl h5 h7 B6
  replace K1:=kx_ hk K1 (Nat.not_lt.2 LK1_b6);replace B1:=bx_ hk B1 Nb1_b6;clear B6;have B6:=hB;clear hB hk
  refine st_skip g40_1_3 rfl (wanted_free rfl) Y ?_;clear Y
  refine st_end ?_
  replace h0:=F.of h0;clear h1;replace h4:=F.of h4;clear h7;have R:=F.r;clear F
  change (c40_4).wp _ _ _ _
  refine wp_seq (x:=c40_5) (y:=Code.ret) ?_
  change (Code.region 2 O40_2 true).wp _ _ _ _
  have Xb1:=B1.lt
  have Xb6:=B6.lt
  have D12:=B1
  have D13:=B6
  have K10:=(Keep.refl (fun g=>g < w9.heap.size∧g ≠ b1) w9).drew
  have EK1:=K1
  refine dr_in (S:=(fun W=>Keep (fun g=>g < w9.heap.size∧g ≠ b1) w9 W)) (n:=9) (l:=lb_ 9 0) (by kernel_rfl) K10 rfl (by kernel_rfl) ?_
  replace K1:=K1.drew
  replace B1:=B1.drew
  replace B6:=B6.drew
  generalize w9.drew=w11 at K10 K1 B1 B6 ⊢
  have F:=fe_ R;clear R
  refine dt_ (i:=1) (l':=(lb_ 9 2)) g40_2_1 rfl ns40_2 (wanted_free rfl) K10 (fun _ _=>(ym_ rfl (F.of h0))) fun a14 e=>?_
  have h9:=pt_ F e;replace F:=pu_ F e;clear e
  refine dt_ (i:=3) (l':=(lb_ 9 10)) g40_2_3 rfl ns40_2 (wanted_free rfl) K10 (fun W7 hS=>(yl4_ rfl (F.of h5) (D13.keep hS ⟨Xb6,(Ne.symm Nb1_b6)⟩))) fun a15 e=>?_
  have h11:=pt_ F e;replace F:=pu_ F e;replace h9:=so_ e h9;clear e
  refine dr_only (i:=0) (fuel:=6) (by kernel_rfl) ?_
  have Y:(execOp a15.eval o40_2_0).run Try.prog w11=.ok (.enter 38 #[.string (⟨#[101,118,97,108,117,97,98,108,101]⟩)]) w11:=by unfold o40_2_0;go_simp
  refine dr_call (l':=(lb_ 9 11)) g40_2_0 rfl (by kernel_rfl) (wanted_free rfl) Y ((atomX _ [101,118,97,108,117,97,98,108,101]).mono ?_);clear Y
  rintro e9 w16 ⟨rfl,kk⟩
  replace K1:=keep_onto K1 kk
  replace K10:=K10.trans kk.all
  replace B1:=blk_on B1 kk
  replace B6:=blk_on B6 kk
  clear kk
  refine ⟨_,rfl,K10,fun a17 e=>?_⟩
  have h8:=pt_ F e;replace F:=pu_ F e;replace h9:=so_ e h9;replace h11:=so_ e h11;clear e
  refine dr_only (i:=2) (fuel:=5) (by kernel_rfl) ?_
  refine dr_call (l':=(lb_ 9 15)) g40_2_2 rfl (by kernel_rfl) (wanted_free rfl) (yc1_ en40_38 rfl h9) ((atomX _ nm).mono ?_)
  rintro e9 w18 ⟨rfl,kk⟩
  replace K1:=keep_onto K1 kk
  replace K10:=K10.trans kk.all
  replace B1:=blk_on B1 kk
  replace B6:=blk_on B6 kk
  clear kk
  refine ⟨_,rfl,K10,fun a19 e=>?_⟩
  clear h9;have h10:=pt_ F e;replace F:=pu_ F e;replace h8:=so_ e h8;replace h11:=so_ e h11;clear e
  refine dr_only (i:=4) (fuel:=4) (by kernel_rfl) ?_
  have Y:(execOp a19.eval o40_2_4).run Try.prog w18=.ok (.value (.slice (some ⟨w18.heap.size,0,none⟩) 2 2)) (w18.alloc (.cells #[.int .i64 ((Tm.node 3 nm 0 []).k),.string (str (Tm.node 3 nm 0 []).nm),.int .i64 ((Tm.node 3 nm 0 []).i),.slice none (Tm.node 3 nm 0 []).args.length 0,.int .i64 2,.string (⟨#[]⟩),.int .i64 n,.slice none 0 0] 24)):=by unfold o40_2_4;go_simp
  have B20:=Blk.new w18 24 #[.int .i64 ((Tm.node 3 nm 0 []).k),.string (str (Tm.node 3 nm 0 []).nm),.int .i64 ((Tm.node 3 nm 0 []).i),.slice none (Tm.node 3 nm 0 []).args.length 0,.int .i64 2,.string (⟨#[]⟩),.int .i64 n,.slice none 0 0]
  obtain ⟨w21,hw⟩:∃ x,x=w18.alloc (.cells #[.int .i64 ((Tm.node 3 nm 0 []).k),.string (str (Tm.node 3 nm 0 []).nm),.int .i64 ((Tm.node 3 nm 0 []).i),.slice none (Tm.node 3 nm 0 []).args.length 0,.int .i64 2,.string (⟨#[]⟩),.int .i64 n,.slice none 0 0] 24):=⟨_,rfl⟩;rw [← hw] at Y B20
  obtain ⟨b20,hb⟩:∃ x,x=w18.heap.size:=⟨_,rfl⟩;rw [← hb] at Y B20
  have Nb1_b20:=nb_ hb B1;replace B1:=ba_ hw B1;have Nb6_b20:=nb_ hb B6;replace B6:=ba_ hw B6;have LK1_b20:=lk_ hb K1;replace K1:=ka_ hw K1;have LK10_b20:=lk_ hb K10;replace K10:=ka_ hw K10;clear hw hb
  refine dr_val (l':=(lb_ 9 31)) g40_2_4 rfl (by kernel_rfl) (wanted_free rfl) Y K10 fun a22 e=>?_;clear Y
  clear h10 h11;have h12:=pt_ F e;replace F:=pu_ F e;replace h8:=so_ e h8;clear e
  refine dr_only (i:=5) (fuel:=3) (by kernel_rfl) ?_
  have Y:(execOp a22.eval o40_2_5).run Try.prog w21=.ok (.enter 37 #[.string (⟨#[47]⟩),.slice (some ⟨b20,0,none⟩) 2 2]) w21:=by unfold o40_2_5;go_simp
  refine dr_call (l':=(lb_ 9 63)) g40_2_5 rfl (by kernel_rfl) (wanted_free rfl) Y ((compound_any _ [47] [Tm.node 3 nm 0 [],Tm.node 2 [] n []] (some ⟨b20,0,none⟩) 2).mono ?_);clear Y
  rintro e9 w23 ⟨rfl,kk⟩
  replace K1:=keep_onto K1 kk
  replace K10:=K10.trans kk.all
  replace B1:=blk_on B1 kk
  replace B6:=blk_on B6 kk
  replace B20:=blk_on B20 kk
  clear kk
  refine ⟨_,rfl,K10,fun a24 e=>?_⟩
  clear h12;have h13:=pt_ F e;replace F:=pu_ F e;replace h8:=so_ e h8;clear e
  refine dr_only (i:=6) (fuel:=2) (by kernel_rfl) ?_
  have Y:(execOp a24.eval o40_2_6).run Try.prog w23=.ok (.value (.slice (some ⟨w23.heap.size,0,none⟩) 2 2)) (w23.alloc (.cells #[.int .i64 ((Tm.node 3 [101,118,97,108,117,97,98,108,101] 0 []).k),.string (str (Tm.node 3 [101,118,97,108,117,97,98,108,101] 0 []).nm),.int .i64 ((Tm.node 3 [101,118,97,108,117,97,98,108,101] 0 []).i),.slice none (Tm.node 3 [101,118,97,108,117,97,98,108,101] 0 []).args.length 0,.int .i64 ((Tm.node 4 [47] 0 [Tm.node 3 nm 0 [],Tm.node 2 [] n []]).k),.string (str (Tm.node 4 [47] 0 [Tm.node 3 nm 0 [],Tm.node 2 [] n []]).nm),.int .i64 ((Tm.node 4 [47] 0 [Tm.node 3 nm 0 [],Tm.node 2 [] n []]).i),.slice (some ⟨b20,0,none⟩) (Tm.node 4 [47] 0 [Tm.node 3 nm 0 [],Tm.node 2 [] n []]).args.length 2] 24)):=by unfold o40_2_6;go_simp
  have B25:=Blk.new w23 24 #[.int .i64 ((Tm.node 3 [101,118,97,108,117,97,98,108,101] 0 []).k),.string (str (Tm.node 3 [101,118,97,108,117,97,98,108,101] 0 []).nm),.int .i64 ((Tm.node 3 [101,118,97,108,117,97,98,108,101] 0 []).i),.slice none (Tm.node 3 [101,118,97,108,117,97,98,108,101] 0 []).args.length 0,.int .i64 ((Tm.node 4 [47] 0 [Tm.node 3 nm 0 [],Tm.node 2 [] n []]).k),.string (str (Tm.node 4 [47] 0 [Tm.node 3 nm 0 [],Tm.node 2 [] n []]).nm),.int .i64 ((Tm.node 4 [47] 0 [Tm.node 3 nm 0 [],Tm.node 2 [] n []]).i),.slice (some ⟨b20,0,none⟩) (Tm.node 4 [47] 0 [Tm.node 3 nm 0 [],Tm.node 2 [] n []]).args.length 2]
  obtain ⟨w26,hw⟩:∃ x,x=w23.alloc (.cells #[.int .i64 ((Tm.node 3 [101,118,97,108,117,97,98,108,101] 0 []).k),.string (str (Tm.node 3 [101,118,97,108,117,97,98,108,101] 0 []).nm),.int .i64 ((Tm.node 3 [101,118,97,108,117,97,98,108,101] 0 []).i),.slice none (Tm.node 3 [101,118,97,108,117,97,98,108,101] 0 []).args.length 0,.int .i64 ((Tm.node 4 [47] 0 [Tm.node 3 nm 0 [],Tm.node 2 [] n []]).k),.string (str (Tm.node 4 [47] 0 [Tm.node 3 nm 0 [],Tm.node 2 [] n []]).nm),.int .i64 ((Tm.node 4 [47] 0 [Tm.node 3 nm 0 [],Tm.node 2 [] n []]).i),.slice (some ⟨b20,0,none⟩) (Tm.node 4 [47] 0 [Tm.node 3 nm 0 [],Tm.node 2 [] n []]).args.length 2] 24):=⟨_,rfl⟩;rw [← hw] at Y B25
  obtain ⟨b25,hb⟩:∃ x,x=w23.heap.size:=⟨_,rfl⟩;rw [← hb] at Y B25
  have Nb1_b25:=nb_ hb B1;replace B1:=ba_ hw B1;have Nb6_b25:=nb_ hb B6;replace B6:=ba_ hw B6;have Nb20_b25:=nb_ hb B20;replace B20:=ba_ hw B20;have LK1_b25:=lk_ hb K1;replace K1:=ka_ hw K1;have LK10_b25:=lk_ hb K10;replace K10:=ka_ hw K10;clear hw hb
  refine dr_val (l':=(lb_ 9 127)) g40_2_6 rfl (by kernel_rfl) (wanted_free rfl) Y K10 fun a27 e=>?_;clear Y
  clear h8 h13;have h14:=pt_ F e;replace F:=pu_ F e;clear e
  refine dr_only (i:=7) (fuel:=1) (by kernel_rfl) ?_
  have Y:(execOp a27.eval o40_2_7).run Try.prog w26=.ok (.enter 22 #[.string (⟨#[116,121,112,101,95,101,114,114,111,114]⟩),.slice (some ⟨b25,0,none⟩) 2 2]) w26:=by unfold o40_2_7;go_simp
  have h1:TmAt w26.heap.size w26 (.node 4 [47] 0 [.node 3 nm 0 [],.node 2 [] n []]) (some ⟨b20,0,none⟩) 2:=comp_at (ps:=[(.node 3 nm 0 [],none,0),(.node 2 [] n [],none,0)]) B20 (fun p hp=>by rcases List.mem_cons.1 hp with rfl | hp;exact tm_leaf (by decide) (by decide) HNM.out;rw [List.mem_singleton.1 hp];exact tm_leaf (by decide) HN.out (by decide)) (by decide) (Nat.le_of_ble_eq_true rfl)
  have h2:TmAt w26.heap.size w26 (evF nm n) (some ⟨b25,0,none⟩) 2:=comp_at (ps:=[(.node 3 [101,118,97,108,117,97,98,108,101] 0 [],none,0),(.node 4 [47] 0 [.node 3 nm 0 [],.node 2 [] n []],some ⟨b20,0,none⟩,2)]) B25 (fun p hp=>by rcases List.mem_cons.1 hp with rfl | hp;exact tm_leaf (by decide) (by decide) (by decide);rw [List.mem_singleton.1 hp];exact h1) (by decide) (Nat.le_of_ble_eq_true rfl)
  have hca:=Fault_any (W:=w26) (nm:=[116,121,112,101,95,101,114,114,111,114]) (ts:=(evF nm n).args) (sa:=some ⟨b25,0,none⟩) (sc:=2) (fun _=>h2) (by decide);clear h1 h2
  have UKX_b1:=B1.lt
  have UKX_b6:=B6.lt
  have UKX_b20:=B20.lt
  have UKX_b25:=B25.lt
  have HWKX:W.heap.size ≤ w26.heap.size:=K1.size
  refine dr_call (l':=(lb_ 9 255)) g40_2_7 rfl (by kernel_rfl) (wanted_free rfl) Y ((hca).mono ?_);clear Y
  rintro e9 w28 ⟨ax,cx,rfl,hx,kk⟩
  replace K1:=keep_onto K1 kk
  replace K10:=K10.trans kk.all
  replace B1:=blk_on B1 kk
  replace B6:=blk_on B6 kk
  replace B20:=blk_on B20 kk
  replace B25:=blk_on B25 kk
  clear kk
  clear hca
  have HX:=Lib.hid hx;clear hx
  have KX:=Keep.refl (fun g=>w26.heap.size ≤ g∧g < w28.heap.size) w28
  refine ⟨_,rfl,K10,fun a29 e=>?_⟩
  clear h14;have h15:=pt_ F e;replace F:=pu_ F e;clear e
  refine dr_only (i:=8) (fuel:=0) (by kernel_rfl) ?_
  obtain ⟨w30,Y,hk,hB⟩:=ys4_ (o:=o40_2_8) rfl (F.of h4) h15 B1
  replace K1:=kx_ hk K1 (Nat.not_lt.2 LK1_b1);replace K10:=kx_ hk K10 (fun hx=>hx.2 rfl);replace KX:=kx_ hk KX (fun hx=>absurd hx.1 (Nat.not_le.2 UKX_b1));replace B6:=bx_ hk B6 (Ne.symm Nb1_b6);replace B20:=bx_ hk B20 (Ne.symm Nb1_b20);replace B25:=bx_ hk B25 (Ne.symm Nb1_b25);clear B1;have B1:=hB;clear hB hk
  refine dr_skip (l':=(lb_ 9 511)) g40_2_8 rfl (by kernel_rfl) (wanted_free rfl) Y K10 ?_;clear Y
  refine dr_end (by kernel_rfl) ?_
  clear h0;replace h4:=F.of h4;clear h5;clear h15;have R:=F.r;clear F
  clear K10 EK1 D12 D13
  change (Code.ret).wp _ _ _ _
  refine wp_ret ?_
  change bodyPost Try.prog Try.f40 (fun e w'=>∃ a' c',e=.returned (tv (ballV (evF nm n)) a' c')∧Own W.heap.size w' (ballV (evF nm n)) a' c'∧Keep (fun g=>g < W.heap.size) W w') .ret a29 w30
  refine ret_cell (fn:=Try.f40) rfl R h4 B1 ?_
  exact ⟨ax,cx,rfl,(HX.out.on KX).up HWKX,K1⟩
theorem notEv_any {W:World} {nm:List UInt8} {n:Int} (hn:nm.length ≤ maxLen) (h:(Lit.int .i64 n).wf=true):Calls Try.prog 40 #[.string (str nm),.int .i64 n] W fun e w'=>∃ a' c',e=.returned (tv (ballV (evF nm n)) a' c')∧Own W.heap.size w' (ballV (evF nm n)) a' c'∧Keep (fun g=>g < W.heap.size) W w':=by
  refine enter_sx Try.func40 body40 rfl (by show (2:Nat) ≤ 16;decide) fun f0 R hs=>?_
  exact nev_w R (hs 0 _ rfl) (hs 1 _ rfl) (Keep.refl _ W) (Lib.hid hn) (Lib.hid h)
end Go.Proofs.Ytmgephleogiaoaa
