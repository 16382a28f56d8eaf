/-
  The ball of a formal term. No condition but where the term lies.
-/
import Derived.Test.YtmgephleogiaoaaNAr7
namespace Go.Proofs.Ytmgephleogiaoaa
open Go.RowKit Go.Maps
set_option linter.unusedVariables false
set_option linter.unusedSimpArgs false
def Own (lo:Nat) (w:World) (t:Tm) (a:Option Addr) (c:Nat):Prop:=∀ W,Keep (fun g=>lo ≤ g∧g < w.heap.size) w W→TmAt W.heap.size W t a c
theorem Own.on {lo:Nat} {w W:World} {t:Tm} {a:Option Addr} {c:Nat} (h:Own lo w t a c) (k:Keep (fun g=>lo ≤ g∧g < w.heap.size) w W):Own lo W t a c:=fun V kV =>
  h V (k.trans (kV.less fun g hg=>⟨hg.1,Nat.lt_of_lt_of_le hg.2 k.size⟩))
theorem Own.at_ {lo:Nat} {w:World} {t:Tm} {a:Option Addr} {c:Nat} (h:Own lo w t a c):TmAt w.heap.size w t a c:=h w (Keep.refl _ w)
theorem Own.up {lo lo':Nat} {w:World} {t:Tm} {a:Option Addr} {c:Nat} (h:Own lo w t a c) (hl:lo' ≤ lo):Own lo' w t a c:=fun V kV=>h V (kV.less fun g hg=>⟨Nat.le_trans hl hg.1,hg.2⟩)
theorem Own.fr {lo:Nat} {w:World} {t:Tm} {a:Option Addr} {c:Nat} {Q:Nat→Prop} (h:Fr 0 Q w lo w.heap.size t a c):Own lo w t a c:=fun W k=>fr_tm h k
theorem Own.leaf {lo:Nat} {w:World} {k i:Int} {nm:List UInt8} (hk:(Lit.int .i64 k).wf=true) (hi:(Lit.int .i64 i).wf=true) (hn:nm.length ≤ maxLen):Own lo w (.node k nm i []) none 0:=fun W _=>tm_leaf hk hi hn
theorem Own.comp {lo:Nat} {w:World} {b c:Nat} {nm:List UInt8} {ps:List TP} (hb:Blk w b 24 (ps.flatMap TP.cells).toArray) (hlo:lo ≤ b) (hs:∀ p ∈ ps,Own lo w p.1 p.2.1 p.2.2) (hn:nm.length ≤ maxLen) (h8:ps.length ≤ 8) :
    Own lo w (.node 4 nm 0 (ps.map (·.1))) (some ⟨b,0,none⟩) c:=fun W k =>
  comp_at (hb.keep k ⟨hlo,hb.lt⟩) (fun p hp=>hs p hp W k) hn h8
theorem atom_nil (w:World):Calls Try.prog 38 #[.string ⟨#[91,93]⟩] w fun e w'=>e=.returned (tv aNil none 0)∧Keep (fun g=>g < w.heap.size) w w':=atom_any w [91,93]
theorem own_nil {lo:Nat} {w:World}:Own lo w aNil none 0:=.leaf (by decide) (by decide) (by decide)
theorem own_zero {lo:Nat} {w:World}:Own lo w zeroT none 0:=.leaf (by decide) (by decide) (by decide)
def o21_0_0:Oper:=⟨some 1,Op.box 24 (Operand.tmp 0),0, "arith.go:10",#[],none⟩
def o21_0_1:Oper:=⟨some 2,Op.alloc 24,0, "arith.go:10",#[],none⟩
def O21_0:Array Oper:=List.toArray (o21_0_0::o21_0_1::[])
theorem g21_0_0:O21_0[0]? = some o21_0_0:=rfl
theorem g21_0_1:O21_0[1]? = some o21_0_1:=rfl
def c21_1:Code:=Code.region 0 O21_0 false
def o21_1_0:Oper:=⟨some 6,Op.load 24 (Operand.tmp 1),24, "arith.go:11",#[],none⟩
def o21_1_1:Oper:=⟨some 7,Op.call { callee:=Callee.value (Operand.func 36),args:=#[Operand.tmp 6,Operand.const (Value.slice none 0 0)],argTypes:=#[24,66] },56, "arith.go:11",#[ed_ 0],none⟩
def o21_1_2:Oper:=⟨some 5,Op.move (Operand.tmp 7),56, "arith.go:11",#[ed_ 1],none⟩
def o21_1_3:Oper:=⟨some 8,Op.extract (Operand.tmp 5) 0,24, "arith.go:11",#[ed_ 2],none⟩
def o21_1_4:Oper:=⟨some 9,Op.extract (Operand.tmp 5) 1,48, "arith.go:11",#[ed_ 2,{ on:=6,ground:=Go.Ground.gcOnly Go.Departure.lateStores }],none⟩
def o21_1_5:Oper:=⟨some 3,Op.alloc 24,0, "arith.go:11",#[],none⟩
def o21_1_6:Oper:=⟨none,Op.store 24 (Operand.tmp 3) (Operand.tmp 8),0, "arith.go:11",#[ed_ 5,ed_ 3,ec_ 1,ep_ 0,ep_ 1,ep_ 2,ep_ 3,{ on:=4,ground:=Go.Ground.textOnly Go.Departure.lateStores },ep_ 5],none⟩
def o21_1_7:Oper:=⟨some 4,Op.assign (Operand.tmp 9),48, "arith.go:11",#[ed_ 4,ec_ 6,ep_ 0,ep_ 1,ep_ 2,ep_ 3,ep_ 4,ep_ 5,ep_ 6],none⟩
def O21_1:Array Oper:=List.toArray (o21_1_0::o21_1_1::o21_1_2::o21_1_3::o21_1_4::o21_1_5::o21_1_6::o21_1_7::[])
theorem g21_1_0:O21_1[0]? = some o21_1_0:=rfl
theorem g21_1_1:O21_1[1]? = some o21_1_1:=rfl
theorem g21_1_2:O21_1[2]? = some o21_1_2:=rfl
theorem g21_1_3:O21_1[3]? = some o21_1_3:=rfl
theorem g21_1_4:O21_1[4]? = some o21_1_4:=rfl
theorem g21_1_5:O21_1[5]? = some o21_1_5:=rfl
theorem g21_1_6:O21_1[6]? = some o21_1_6:=rfl
theorem g21_1_7:O21_1[7]? = some o21_1_7:=rfl
def c21_3:Code:=Code.region 1 O21_1 false
def o21_2_0:Oper:=⟨some 10,Op.move (Operand.tmp 4),48, "arith.go:12",#[],none⟩
def o21_2_1:Oper:=⟨some 11,Op.binOp Go.BinOp.neq 48 (Operand.tmp 10) (Operand.const (Value.int IntKind.i64 0)) 48,4, "arith.go:12",#[ed_ 0],none⟩
def O21_2:Array Oper:=List.toArray (o21_2_0::o21_2_1::[])
theorem g21_2_0:O21_2[0]? = some o21_2_0:=rfl
theorem g21_2_1:O21_2[1]? = some o21_2_1:=rfl
def c21_6:Code:=Code.region 2 O21_2 false
def o21_3_0:Oper:=⟨some 12,Op.build 24 #[],24, "arith.go:13",#[],none⟩
def o21_3_1:Oper:=⟨none,Op.store 24 (Operand.tmp 2) (Operand.tmp 12),0, "arith.go:13",#[ed_ 0,ep_ 0],none⟩
def O21_3:Array Oper:=List.toArray (o21_3_0::o21_3_1::[])
theorem g21_3_0:O21_3[0]? = some o21_3_0:=rfl
theorem g21_3_1:O21_3[1]? = some o21_3_1:=rfl
def c21_9:Code:=Code.region 3 O21_3 false
def c21_8:Code:=Code.seq c21_9 Code.ret
def c21_7:Code:=Code.cond (Operand.tmp 11) c21_8 Code.skip
def c21_5:Code:=Code.seq c21_6 c21_7
def o21_4_0:Oper:=⟨some 13,Op.load 24 (Operand.tmp 3),24, "arith.go:15",#[],none⟩
def o21_4_1:Oper:=⟨some 14,Op.call { callee:=Callee.value (Operand.func 38),args:=#[Operand.const (Value.string { data:=#[91,93] })],argTypes:=#[9] },24, "arith.go:15",#[],none⟩
def o21_4_2:Oper:=⟨some 15,Op.buildSlice 22 2 #[(0,Operand.tmp 13),(1,Operand.tmp 14)],22, "arith.go:15",#[ed_ 0,ed_ 1],none⟩
def o21_4_3:Oper:=⟨some 16,Op.call { callee:=Callee.value (Operand.func 37),args:=#[Operand.const (Value.string { data:=#[101,114,114,111,114] }),Operand.tmp 15],argTypes:=#[9,22] },24, "arith.go:15",#[ed_ 2,ec_ 1],none⟩
def o21_4_4:Oper:=⟨none,Op.store 24 (Operand.tmp 2) (Operand.tmp 16),0, "arith.go:15",#[ed_ 3,ec_ 3,ep_ 0,ep_ 1,ep_ 2,ep_ 3],none⟩
def O21_4:Array Oper:=List.toArray (o21_4_0::o21_4_1::o21_4_2::o21_4_3::o21_4_4::[])
theorem g21_4_0:O21_4[0]? = some o21_4_0:=rfl
theorem g21_4_1:O21_4[1]? = some o21_4_1:=rfl
theorem g21_4_2:O21_4[2]? = some o21_4_2:=rfl
theorem g21_4_3:O21_4[3]? = some o21_4_3:=rfl
theorem g21_4_4:O21_4[4]? = some o21_4_4:=rfl
theorem ns21_4:Region.noSelect O21_4=true:=by kernel_rfl
def c21_13:Code:=Code.region 4 O21_4 true
def c21_12:Code:=Code.seq c21_13 Code.ret
def c21_4:Code:=Code.seq c21_5 c21_12
def c21_2:Code:=Code.seq c21_3 c21_4
def c21_0:Code:=Code.seq c21_1 c21_2
theorem body21:Try.f21.body=some c21_0:=by kernel_rfl
set_option maxRecDepth 100000 in
set_option maxHeartbeats 4000000 in
theorem ball_r {W:World} {t:Tm} {a:Option Addr} {c:Nat} {f0:Act} {w0:World} (R:FrS 17 f0) (h0:f0.tmps[0]? = some (.agg #[.int .i64 t.k,.string (str t.nm),.int .i64 t.i,.slice a t.args.length c])) (K1:Keep (fun g=>g < W.heap.size) W w0)  (HT:Hid (TmAt W.heap.size W t a c)) (HAP:Hid (apV t []=(t.tree.tm,0))):c21_0.wp Try.prog (bodyPost Try.prog Try.f21 (fun e w'=>∃ a' c',e=.returned (tv (ballT t.tree.tm) a' c')∧Own W.heap.size w' (ballT t.tree.tm) a' c'∧Keep (fun g=>g < W.heap.size) W w')) f0 w0:=by
 refine wp_seq (x:=c21_1) (y:=c21_2) ?_
 change (Code.region 0 O21_0 false).wp _ _ _ _
 refine reg_in (l:=[0,1]) rfl ?_
 have F:=fe_ R;clear R
 have Y:(execOp f0.eval o21_0_0).run Try.prog w0=.ok (.value (.pointer (some ⟨w0.heap.size,0,none⟩))) (w0.alloc (.cells #[.int .i64 t.k,.string (str t.nm),.int .i64 t.i,.slice a t.args.length c] 24)):=by have r0:=F.of h0;unfold o21_0_0;go_simp
 have B1:=Blk.new w0 24 #[.int .i64 t.k,.string (str t.nm),.int .i64 t.i,.slice a t.args.length c]
 obtain ⟨w2,hw⟩:∃ x,x=w0.alloc (.cells #[.int .i64 t.k,.string (str t.nm),.int .i64 t.i,.slice a t.args.length c] 24):=⟨_,rfl⟩;rw [← hw] at Y B1
 obtain ⟨b1,hb⟩:∃ x,x=w0.heap.size:=⟨_,rfl⟩;rw [← hb] at Y B1
 have LK1_b1:=lk_ hb K1;replace K1:=ka_ hw K1;clear hw hb
 refine sw_ g21_0_0 Y F fun a3 F h1=>?_;clear Y
 have Y:(execOp a3.eval o21_0_1).run Try.prog w2=.ok (.value (.pointer (some ⟨w2.heap.size,0,none⟩))) (w2.alloc (.cells #[.int .i64 0,.string (⟨#[]⟩),.int .i64 0,.slice none 0 0] 24)):=by unfold o21_0_1;go_simp
 have B4:=Blk.new w2 24 #[.int .i64 0,.string (⟨#[]⟩),.int .i64 0,.slice none 0 0]
 obtain ⟨w5,hw⟩:∃ x,x=w2.alloc (.cells #[.int .i64 0,.string (⟨#[]⟩),.int .i64 0,.slice none 0 0] 24):=⟨_,rfl⟩;rw [← hw] at Y B4
 obtain ⟨b4,hb⟩:∃ x,x=w2.heap.size:=⟨_,rfl⟩;rw [← hb] at Y B4
 have Nb1_b4:=nb_ hb B1;replace B1:=ba_ hw B1;have LK1_b4:=lk_ hb K1;replace K1:=ka_ hw K1;clear hw hb
 refine sv_ g21_0_1 Y fun a6 e=>?_;clear Y
 have h2:=pt_ F e;replace F:=pu_ F e;replace h1:=so_ e h1;clear e
 refine st_end ?_
 clear h0;have R:=F.r;clear F
 change (c21_2).wp _ _ _ _
 refine wp_seq (x:=c21_3) (y:=c21_4) ?_
 change (Code.region 1 O21_1 false).wp _ _ _ _
 refine reg_in (l:=[0,1,2,3,4,5,6,7]) rfl ?_
 have F:=fe_ R;clear R
 refine sv_ g21_1_0 (yl4_ rfl (F.of h1) B1) fun a7 e=>?_
 have h6:=pt_ F e;replace F:=pu_ F e;clear e
 have Y:(execOp a7.eval o21_1_1).run Try.prog w5=.ok (.enter 36 #[.agg #[.int .i64 t.k,.string (str t.nm),.int .i64 t.i,.slice a t.args.length c],Value.slice none 0 0]) w5:=by unfold o21_1_1;go_simp
 have hca:=apply_fr (a:=none) (bs:=[]) (cap:=0) (fun j p hp=>by simp at hp) (HT.out.on K1) (Nat.zero_le _) (fun g off h=>by cases h) HAP.out
 have UKX_b1:=B1.lt
 have UKX_b4:=B4.lt
 have HWKX:W.heap.size ≤ w5.heap.size:=K1.size
 refine st_call g21_1_1 rfl (wanted_free rfl) Y ((hca).mono ?_);clear Y
 rintro e9 w8 ⟨ax,cx,rfl,hx,kk⟩
 replace K1:=keep_onto K1 kk
 replace B1:=blk_on B1 kk
 replace B4:=blk_on B4 kk
 clear kk
 clear hca;replace hx:=Own.fr hx
 have HX:=Lib.hid hx;clear hx
 have KX:=Keep.refl (fun g=>w5.heap.size ≤ g∧g < w8.heap.size) w8
 refine ⟨_,rfl,fun a9 e=>?_⟩
 clear h6;have h7:=pt_ F e;replace F:=pu_ F e;clear e
 refine sv_ g21_1_2 (ym_ rfl h7) fun a10 e=>?_
 clear h7;have h5:=pt_ F e;replace F:=pu_ F e;clear e
 refine sv_ g21_1_3 (ye20_ rfl h5) fun a11 e=>?_
 have h8:=pt_ F e;replace F:=pu_ F e;replace h5:=so_ e h5;clear e
 refine sv_ g21_1_4 (ye21_ rfl h5) fun a12 e=>?_
 clear h5;have h9:=pt_ F e;replace F:=pu_ F e;replace h8:=so_ e h8;clear e
 have Y:(execOp a12.eval o21_1_5).run Try.prog w8=.ok (.value (.pointer (some ⟨w8.heap.size,0,none⟩))) (w8.alloc (.cells #[.int .i64 0,.string (⟨#[]⟩),.int .i64 0,.slice none 0 0] 24)):=by unfold o21_1_5;go_simp
 have B13:=Blk.new w8 24 #[.int .i64 0,.string (⟨#[]⟩),.int .i64 0,.slice none 0 0]
 obtain ⟨w14,hw⟩:∃ x,x=w8.alloc (.cells #[.int .i64 0,.string (⟨#[]⟩),.int .i64 0,.slice none 0 0] 24):=⟨_,rfl⟩;rw [← hw] at Y B13
 obtain ⟨b13,hb⟩:∃ x,x=w8.heap.size:=⟨_,rfl⟩;rw [← hb] at Y B13
 have Nb1_b13:=nb_ hb B1;replace B1:=ba_ hw B1;have Nb4_b13:=nb_ hb B4;replace B4:=ba_ hw B4;have LK1_b13:=lk_ hb K1;replace K1:=ka_ hw K1;have LKX_b13:=lk_ hb KX;replace KX:=ka_ hw KX;clear hw hb
 refine sv_ g21_1_5 Y fun a15 e=>?_;clear Y
 have h3:=pt_ F e;replace F:=pu_ F e;replace h8:=so_ e h8;replace h9:=so_ e h9;clear e
 obtain ⟨w16,Y,hk,hB⟩:=ys4_ (o:=o21_1_6) rfl h3 h8 B13
 replace K1:=kx_ hk K1 (Nat.not_lt.2 LK1_b13);replace KX:=kx_ hk KX (fun hx=>absurd hx.2 (Nat.not_lt.2 LKX_b13));replace B1:=bx_ hk B1 Nb1_b13;replace B4:=bx_ hk B4 Nb4_b13;clear B13;have B13:=hB;clear hB hk
 refine st_skip g21_1_6 rfl (wanted_free rfl) Y ?_;clear Y
 refine sv_ g21_1_7 (ya_ rfl h9) fun a17 e=>?_
 clear h8 h9;have h4:=pt_ F e;replace F:=pu_ F e;replace h3:=so_ e h3;clear e
 refine st_end ?_
 clear h1;replace h2:=F.of h2;have R:=F.r;clear F
 change (c21_4).wp _ _ _ _
 refine wp_seq (x:=c21_5) (y:=c21_12) ?_
 refine wp_seq (x:=c21_6) (y:=c21_7) ?_
 change (Code.region 2 O21_2 false).wp _ _ _ _
 refine reg_in (l:=[0,1]) rfl ?_
 have F:=fe_ R;clear R
 refine sw_ g21_2_0 (ym_ rfl (F.of h4)) F fun a18 F h10=>?_
 have Y:(execOp a18.eval o21_2_1).run Try.prog w16=.ok (.value (.bool false)) w16:=by unfold o21_2_1;go_simp
 refine sw_ g21_2_1 Y F fun a19 F h11=>?_;clear Y h10
 refine st_end ?_
 replace h2:=F.of h2;replace h3:=F.of h3;clear h4;have R:=F.r;clear F
 change (c21_7).wp _ _ _ _
 refine wp_cond_false (x:=c21_8) (y:=Code.skip) (eval_slot h11) ?_
 refine wp_skip ?_
 change (c21_12).wp _ _ _ _
 refine wp_seq (x:=c21_13) (y:=Code.ret) ?_
 change (Code.region 4 O21_4 true).wp _ _ _ _
 have Xb1:=B1.lt
 have Xb4:=B4.lt
 have Xb13:=B13.lt
 have D22:=B1
 have D23:=B4
 have D24:=B13
 have K20:=(Keep.refl (fun g=>g < w16.heap.size∧g ≠ b4) w16).drew
 have EK1:=K1
 have EKX:=KX
 refine dr_in (S:=(fun W=>Keep (fun g=>g < w16.heap.size∧g ≠ b4) w16 W)) (n:=5) (l:=lb_ 5 0) (by kernel_rfl) K20 rfl (by kernel_rfl) ?_
 replace K1:=K1.drew
 replace KX:=KX.drew
 replace B1:=B1.drew
 replace B4:=B4.drew
 replace B13:=B13.drew
 generalize w16.drew=w21 at K20 K1 KX B1 B4 B13 ⊢
 have F:=fe_ R;clear R
 refine dt_ (i:=0) (l':=(lb_ 5 1)) g21_4_0 rfl ns21_4 (wanted_free rfl) K20 (fun W7 hS=>(yl4_ rfl (F.of h3) (D24.keep hS ⟨Xb13,(Ne.symm Nb4_b13)⟩))) fun a25 e=>?_
 have h13:=pt_ F e;replace F:=pu_ F e;clear e
 refine dr_only (i:=1) (fuel:=3) (by kernel_rfl) ?_
 have Y:(execOp a25.eval o21_4_1).run Try.prog w21=.ok (.enter 38 #[.string (⟨#[91,93]⟩)]) w21:=by unfold o21_4_1;go_simp
 refine dr_call (l':=(lb_ 5 3)) g21_4_1 rfl (by kernel_rfl) (wanted_free rfl) Y ((atom_nil _).mono ?_);clear Y
 rintro e9 w26 ⟨rfl,kk⟩
 replace K1:=keep_onto K1 kk
 replace KX:=KX.trans kk.all
 replace K20:=K20.trans kk.all
 replace B1:=blk_on B1 kk
 replace B4:=blk_on B4 kk
 replace B13:=blk_on B13 kk
 clear kk
 refine ⟨_,rfl,K20,fun a27 e=>?_⟩
 have h14:=pt_ F e;replace F:=pu_ F e;replace h13:=so_ e h13;clear e
 refine dr_only (i:=2) (fuel:=2) (by kernel_rfl) ?_
 have Y:(execOp a27.eval o21_4_2).run Try.prog w26=.ok (.value (.slice (some ⟨w26.heap.size,0,none⟩) 2 2)) (w26.alloc (.cells #[.int .i64 t.tree.tm.k,.string (str t.tree.tm.nm),.int .i64 t.tree.tm.i,.slice ax t.tree.tm.args.length cx,.int .i64 aNil.k,.string (str aNil.nm),.int .i64 aNil.i,.slice none aNil.args.length 0] 24)):=by unfold o21_4_2;go_simp
 have B28:=Blk.new w26 24 #[.int .i64 t.tree.tm.k,.string (str t.tree.tm.nm),.int .i64 t.tree.tm.i,.slice ax t.tree.tm.args.length cx,.int .i64 aNil.k,.string (str aNil.nm),.int .i64 aNil.i,.slice none aNil.args.length 0]
 obtain ⟨w29,hw⟩:∃ x,x=w26.alloc (.cells #[.int .i64 t.tree.tm.k,.string (str t.tree.tm.nm),.int .i64 t.tree.tm.i,.slice ax t.tree.tm.args.length cx,.int .i64 aNil.k,.string (str aNil.nm),.int .i64 aNil.i,.slice none aNil.args.length 0] 24):=⟨_,rfl⟩;rw [← hw] at Y B28
 obtain ⟨b28,hb⟩:∃ x,x=w26.heap.size:=⟨_,rfl⟩;rw [← hb] at Y B28
 have Nb1_b28:=nb_ hb B1;replace B1:=ba_ hw B1;have Nb4_b28:=nb_ hb B4;replace B4:=ba_ hw B4;have Nb13_b28:=nb_ hb B13;replace B13:=ba_ hw B13;have LK1_b28:=lk_ hb K1;replace K1:=ka_ hw K1;have LKX_b28:=lk_ hb KX;replace KX:=ka_ hw KX;have LK20_b28:=lk_ hb K20;replace K20:=ka_ hw K20;clear hw hb
 refine dr_val (l':=(lb_ 5 7)) g21_4_2 rfl (by kernel_rfl) (wanted_free rfl) Y K20 fun a30 e=>?_;clear Y
 clear h13 h14;have h15:=pt_ F e;replace F:=pu_ F e;clear e
 refine dr_only (i:=3) (fuel:=1) (by kernel_rfl) ?_
 have Y:(execOp a30.eval o21_4_3).run Try.prog w29=.ok (.enter 37 #[.string (⟨#[101,114,114,111,114]⟩),.slice (some ⟨b28,0,none⟩) 2 2]) w29:=by unfold o21_4_3;go_simp
 refine dr_call (l':=(lb_ 5 15)) g21_4_3 rfl (by kernel_rfl) (wanted_free rfl) Y ((compound_any _ [101,114,114,111,114] [t.tree.tm,aNil] (some ⟨b28,0,none⟩) 2).mono ?_);clear Y
 rintro e9 w31 ⟨rfl,kk⟩
 replace K1:=keep_onto K1 kk
 replace KX:=KX.trans kk.all
 replace K20:=K20.trans kk.all
 replace B1:=blk_on B1 kk
 replace B4:=blk_on B4 kk
 replace B13:=blk_on B13 kk
 replace B28:=blk_on B28 kk
 clear kk
 refine ⟨_,rfl,K20,fun a32 e=>?_⟩
 clear h15;have h16:=pt_ F e;replace F:=pu_ F e;clear e
 refine dr_only (i:=4) (fuel:=0) (by kernel_rfl) ?_
 obtain ⟨w33,Y,hk,hB⟩:=ys4_ (o:=o21_4_4) rfl (F.of h2) h16 B4
 replace K1:=kx_ hk K1 (Nat.not_lt.2 LK1_b4);replace KX:=kx_ hk KX (fun hx=>absurd hx.1 (Nat.not_le.2 UKX_b4));replace K20:=kx_ hk K20 (fun hx=>hx.2 rfl);replace B1:=bx_ hk B1 Nb1_b4;replace B13:=bx_ hk B13 (Ne.symm Nb4_b13);replace B28:=bx_ hk B28 (Ne.symm Nb4_b28);clear B4;have B4:=hB;clear hB hk
 refine dr_skip (l':=(lb_ 5 31)) g21_4_4 rfl (by kernel_rfl) (wanted_free rfl) Y K20 ?_;clear Y
 refine dr_end (by kernel_rfl) ?_
 replace h2:=F.of h2;clear h3;clear h11;clear h16;have R:=F.r;clear F
 clear K20 EK1 EKX D22 D23 D24
 change (Code.ret).wp _ _ _ _
 refine wp_ret ?_
 change bodyPost Try.prog Try.f21 (fun e w'=>∃ a' c',e=.returned (tv (ballT t.tree.tm) a' c')∧Own W.heap.size w' (ballT t.tree.tm) a' c'∧Keep (fun g=>g < W.heap.size) W w') .ret a32 w33
 refine ret_cell (fn:=Try.f21) rfl R h2 B4 ?_
 refine ⟨_,_,rfl,Own.comp (lo:=W.heap.size) (ps:=[(t.tree.tm,ax,cx),(aNil,none,0)]) B28 LK1_b28 (fun p hp=>?_) (by decide) (Nat.le_of_ble_eq_true rfl),K1⟩
 rcases List.mem_cons.1 hp with rfl | hp
 · exact (HX.out.on KX).up HWKX
 · rw [List.mem_singleton.1 hp];exact own_nil
set_option maxRecDepth 100000 in
set_option maxHeartbeats 4000000 in
theorem ball_w {W:World} {t:Tm} {a:Option Addr} {c:Nat} {f0:Act} {w0:World} (R:FrS 17 f0) (h0:f0.tmps[0]? = some (.agg #[.int .i64 t.k,.string (str t.nm),.int .i64 t.i,.slice a t.args.length c])) (K1:Keep (fun g=>g < W.heap.size) W w0)  (HT:Hid (TmAt W.heap.size W t a c)) (HAP:Hid (apV t []=(zeroT,70))):c21_0.wp Try.prog (bodyPost Try.prog Try.f21 (fun e w'=>∃ a' c',e=.returned (tv zeroT a' c')∧Own W.heap.size w' zeroT a' c'∧Keep (fun g=>g < W.heap.size) W w')) f0 w0:=by
 refine wp_seq (x:=c21_1) (y:=c21_2) ?_
 change (Code.region 0 O21_0 false).wp _ _ _ _
 refine reg_in (l:=[0,1]) rfl ?_
 have F:=fe_ R;clear R
 have Y:(execOp f0.eval o21_0_0).run Try.prog w0=.ok (.value (.pointer (some ⟨w0.heap.size,0,none⟩))) (w0.alloc (.cells #[.int .i64 t.k,.string (str t.nm),.int .i64 t.i,.slice a t.args.length c] 24)):=by have r0:=F.of h0;unfold o21_0_0;go_simp
 have B34:=Blk.new w0 24 #[.int .i64 t.k,.string (str t.nm),.int .i64 t.i,.slice a t.args.length c]
 obtain ⟨w35,hw⟩:∃ x,x=w0.alloc (.cells #[.int .i64 t.k,.string (str t.nm),.int .i64 t.i,.slice a t.args.length c] 24):=⟨_,rfl⟩;rw [← hw] at Y B34
 obtain ⟨b34,hb⟩:∃ x,x=w0.heap.size:=⟨_,rfl⟩;rw [← hb] at Y B34
 have LK1_b34:=lk_ hb K1;replace K1:=ka_ hw K1;clear hw hb
 refine sw_ g21_0_0 Y F fun a36 F h1=>?_;clear Y
 have Y:(execOp a36.eval o21_0_1).run Try.prog w35=.ok (.value (.pointer (some ⟨w35.heap.size,0,none⟩))) (w35.alloc (.cells #[.int .i64 0,.string (⟨#[]⟩),.int .i64 0,.slice none 0 0] 24)):=by unfold o21_0_1;go_simp
 have B37:=Blk.new w35 24 #[.int .i64 0,.string (⟨#[]⟩),.int .i64 0,.slice none 0 0]
 obtain ⟨w38,hw⟩:∃ x,x=w35.alloc (.cells #[.int .i64 0,.string (⟨#[]⟩),.int .i64 0,.slice none 0 0] 24):=⟨_,rfl⟩;rw [← hw] at Y B37
 obtain ⟨b37,hb⟩:∃ x,x=w35.heap.size:=⟨_,rfl⟩;rw [← hb] at Y B37
 have Nb34_b37:=nb_ hb B34;replace B34:=ba_ hw B34;have LK1_b37:=lk_ hb K1;replace K1:=ka_ hw K1;clear hw hb
 refine sv_ g21_0_1 Y fun a39 e=>?_;clear Y
 have h2:=pt_ F e;replace F:=pu_ F e;replace h1:=so_ e h1;clear e
 refine st_end ?_
 clear h0;have R:=F.r;clear F
 change (c21_2).wp _ _ _ _
 refine wp_seq (x:=c21_3) (y:=c21_4) ?_
 change (Code.region 1 O21_1 false).wp _ _ _ _
 refine reg_in (l:=[0,1,2,3,4,5,6,7]) rfl ?_
 have F:=fe_ R;clear R
 refine sv_ g21_1_0 (yl4_ rfl (F.of h1) B34) fun a40 e=>?_
 have h6:=pt_ F e;replace F:=pu_ F e;clear e
 have Y:(execOp a40.eval o21_1_1).run Try.prog w38=.ok (.enter 36 #[.agg #[.int .i64 t.k,.string (str t.nm),.int .i64 t.i,.slice a t.args.length c],Value.slice none 0 0]) w38:=by unfold o21_1_1;go_simp
 have hca:=apply_fr (a:=none) (bs:=[]) (cap:=0) (fun j p hp=>by simp at hp) (HT.out.on K1) (Nat.zero_le _) (fun g off h=>by cases h) HAP.out
 have UKX_b34:=B34.lt
 have UKX_b37:=B37.lt
 have HWKX:W.heap.size ≤ w38.heap.size:=K1.size
 refine st_call g21_1_1 rfl (wanted_free rfl) Y ((hca).mono ?_);clear Y
 rintro e9 w41 ⟨ax,cx,rfl,hx,kk⟩
 replace K1:=keep_onto K1 kk
 replace B34:=blk_on B34 kk
 replace B37:=blk_on B37 kk
 clear kk
 clear hca;replace hx:=Own.fr hx
 have HX:=Lib.hid hx;clear hx
 have KX:=Keep.refl (fun g=>w38.heap.size ≤ g∧g < w41.heap.size) w41
 refine ⟨_,rfl,fun a42 e=>?_⟩
 clear h6;have h7:=pt_ F e;replace F:=pu_ F e;clear e
 refine sv_ g21_1_2 (ym_ rfl h7) fun a43 e=>?_
 clear h7;have h5:=pt_ F e;replace F:=pu_ F e;clear e
 refine sv_ g21_1_3 (ye20_ rfl h5) fun a44 e=>?_
 have h8:=pt_ F e;replace F:=pu_ F e;replace h5:=so_ e h5;clear e
 refine sv_ g21_1_4 (ye21_ rfl h5) fun a45 e=>?_
 clear h5;have h9:=pt_ F e;replace F:=pu_ F e;replace h8:=so_ e h8;clear e
 have Y:(execOp a45.eval o21_1_5).run Try.prog w41=.ok (.value (.pointer (some ⟨w41.heap.size,0,none⟩))) (w41.alloc (.cells #[.int .i64 0,.string (⟨#[]⟩),.int .i64 0,.slice none 0 0] 24)):=by unfold o21_1_5;go_simp
 have B46:=Blk.new w41 24 #[.int .i64 0,.string (⟨#[]⟩),.int .i64 0,.slice none 0 0]
 obtain ⟨w47,hw⟩:∃ x,x=w41.alloc (.cells #[.int .i64 0,.string (⟨#[]⟩),.int .i64 0,.slice none 0 0] 24):=⟨_,rfl⟩;rw [← hw] at Y B46
 obtain ⟨b46,hb⟩:∃ x,x=w41.heap.size:=⟨_,rfl⟩;rw [← hb] at Y B46
 have Nb34_b46:=nb_ hb B34;replace B34:=ba_ hw B34;have Nb37_b46:=nb_ hb B37;replace B37:=ba_ hw B37;have LK1_b46:=lk_ hb K1;replace K1:=ka_ hw K1;have LKX_b46:=lk_ hb KX;replace KX:=ka_ hw KX;clear hw hb
 refine sv_ g21_1_5 Y fun a48 e=>?_;clear Y
 have h3:=pt_ F e;replace F:=pu_ F e;replace h8:=so_ e h8;replace h9:=so_ e h9;clear e
 obtain ⟨w49,Y,hk,hB⟩:=ys4_ (o:=o21_1_6) rfl h3 h8 B46
 replace K1:=kx_ hk K1 (Nat.not_lt.2 LK1_b46);replace KX:=kx_ hk KX (fun hx=>absurd hx.2 (Nat.not_lt.2 LKX_b46));replace B34:=bx_ hk B34 Nb34_b46;replace B37:=bx_ hk B37 Nb37_b46;clear B46;have B46:=hB;clear hB hk
 refine st_skip g21_1_6 rfl (wanted_free rfl) Y ?_;clear Y
 refine sv_ g21_1_7 (ya_ rfl h9) fun a50 e=>?_
 clear h8 h9;have h4:=pt_ F e;replace F:=pu_ F e;replace h3:=so_ e h3;clear e
 refine st_end ?_
 clear h1;replace h2:=F.of h2;have R:=F.r;clear F
 change (c21_4).wp _ _ _ _
 refine wp_seq (x:=c21_5) (y:=c21_12) ?_
 refine wp_seq (x:=c21_6) (y:=c21_7) ?_
 change (Code.region 2 O21_2 false).wp _ _ _ _
 refine reg_in (l:=[0,1]) rfl ?_
 have F:=fe_ R;clear R
 refine sw_ g21_2_0 (ym_ rfl (F.of h4)) F fun a51 F h10=>?_
 have Y:(execOp a51.eval o21_2_1).run Try.prog w49=.ok (.value (.bool true)) w49:=by unfold o21_2_1;go_simp
 refine sw_ g21_2_1 Y F fun a52 F h11=>?_;clear Y h10
 refine st_end ?_
 replace h2:=F.of h2;replace h3:=F.of h3;clear h4;have R:=F.r;clear F
 change (c21_7).wp _ _ _ _
 refine wp_cond_true (x:=c21_8) (y:=Code.skip) (eval_slot h11) ?_
 refine wp_seq (x:=c21_9) (y:=Code.ret) ?_
 change (Code.region 3 O21_3 false).wp _ _ _ _
 refine reg_in (l:=[0,1]) rfl ?_
 have F:=fe_ R;clear R
 have Y:(execOp a52.eval o21_3_0).run Try.prog w49=.ok (.value (.agg #[.int .i64 0,.string (⟨#[]⟩),.int .i64 0,.slice none 0 0])) w49:=by unfold o21_3_0;go_simp
 refine sw_ g21_3_0 Y F fun a53 F h12=>?_;clear Y
 obtain ⟨w54,Y,hk,hB⟩:=ys4_ (o:=o21_3_1) rfl (F.of h2) h12 B37
 replace K1:=kx_ hk K1 (Nat.not_lt.2 LK1_b37);replace KX:=kx_ hk KX (fun hx=>absurd hx.1 (Nat.not_le.2 UKX_b37));replace B34:=bx_ hk B34 Nb34_b37;replace B46:=bx_ hk B46 (Ne.symm Nb37_b46);clear B37;have B37:=hB;clear hB hk
 refine st_skip g21_3_1 rfl (wanted_free rfl) Y ?_;clear Y
 refine st_end ?_
 replace h2:=F.of h2;replace h3:=F.of h3;clear h11;clear h12;have R:=F.r;clear F
 change (Code.ret).wp _ _ _ _
 refine wp_ret ?_
 change bodyPost Try.prog Try.f21 (fun e w'=>∃ a' c',e=.returned (tv zeroT a' c')∧Own W.heap.size w' zeroT a' c'∧Keep (fun g=>g < W.heap.size) W w') .ret a53 w54
 refine ret_cell (fn:=Try.f21) rfl R h2 B37 ?_
 exact ⟨none,0,rfl,own_zero,K1⟩
theorem Ball_any {W:World} {t:Tm} {a:Option Addr} {c:Nat} (hT:TmAt W.heap.size W t a c):Calls Try.prog 21 #[tv t a c] W fun e w'=>∃ a' c',e=.returned (tv (ballV t) a' c')∧Own W.heap.size w' (ballV t) a' c'∧Keep (fun g=>g < W.heap.size) W w':=by
  refine enter_sx Try.func21 body21 rfl (by show (1:Nat) ≤ 17;decide) fun f0 R hs=>?_
  by_cases h:t.right=true
  · rw [show ballV t=ballT t.tree.tm from if_pos h]
    exact ball_r R (hs 0 _ rfl) (Keep.refl _ W) (Lib.hid hT) (Lib.hid (apV_nil h))
  · rw [show ballV t=zeroT from if_neg h]
    exact ball_w R (hs 0 _ rfl) (Keep.refl _ W) (Lib.hid hT) (Lib.hid (apV_wrong h))
end Go.Proofs.Ytmgephleogiaoaa
