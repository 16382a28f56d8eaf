/-
  The document's balls, and its examples. No condition but where the terms lie.
-/
import Derived.Test.YtmgephleogiaoaaNAr13
namespace Go.Proofs.Ytmgephleogiaoaa
open Go.RowKit Go.Maps
set_option linter.unusedVariables false
set_option linter.unusedSimpArgs false
theorem refsame_ok {w:World} {t u:Tm} {a b:Option Addr} {c d:Nat} (hT:TmAt w.heap.size w t a c) (hU:TmAt w.heap.size w u b d) (ht:t.ok=true) (hu:u.ok=true) (he:t.tree=u.tree):Calls Try.prog 35 #[tv t a c,tv u b d] w fun e w'=>e=.returned (.bool true)∧Keep (fun g=>g < w.heap.size) w w':=by
  have h1:=refSame_any hT hU ht hu
  rw [he,((T.lin _).zero _).2 rfl] at h1
  exact h1
theorem eval_num {W:World} {t:Tm} {a:Option Addr} {c:Nat} {v:Int} (hT:TmAt W.heap.size W t a c) (h:evW t=.num v):Calls Try.prog 10 #[tv t a c] W fun e w'=>∃ a' c',e=.returned (.tuple #[.int .i64 v,tv zeroT a' c',.bool true])∧Own W.heap.size w' zeroT a' c'∧Keep (fun g=>g < W.heap.size) W w':=by
  have h1:=Eval_any hT
  rw [h] at h1
  refine Calls.mono h1 ?_
  rintro e w' ⟨a',c',rfl,h2,-,h3⟩
  exact ⟨a',c',rfl,h2,h3⟩
theorem eval_bal {W:World} {t b:Tm} {a:Option Addr} {c:Nat} (hT:TmAt W.heap.size W t a c) (h:evW t=.bal b):Calls Try.prog 10 #[tv t a c] W fun e w'=>∃ a' c',e=.returned (.tuple #[.int .i64 0,tv b a' c',.bool false])∧Own W.heap.size w' b a' c'∧Keep (fun g=>g < W.heap.size) W w':=by
  have h1:=Eval_any hT
  rw [h] at h1
  refine Calls.mono h1 ?_
  rintro e w' ⟨a',c',rfl,h2,-,h3⟩
  exact ⟨a',c',rfl,h2,h3⟩
theorem holds_is {w:World} {nm:List UInt8} {a b:Int} {x y:Bool} (h:holdsR nm a b=(x,y)):Calls Try.prog 17 #[.string (str nm),.int .i64 a,.int .i64 b] w fun e w'=>e=.returned (.tuple #[.bool x,.bool y])∧Keep (fun g=>g < w.heap.size) w w':=by
  have h1:=holds_any w nm a b
  rw [h] at h1
  exact h1
def OwnP (P:Nat→Prop) (w:World) (t:Tm) (a:Option Addr) (c:Nat):Prop:=∀ W,Keep (fun g=>P g∧g < w.heap.size) w W→TmAt W.heap.size W t a c
theorem OwnP.on {P:Nat→Prop} {w W:World} {t:Tm} {a:Option Addr} {c:Nat} (h:OwnP P w t a c) (k:Keep (fun g=>P g∧g < w.heap.size) w W):OwnP P W t a c:=fun V kV =>
  h V (k.trans (kV.less fun g hg=>⟨hg.1,Nat.lt_of_lt_of_le hg.2 k.size⟩))
theorem OwnP.at_ {P:Nat→Prop} {w:World} {t:Tm} {a:Option Addr} {c:Nat} (h:OwnP P w t a c):TmAt w.heap.size w t a c:=h w (Keep.refl _ w)
theorem OwnP.up {P Q:Nat→Prop} {w:World} {t:Tm} {a:Option Addr} {c:Nat} (h:OwnP P w t a c) (hl:∀ g,g < w.heap.size→P g→Q g):OwnP Q w t a c:=fun V kV=>h V (kV.less fun g hg=>⟨hl g hg.2 hg.1,hg.2⟩)
theorem OwnP.pin {P:Nat→Prop} {w W:World} {t:Tm} {a:Option Addr} {c:Nat} (h:OwnP P w t a c) (k:Keep (fun g=>P g∧g < w.heap.size) w W):OwnP (fun g=>P g∧g < w.heap.size) W t a c:=fun V kV =>
  h V (k.trans (kV.less fun g hg=>⟨hg,Nat.lt_of_lt_of_le hg.2 k.size⟩))
theorem OwnP.leaf {P:Nat→Prop} {w:World} {k i:Int} {nm:List UInt8} (hk:(Lit.int .i64 k).wf=true) (hi:(Lit.int .i64 i).wf=true) (hn:nm.length ≤ maxLen):OwnP P w (.node k nm i []) none 0:=fun W _=>tm_leaf hk hi hn
theorem OwnP.comp {P:Nat→Prop} {w:World} {b c:Nat} {nm:List UInt8} {ps:List TP} (hb:Blk w b 24 (ps.flatMap TP.cells).toArray) (hlo:P b) (hs:∀ p ∈ ps,OwnP P w p.1 p.2.1 p.2.2) (hn:nm.length ≤ maxLen) (h8:ps.length ≤ 8) :
    OwnP P w (.node 4 nm 0 (ps.map (·.1))) (some ⟨b,0,none⟩) c:=fun W k =>
  comp_at (hb.keep k ⟨hlo,hb.lt⟩) (fun p hp=>hs p hp W k) hn h8
theorem refA_nil (w:World):Calls Try.prog 20 #[.string ⟨#[91,93]⟩] w fun e w'=>e=.returned (tv aNil none 0)∧Keep (fun g=>g < w.heap.size) w w':=refA_any w [91,93]
def plT:Tm:=.node 4 [43] 0 [.node 3 [97] 0 [],.node 1 [] 1 []]
theorem al_1:evW (opT [47,47] (-7) 2)=.num (-3):=by kernel_rfl
theorem al_2:evW (opT [109,111,100] (-7) 2)=.num 1:=by kernel_rfl
theorem al_3:evW (opT [114,101,109] (-7) 2)=.num (-1):=by kernel_rfl
theorem al_4:evW plT=.bal (ballT (evF [97] 0)):=by kernel_rfl
theorem al_5:evW (opT [60,60] 1 63)=.bal (ballT (flF fOver)):=by kernel_rfl
theorem al_6:evW (opT [62,62] (-1) 100)=.num (-1):=by kernel_rfl
theorem al_7:holdsR [60] 1 2=(true,true):=by kernel_rfl
def xT:Tm:=.node 3 [120] 0 []
theorem al_8:ballV (faultT [101,118,97,108,117,97,116,105,111,110,95,101,114,114,111,114] [.node 3 fOver 0 []])=ballT (flF fOver):=by kernel_rfl
theorem al_9:ballV xT=ballT xT:=by kernel_rfl
theorem ok_1:(ballT (evF [97] 0)).ok=true:=by kernel_rfl
theorem ok_2:(ballT (flF fOver)).ok=true:=by kernel_rfl
theorem ok_3:(ballT xT).ok=true:=by kernel_rfl
def oA13_0_0:Oper:=⟨some 2,Op.box 24 (Operand.tmp 0),0, "ref.go:413",#[],none⟩
def oA13_0_1:Oper:=⟨some 3,Op.box 24 (Operand.tmp 1),0, "ref.go:413",#[],none⟩
def oA13_0_2:Oper:=⟨some 4,Op.assign (Operand.const (Value.bool false)),4, "ref.go:413",#[],none⟩
def OA13_0:Array Oper:=List.toArray (oA13_0_0::oA13_0_1::oA13_0_2::[])
theorem gA13_0_0:OA13_0[0]? = some oA13_0_0:=rfl
theorem gA13_0_1:OA13_0[1]? = some oA13_0_1:=rfl
theorem gA13_0_2:OA13_0[2]? = some oA13_0_2:=rfl
def cA13_1:Code:=Code.region 0 OA13_0 false
def oA13_1_0:Oper:=⟨some 5,Op.fieldAddr 24 (Operand.tmp 2) 0,0, "ref.go:414",#[],none⟩
def oA13_1_1:Oper:=⟨some 6,Op.load 3 (Operand.tmp 5),3, "ref.go:414",#[ed_ 0],none⟩
def oA13_1_2:Oper:=⟨some 7,Op.binOp Go.BinOp.eql 3 (Operand.tmp 6) (Operand.const (Value.int IntKind.i64 0)) 3,4, "ref.go:414",#[ed_ 1],none⟩
def oA13_1_3:Oper:=⟨some 8,Op.move (Operand.tmp 7),4, "ref.go:414",#[ed_ 2],none⟩
def oA13_1_4:Oper:=⟨some 9,Op.fieldAddr 24 (Operand.tmp 3) 0,0, "ref.go:414",#[eg_ 3],some (3,false)⟩
def oA13_1_5:Oper:=⟨some 10,Op.load 3 (Operand.tmp 9),3, "ref.go:414",#[ed_ 4,eg_ 3],some (3,false)⟩
def oA13_1_6:Oper:=⟨some 11,Op.binOp Go.BinOp.eql 3 (Operand.tmp 10) (Operand.const (Value.int IntKind.i64 0)) 3,4, "ref.go:414",#[ed_ 5,eg_ 3],some (3,false)⟩
def oA13_1_7:Oper:=⟨some 12,Op.pick (Operand.tmp 8) (Operand.const (Value.bool true)) (Operand.tmp 11),4, "ref.go:414",#[ed_ 3,ed_ 6],none⟩
def OA13_1:Array Oper:=List.toArray (oA13_1_0::oA13_1_1::oA13_1_2::oA13_1_3::oA13_1_4::oA13_1_5::oA13_1_6::oA13_1_7::[])
theorem gA13_1_0:OA13_1[0]? = some oA13_1_0:=rfl
theorem gA13_1_1:OA13_1[1]? = some oA13_1_1:=rfl
theorem gA13_1_2:OA13_1[2]? = some oA13_1_2:=rfl
theorem gA13_1_3:OA13_1[3]? = some oA13_1_3:=rfl
theorem gA13_1_4:OA13_1[4]? = some oA13_1_4:=rfl
theorem gA13_1_5:OA13_1[5]? = some oA13_1_5:=rfl
theorem gA13_1_6:OA13_1[6]? = some oA13_1_6:=rfl
theorem gA13_1_7:OA13_1[7]? = some oA13_1_7:=rfl
def cA13_4:Code:=Code.region 1 OA13_1 false
def oA13_2_0:Oper:=⟨some 13,Op.fieldAddr 24 (Operand.tmp 2) 0,0, "ref.go:415",#[],none⟩
def oA13_2_1:Oper:=⟨some 14,Op.load 3 (Operand.tmp 13),3, "ref.go:415",#[ed_ 0],none⟩
def oA13_2_2:Oper:=⟨some 15,Op.fieldAddr 24 (Operand.tmp 3) 0,0, "ref.go:415",#[],none⟩
def oA13_2_3:Oper:=⟨some 16,Op.load 3 (Operand.tmp 15),3, "ref.go:415",#[ed_ 2],none⟩
def oA13_2_4:Oper:=⟨some 17,Op.binOp Go.BinOp.eql 3 (Operand.tmp 14) (Operand.tmp 16) 3,4, "ref.go:415",#[ed_ 1,ed_ 3],none⟩
def oA13_2_5:Oper:=⟨some 4,Op.assign (Operand.tmp 17),4, "ref.go:415",#[ed_ 4,ep_ 0,ep_ 1,ep_ 2,ep_ 3,ep_ 4],none⟩
def OA13_2:Array Oper:=List.toArray (oA13_2_0::oA13_2_1::oA13_2_2::oA13_2_3::oA13_2_4::oA13_2_5::[])
theorem gA13_2_0:OA13_2[0]? = some oA13_2_0:=rfl
theorem gA13_2_1:OA13_2[1]? = some oA13_2_1:=rfl
theorem gA13_2_2:OA13_2[2]? = some oA13_2_2:=rfl
theorem gA13_2_3:OA13_2[3]? = some oA13_2_3:=rfl
theorem gA13_2_4:OA13_2[4]? = some oA13_2_4:=rfl
theorem gA13_2_5:OA13_2[5]? = some oA13_2_5:=rfl
def cA13_7:Code:=Code.region 2 OA13_2 false
def cA13_6:Code:=Code.seq cA13_7 Code.ret
def cA13_5:Code:=Code.cond (Operand.tmp 12) cA13_6 Code.skip
def cA13_3:Code:=Code.seq cA13_4 cA13_5
def oA13_3_0:Oper:=⟨some 18,Op.load 24 (Operand.tmp 2),24, "ref.go:417",#[],none⟩
def oA13_3_1:Oper:=⟨some 19,Op.load 24 (Operand.tmp 3),24, "ref.go:417",#[],none⟩
def oA13_3_2:Oper:=⟨some 20,Op.call { callee:=Callee.value (Operand.func 35),args:=#[Operand.tmp 18,Operand.tmp 19],argTypes:=#[24,24] },4, "ref.go:417",#[ed_ 0,ed_ 1],none⟩
def oA13_3_3:Oper:=⟨some 4,Op.assign (Operand.tmp 20),4, "ref.go:417",#[ed_ 2,ec_ 2,ep_ 0,ep_ 1,ep_ 2],none⟩
def OA13_3:Array Oper:=List.toArray (oA13_3_0::oA13_3_1::oA13_3_2::oA13_3_3::[])
theorem gA13_3_0:OA13_3[0]? = some oA13_3_0:=rfl
theorem gA13_3_1:OA13_3[1]? = some oA13_3_1:=rfl
theorem gA13_3_2:OA13_3[2]? = some oA13_3_2:=rfl
theorem gA13_3_3:OA13_3[3]? = some oA13_3_3:=rfl
def cA13_11:Code:=Code.region 3 OA13_3 false
def cA13_10:Code:=Code.seq cA13_11 Code.ret
def cA13_2:Code:=Code.seq cA13_3 cA13_10
def cA13_0:Code:=Code.seq cA13_1 cA13_2
theorem enA13_35:Enters Try.prog 35:=enters_of Try.func35 (by kernel_rfl) rfl
theorem bodyA13:Try.f13.body=some cA13_0:=by kernel_rfl
set_option maxRecDepth 100000 in
set_option maxHeartbeats 4000000 in
theorem alike_z {W:World} {t u:Tm} {a b:Option Addr} {c d:Nat} {f0:Act} {w0:World} (R:FrS 21 f0) (h0:f0.tmps[0]? = some (.agg #[.int .i64 t.k,.string (str t.nm),.int .i64 t.i,.slice a t.args.length c])) (h1:f0.tmps[1]? = some (.agg #[.int .i64 u.k,.string (str u.nm),.int .i64 u.i,.slice b u.args.length d])) (K1:Keep (fun g=>g < W.heap.size) W w0)  (HZ:Hid (t.k=0∧u.k=0)):cA13_0.wp Try.prog (bodyPost Try.prog Try.f13 (fun e w'=>e=.returned (.bool true)∧Keep (fun g=>g < W.heap.size) W w')) f0 w0:=by
 refine wp_seq (x:=cA13_1) (y:=cA13_2) ?_
 change (Code.region 0 OA13_0 false).wp _ _ _ _
 refine reg_in (l:=[0,1,2]) rfl ?_
 have F:=fe_ R;clear R
 have Y:(execOp f0.eval oA13_0_0).run Try.prog w0=.ok (.value (.pointer (some ⟨w0.heap.size,0,none⟩))) (w0.alloc (.cells #[.int .i64 t.k,.string (str t.nm),.int .i64 t.i,.slice a t.args.length c] 24)):=by have r0:=F.of h0;unfold oA13_0_0;go_simp
 have B1:=Blk.new w0 24 #[.int .i64 t.k,.string (str t.nm),.int .i64 t.i,.slice a t.args.length c]
 obtain ⟨w2,hw⟩:∃ x,x=w0.alloc (.cells #[.int .i64 t.k,.string (str t.nm),.int .i64 t.i,.slice a t.args.length c] 24):=⟨_,rfl⟩;rw [← hw] at Y B1
 obtain ⟨b1,hb⟩:∃ x,x=w0.heap.size:=⟨_,rfl⟩;rw [← hb] at Y B1
 have LK1_b1:=lk_ hb K1;replace K1:=ka_ hw K1;clear hw hb
 refine sw_ gA13_0_0 Y F fun a3 F h2=>?_;clear Y
 have Y:(execOp a3.eval oA13_0_1).run Try.prog w2=.ok (.value (.pointer (some ⟨w2.heap.size,0,none⟩))) (w2.alloc (.cells #[.int .i64 u.k,.string (str u.nm),.int .i64 u.i,.slice b u.args.length d] 24)):=by have r1:=F.of h1;unfold oA13_0_1;go_simp
 have B4:=Blk.new w2 24 #[.int .i64 u.k,.string (str u.nm),.int .i64 u.i,.slice b u.args.length d]
 obtain ⟨w5,hw⟩:∃ x,x=w2.alloc (.cells #[.int .i64 u.k,.string (str u.nm),.int .i64 u.i,.slice b u.args.length d] 24):=⟨_,rfl⟩;rw [← hw] at Y B4
 obtain ⟨b4,hb⟩:∃ x,x=w2.heap.size:=⟨_,rfl⟩;rw [← hb] at Y B4
 have Nb1_b4:=nb_ hb B1;replace B1:=ba_ hw B1;have LK1_b4:=lk_ hb K1;replace K1:=ka_ hw K1;clear hw hb
 refine sv_ gA13_0_1 Y fun a6 e=>?_;clear Y
 have h3:=pt_ F e;replace F:=pu_ F e;replace h2:=so_ e h2;clear e
 have Y:(execOp a6.eval oA13_0_2).run Try.prog w5=.ok (.value (.bool false)) w5:=by unfold oA13_0_2;go_simp
 refine sv_ gA13_0_2 Y fun a7 e=>?_;clear Y
 have h4:=pt_ F e;replace F:=pu_ F e;replace h2:=so_ e h2;replace h3:=so_ e h3;clear e
 refine st_end ?_
 clear h0;clear h1;have R:=F.r;clear F
 change (cA13_2).wp _ _ _ _
 refine wp_seq (x:=cA13_3) (y:=cA13_10) ?_
 refine wp_seq (x:=cA13_4) (y:=cA13_5) ?_
 change (Code.region 1 OA13_1 false).wp _ _ _ _
 refine reg_in (l:=[0,1,2,3,4,5,6,7]) rfl ?_
 have F:=fe_ R;clear R
 refine sv_ gA13_1_0 (yf0_ rfl (F.of h2)) fun a8 e=>?_
 have h5:=pt_ F e;replace F:=pu_ F e;clear e
 refine sv_ gA13_1_1 (yk0_ rfl h5 B1) fun a9 e=>?_
 clear h5;have h6:=pt_ F e;replace F:=pu_ F e;clear e
 have Y:(execOp a9.eval oA13_1_2).run Try.prog w5=.ok (.value (.bool true)) w5:=by have hk:=HZ.out.1;unfold oA13_1_2;go_simp
 refine sw_ gA13_1_2 Y F fun a10 F h7=>?_;clear Y h6
 refine sv_ gA13_1_3 (ym_ rfl h7) fun a11 e=>?_
 clear h7;have h8:=pt_ F e;replace F:=pu_ F e;clear e
 refine st_not gA13_1_4 rfl (wanted_is (j:=3) (d:=8) rfl rfl h8 rfl) fun a12 e=>?_
 have h9:=pt_ F e;replace F:=pu_ F e;replace h8:=so_ e h8;clear e
 refine st_not gA13_1_5 rfl (wanted_is (j:=3) (d:=8) rfl rfl h8 rfl) fun a13 e=>?_
 clear h9;have h10:=pt_ F e;replace F:=pu_ F e;replace h8:=so_ e h8;clear e
 refine st_not gA13_1_6 rfl (wanted_is (j:=3) (d:=8) rfl rfl h8 rfl) fun a14 e=>?_
 clear h10;have h11:=pt_ F e;replace F:=pu_ F e;replace h8:=so_ e h8;clear e
 have Y:(execOp a14.eval oA13_1_7).run Try.prog w5=.ok (.value (.bool true)) w5:=by unfold oA13_1_7;go_simp
 refine sw_ gA13_1_7 Y F fun a15 F h12=>?_;clear Y h8 h11
 refine st_end ?_
 replace h2:=F.of h2;replace h3:=F.of h3;replace h4:=F.of h4;have R:=F.r;clear F
 change (cA13_5).wp _ _ _ _
 refine wp_cond_true (x:=cA13_6) (y:=Code.skip) (eval_slot h12) ?_
 refine wp_seq (x:=cA13_7) (y:=Code.ret) ?_
 change (Code.region 2 OA13_2 false).wp _ _ _ _
 refine reg_in (l:=[0,1,2,3,4,5]) rfl ?_
 have F:=fe_ R;clear R
 refine sv_ gA13_2_0 (yf0_ rfl (F.of h2)) fun a16 e=>?_
 have h13:=pt_ F e;replace F:=pu_ F e;clear e
 refine sv_ gA13_2_1 (yk0_ rfl h13 B1) fun a17 e=>?_
 clear h13;have h14:=pt_ F e;replace F:=pu_ F e;clear e
 refine sv_ gA13_2_2 (yf0_ rfl (F.of h3)) fun a18 e=>?_
 have h15:=pt_ F e;replace F:=pu_ F e;replace h14:=so_ e h14;clear e
 refine sv_ gA13_2_3 (yk0_ rfl h15 B4) fun a19 e=>?_
 clear h15;have h16:=pt_ F e;replace F:=pu_ F e;replace h14:=so_ e h14;clear e
 have Y:(execOp a19.eval oA13_2_4).run Try.prog w5=.ok (.value (.bool true)) w5:=by have hk1:=HZ.out.1;have hk2:=HZ.out.2;unfold oA13_2_4;go_simp
 refine sw_ gA13_2_4 Y F fun a20 F h17=>?_;clear Y h14 h16
 refine sv_ gA13_2_5 (ya_ rfl h17) fun a21 e=>?_
 clear h17 h4;have h4:=pt_ F e;replace F:=pu_ F e;clear e
 refine st_end ?_
 replace h2:=F.of h2;replace h3:=F.of h3;clear h12;have R:=F.r;clear F
 change (Code.ret).wp _ _ _ _
 refine wp_ret ?_
 change bodyPost Try.prog Try.f13 (fun e w'=>e=.returned (.bool true)∧Keep (fun g=>g < W.heap.size) W w') .ret a21 w5
 refine ret_one rfl R h4 ?_
 exact ⟨rfl,K1⟩
set_option maxRecDepth 100000 in
set_option maxHeartbeats 4000000 in
theorem alike_r {W:World} {t u:Tm} {a b:Option Addr} {c d:Nat} {f0:Act} {w0:World} (R:FrS 21 f0) (h0:f0.tmps[0]? = some (.agg #[.int .i64 t.k,.string (str t.nm),.int .i64 t.i,.slice a t.args.length c])) (h1:f0.tmps[1]? = some (.agg #[.int .i64 u.k,.string (str u.nm),.int .i64 u.i,.slice b u.args.length d])) (K1:Keep (fun g=>g < W.heap.size) W w0)  (HZ:Hid (¬ t.k=0∧¬ u.k=0)) (HT:Hid (TmAt W.heap.size W t a c)) (HU:Hid (TmAt W.heap.size W u b d)) (HR:Hid (t.ok=true∧u.ok=true∧t.tree=u.tree)):cA13_0.wp Try.prog (bodyPost Try.prog Try.f13 (fun e w'=>e=.returned (.bool true)∧Keep (fun g=>g < W.heap.size) W w')) f0 w0:=by
 refine wp_seq (x:=cA13_1) (y:=cA13_2) ?_
 change (Code.region 0 OA13_0 false).wp _ _ _ _
 refine reg_in (l:=[0,1,2]) rfl ?_
 have F:=fe_ R;clear R
 have Y:(execOp f0.eval oA13_0_0).run Try.prog w0=.ok (.value (.pointer (some ⟨w0.heap.size,0,none⟩))) (w0.alloc (.cells #[.int .i64 t.k,.string (str t.nm),.int .i64 t.i,.slice a t.args.length c] 24)):=by have r0:=F.of h0;unfold oA13_0_0;go_simp
 have B22:=Blk.new w0 24 #[.int .i64 t.k,.string (str t.nm),.int .i64 t.i,.slice a t.args.length c]
 obtain ⟨w23,hw⟩:∃ x,x=w0.alloc (.cells #[.int .i64 t.k,.string (str t.nm),.int .i64 t.i,.slice a t.args.length c] 24):=⟨_,rfl⟩;rw [← hw] at Y B22
 obtain ⟨b22,hb⟩:∃ x,x=w0.heap.size:=⟨_,rfl⟩;rw [← hb] at Y B22
 have LK1_b22:=lk_ hb K1;replace K1:=ka_ hw K1;clear hw hb
 refine sw_ gA13_0_0 Y F fun a24 F h2=>?_;clear Y
 have Y:(execOp a24.eval oA13_0_1).run Try.prog w23=.ok (.value (.pointer (some ⟨w23.heap.size,0,none⟩))) (w23.alloc (.cells #[.int .i64 u.k,.string (str u.nm),.int .i64 u.i,.slice b u.args.length d] 24)):=by have r1:=F.of h1;unfold oA13_0_1;go_simp
 have B25:=Blk.new w23 24 #[.int .i64 u.k,.string (str u.nm),.int .i64 u.i,.slice b u.args.length d]
 obtain ⟨w26,hw⟩:∃ x,x=w23.alloc (.cells #[.int .i64 u.k,.string (str u.nm),.int .i64 u.i,.slice b u.args.length d] 24):=⟨_,rfl⟩;rw [← hw] at Y B25
 obtain ⟨b25,hb⟩:∃ x,x=w23.heap.size:=⟨_,rfl⟩;rw [← hb] at Y B25
 have Nb22_b25:=nb_ hb B22;replace B22:=ba_ hw B22;have LK1_b25:=lk_ hb K1;replace K1:=ka_ hw K1;clear hw hb
 refine sv_ gA13_0_1 Y fun a27 e=>?_;clear Y
 have h3:=pt_ F e;replace F:=pu_ F e;replace h2:=so_ e h2;clear e
 have Y:(execOp a27.eval oA13_0_2).run Try.prog w26=.ok (.value (.bool false)) w26:=by unfold oA13_0_2;go_simp
 refine sv_ gA13_0_2 Y fun a28 e=>?_;clear Y
 have h4:=pt_ F e;replace F:=pu_ F e;replace h2:=so_ e h2;replace h3:=so_ e h3;clear e
 refine st_end ?_
 clear h0;clear h1;have R:=F.r;clear F
 change (cA13_2).wp _ _ _ _
 refine wp_seq (x:=cA13_3) (y:=cA13_10) ?_
 refine wp_seq (x:=cA13_4) (y:=cA13_5) ?_
 change (Code.region 1 OA13_1 false).wp _ _ _ _
 refine reg_in (l:=[0,1,2,3,4,5,6,7]) rfl ?_
 have F:=fe_ R;clear R
 refine sv_ gA13_1_0 (yf0_ rfl (F.of h2)) fun a29 e=>?_
 have h5:=pt_ F e;replace F:=pu_ F e;clear e
 refine sv_ gA13_1_1 (yk0_ rfl h5 B22) fun a30 e=>?_
 clear h5;have h6:=pt_ F e;replace F:=pu_ F e;clear e
 have Y:(execOp a30.eval oA13_1_2).run Try.prog w26=.ok (.value (.bool false)) w26:=by have hk:=HZ.out.1;unfold oA13_1_2;go_simp
 refine sw_ gA13_1_2 Y F fun a31 F h7=>?_;clear Y h6
 refine sv_ gA13_1_3 (ym_ rfl h7) fun a32 e=>?_
 clear h7;have h8:=pt_ F e;replace F:=pu_ F e;clear e
 refine st_val gA13_1_4 rfl (wanted_is (j:=3) (d:=8) rfl rfl h8 rfl) (yf0_ rfl (F.of h3)) fun a33 e=>?_
 have h9:=pt_ F e;replace F:=pu_ F e;replace h8:=so_ e h8;clear e
 refine st_val gA13_1_5 rfl (wanted_is (j:=3) (d:=8) rfl rfl h8 rfl) (yk0_ rfl h9 B25) fun a34 e=>?_
 clear h9;have h10:=pt_ F e;replace F:=pu_ F e;replace h8:=so_ e h8;clear e
 have Y:(execOp a34.eval oA13_1_6).run Try.prog w26=.ok (.value (.bool false)) w26:=by have hk:=HZ.out.2;unfold oA13_1_6;go_simp
 refine st_val gA13_1_6 rfl (wanted_is (j:=3) (d:=8) rfl rfl h8 rfl) Y fun a35 e=>?_;clear Y
 clear h10;have h11:=pt_ F e;replace F:=pu_ F e;replace h8:=so_ e h8;clear e
 have Y:(execOp a35.eval oA13_1_7).run Try.prog w26=.ok (.value (.bool false)) w26:=by unfold oA13_1_7;go_simp
 refine sw_ gA13_1_7 Y F fun a36 F h12=>?_;clear Y h8 h11
 refine st_end ?_
 replace h2:=F.of h2;replace h3:=F.of h3;replace h4:=F.of h4;have R:=F.r;clear F
 change (cA13_5).wp _ _ _ _
 refine wp_cond_false (x:=cA13_6) (y:=Code.skip) (eval_slot h12) ?_
 refine wp_skip ?_
 change (cA13_10).wp _ _ _ _
 refine wp_seq (x:=cA13_11) (y:=Code.ret) ?_
 change (Code.region 3 OA13_3 false).wp _ _ _ _
 refine reg_in (l:=[0,1,2,3]) rfl ?_
 have F:=fe_ R;clear R
 refine sv_ gA13_3_0 (yl4_ rfl (F.of h2) B22) fun a37 e=>?_
 have h18:=pt_ F e;replace F:=pu_ F e;clear e
 refine sv_ gA13_3_1 (yl4_ rfl (F.of h3) B25) fun a38 e=>?_
 have h19:=pt_ F e;replace F:=pu_ F e;replace h18:=so_ e h18;clear e
 refine st_call gA13_3_2 rfl (wanted_free rfl) (yc2_ enA13_35 rfl h18 h19) ((refsame_ok (HT.out.on K1) (HU.out.on K1) HR.out.1 HR.out.2.1 HR.out.2.2).mono ?_)
 rintro e9 w39 ⟨rfl,kk⟩
 replace K1:=keep_onto K1 kk
 replace B22:=blk_on B22 kk
 replace B25:=blk_on B25 kk
 clear kk
 refine ⟨_,rfl,fun a40 e=>?_⟩
 clear h18 h19;have h20:=pt_ F e;replace F:=pu_ F e;clear e
 refine sv_ gA13_3_3 (ya_ rfl h20) fun a41 e=>?_
 clear h20 h4;have h4:=pt_ F e;replace F:=pu_ F e;clear e
 refine st_end ?_
 clear h2;clear h3;clear h12;have R:=F.r;clear F
 change (Code.ret).wp _ _ _ _
 refine wp_ret ?_
 change bodyPost Try.prog Try.f13 (fun e w'=>e=.returned (.bool true)∧Keep (fun g=>g < W.heap.size) W w') .ret a41 w39
 refine ret_one rfl R h4 ?_
 exact ⟨rfl,K1⟩
theorem ok_kind0 {t:Tm} (h:t.ok=true):¬ t.k=0:=fun e=>by rcases Tm.ok_kind h with h | h | h | h <;> omega
def LikeP (t u:Tm):Prop:=(t.k=0∧u.k=0)∨(t.ok=true∧u.ok=true∧t.tree=u.tree)
theorem like_ok {W:World} {t u:Tm} {a b:Option Addr} {c d:Nat} (hT:TmAt W.heap.size W t a c) (hU:TmAt W.heap.size W u b d) (h:LikeP t u):Calls Try.prog 13 #[tv t a c,tv u b d] W fun e w'=>e=.returned (.bool true)∧Keep (fun g=>g < W.heap.size) W w':=by
  refine enter_sx Try.func13 bodyA13 rfl (by show (2:Nat) ≤ 21;decide) fun f0 R hs=>?_
  rcases h with h | h
  · exact alike_z R (hs 0 _ rfl) (hs 1 _ rfl) (Keep.refl _ W) (Lib.hid h)
  · exact alike_r R (hs 0 _ rfl) (hs 1 _ rfl) (Keep.refl _ W) (Lib.hid ⟨ok_kind0 h.1,ok_kind0 h.2.1⟩) (Lib.hid hT) (Lib.hid hU) (Lib.hid h)
def oA23_0_0:Oper:=⟨some 1,Op.box 24 (Operand.tmp 0),0, "ref.go:10",#[],none⟩
def oA23_0_1:Oper:=⟨some 2,Op.alloc 24,0, "ref.go:10",#[],none⟩
def OA23_0:Array Oper:=List.toArray (oA23_0_0::oA23_0_1::[])
theorem gA23_0_0:OA23_0[0]? = some oA23_0_0:=rfl
theorem gA23_0_1:OA23_0[1]? = some oA23_0_1:=rfl
def cA23_1:Code:=Code.region 0 OA23_0 false
def oA23_1_0:Oper:=⟨some 3,Op.load 24 (Operand.tmp 1),24, "ref.go:10",#[],none⟩
def oA23_1_1:Oper:=⟨some 4,Op.call { callee:=Callee.value (Operand.func 20),args:=#[Operand.const (Value.string { data:=#[91,93] })],argTypes:=#[9] },24, "ref.go:10",#[],none⟩
def oA23_1_2:Oper:=⟨some 5,Op.buildSlice 22 2 #[(0,Operand.tmp 3),(1,Operand.tmp 4)],22, "ref.go:10",#[ed_ 0,ed_ 1],none⟩
def oA23_1_3:Oper:=⟨some 6,Op.call { callee:=Callee.value (Operand.func 15),args:=#[Operand.const (Value.string { data:=#[101,114,114,111,114] }),Operand.tmp 5],argTypes:=#[9,22] },24, "ref.go:10",#[ed_ 2,ec_ 1],none⟩
def oA23_1_4:Oper:=⟨none,Op.store 24 (Operand.tmp 2) (Operand.tmp 6),0, "ref.go:10",#[ed_ 3,ec_ 3,ep_ 0,ep_ 1,ep_ 2,ep_ 3],none⟩
def OA23_1:Array Oper:=List.toArray (oA23_1_0::oA23_1_1::oA23_1_2::oA23_1_3::oA23_1_4::[])
theorem gA23_1_0:OA23_1[0]? = some oA23_1_0:=rfl
theorem gA23_1_1:OA23_1[1]? = some oA23_1_1:=rfl
theorem gA23_1_2:OA23_1[2]? = some oA23_1_2:=rfl
theorem gA23_1_3:OA23_1[3]? = some oA23_1_3:=rfl
theorem gA23_1_4:OA23_1[4]? = some oA23_1_4:=rfl
theorem nsA23_1:Region.noSelect OA23_1=true:=by kernel_rfl
def cA23_3:Code:=Code.region 1 OA23_1 true
def cA23_2:Code:=Code.seq cA23_3 Code.ret
def cA23_0:Code:=Code.seq cA23_1 cA23_2
theorem bodyA23:Try.f23.body=some cA23_0:=by kernel_rfl
set_option maxRecDepth 100000 in
set_option maxHeartbeats 4000000 in
theorem rball_w {P:Nat→Prop} {W:World} {t:Tm} {a:Option Addr} {c:Nat} {f0:Act} {w0:World} (R:FrS 7 f0) (h0:f0.tmps[0]? = some (.agg #[.int .i64 t.k,.string (str t.nm),.int .i64 t.i,.slice a t.args.length c])) (K1:Keep (fun g=>g < W.heap.size) W w0)  (HT:Hid (OwnP P W t a c)):cA23_0.wp Try.prog (bodyPost Try.prog Try.f23 (fun e w'=>∃ a' c',e=.returned (tv (ballT t) a' c')∧OwnP (fun g=>P g∨W.heap.size ≤ g) w' (ballT t) a' c'∧Keep (fun g=>g < W.heap.size) W w')) f0 w0:=by
 refine wp_seq (x:=cA23_1) (y:=cA23_2) ?_
 change (Code.region 0 OA23_0 false).wp _ _ _ _
 refine reg_in (l:=[0,1]) rfl ?_
 have F:=fe_ R;clear R
 have Y:(execOp f0.eval oA23_0_0).run Try.prog w0=.ok (.value (.pointer (some ⟨w0.heap.size,0,none⟩))) (w0.alloc (.cells #[.int .i64 t.k,.string (str t.nm),.int .i64 t.i,.slice a t.args.length c] 24)):=by have r0:=F.of h0;unfold oA23_0_0;go_simp
 have B1:=Blk.new w0 24 #[.int .i64 t.k,.string (str t.nm),.int .i64 t.i,.slice a t.args.length c]
 obtain ⟨w2,hw⟩:∃ x,x=w0.alloc (.cells #[.int .i64 t.k,.string (str t.nm),.int .i64 t.i,.slice a t.args.length c] 24):=⟨_,rfl⟩;rw [← hw] at Y B1
 obtain ⟨b1,hb⟩:∃ x,x=w0.heap.size:=⟨_,rfl⟩;rw [← hb] at Y B1
 have LK1_b1:=lk_ hb K1;replace K1:=ka_ hw K1;clear hw hb
 refine sw_ gA23_0_0 Y F fun a3 F h1=>?_;clear Y
 have Y:(execOp a3.eval oA23_0_1).run Try.prog w2=.ok (.value (.pointer (some ⟨w2.heap.size,0,none⟩))) (w2.alloc (.cells #[.int .i64 0,.string (⟨#[]⟩),.int .i64 0,.slice none 0 0] 24)):=by unfold oA23_0_1;go_simp
 have B4:=Blk.new w2 24 #[.int .i64 0,.string (⟨#[]⟩),.int .i64 0,.slice none 0 0]
 obtain ⟨w5,hw⟩:∃ x,x=w2.alloc (.cells #[.int .i64 0,.string (⟨#[]⟩),.int .i64 0,.slice none 0 0] 24):=⟨_,rfl⟩;rw [← hw] at Y B4
 obtain ⟨b4,hb⟩:∃ x,x=w2.heap.size:=⟨_,rfl⟩;rw [← hb] at Y B4
 have Nb1_b4:=nb_ hb B1;replace B1:=ba_ hw B1;have LK1_b4:=lk_ hb K1;replace K1:=ka_ hw K1;clear hw hb
 refine sv_ gA23_0_1 Y fun a6 e=>?_;clear Y
 have h2:=pt_ F e;replace F:=pu_ F e;replace h1:=so_ e h1;clear e
 refine st_end ?_
 clear h0;have R:=F.r;clear F
 change (cA23_2).wp _ _ _ _
 refine wp_seq (x:=cA23_3) (y:=Code.ret) ?_
 change (Code.region 1 OA23_1 true).wp _ _ _ _
 have Xb1:=B1.lt
 have Xb4:=B4.lt
 have D9:=B1
 have D10:=B4
 have K7:=(Keep.refl (fun g=>g < w5.heap.size∧g ≠ b4) w5).drew
 have EK1:=K1
 refine dr_in (S:=(fun W=>Keep (fun g=>g < w5.heap.size∧g ≠ b4) w5 W)) (n:=5) (l:=lb_ 5 0) (by kernel_rfl) K7 rfl (by kernel_rfl) ?_
 replace K1:=K1.drew
 replace B1:=B1.drew
 replace B4:=B4.drew
 generalize w5.drew=w8 at K7 K1 B1 B4 ⊢
 have F:=fe_ R;clear R
 refine dt_ (i:=0) (l':=(lb_ 5 1)) gA23_1_0 rfl nsA23_1 (wanted_free rfl) K7 (fun W7 hS=>(yl4_ rfl (F.of h1) (D9.keep hS ⟨Xb1,Nb1_b4⟩))) fun a11 e=>?_
 have h3:=pt_ F e;replace F:=pu_ F e;clear e
 refine dr_only (i:=1) (fuel:=3) (by kernel_rfl) ?_
 have Y:(execOp a11.eval oA23_1_1).run Try.prog w8=.ok (.enter 20 #[.string (⟨#[91,93]⟩)]) w8:=by unfold oA23_1_1;go_simp
 refine dr_call (l':=(lb_ 5 3)) gA23_1_1 rfl (by kernel_rfl) (wanted_free rfl) Y ((refA_nil _).mono ?_);clear Y
 rintro e9 w12 ⟨rfl,kk⟩
 replace K1:=keep_onto K1 kk
 replace K7:=K7.trans kk.all
 replace B1:=blk_on B1 kk
 replace B4:=blk_on B4 kk
 clear kk
 refine ⟨_,rfl,K7,fun a13 e=>?_⟩
 have h4:=pt_ F e;replace F:=pu_ F e;replace h3:=so_ e h3;clear e
 refine dr_only (i:=2) (fuel:=2) (by kernel_rfl) ?_
 have Y:(execOp a13.eval oA23_1_2).run Try.prog w12=.ok (.value (.slice (some ⟨w12.heap.size,0,none⟩) 2 2)) (w12.alloc (.cells #[.int .i64 t.k,.string (str t.nm),.int .i64 t.i,.slice a t.args.length c,.int .i64 aNil.k,.string (str aNil.nm),.int .i64 aNil.i,.slice none aNil.args.length 0] 24)):=by unfold oA23_1_2;go_simp
 have B14:=Blk.new w12 24 #[.int .i64 t.k,.string (str t.nm),.int .i64 t.i,.slice a t.args.length c,.int .i64 aNil.k,.string (str aNil.nm),.int .i64 aNil.i,.slice none aNil.args.length 0]
 obtain ⟨w15,hw⟩:∃ x,x=w12.alloc (.cells #[.int .i64 t.k,.string (str t.nm),.int .i64 t.i,.slice a t.args.length c,.int .i64 aNil.k,.string (str aNil.nm),.int .i64 aNil.i,.slice none aNil.args.length 0] 24):=⟨_,rfl⟩;rw [← hw] at Y B14
 obtain ⟨b14,hb⟩:∃ x,x=w12.heap.size:=⟨_,rfl⟩;rw [← hb] at Y B14
 have Nb1_b14:=nb_ hb B1;replace B1:=ba_ hw B1;have Nb4_b14:=nb_ hb B4;replace B4:=ba_ hw B4;have LK1_b14:=lk_ hb K1;replace K1:=ka_ hw K1;have LK7_b14:=lk_ hb K7;replace K7:=ka_ hw K7;clear hw hb
 refine dr_val (l':=(lb_ 5 7)) gA23_1_2 rfl (by kernel_rfl) (wanted_free rfl) Y K7 fun a16 e=>?_;clear Y
 clear h3 h4;have h5:=pt_ F e;replace F:=pu_ F e;clear e
 refine dr_only (i:=3) (fuel:=1) (by kernel_rfl) ?_
 have Y:(execOp a16.eval oA23_1_3).run Try.prog w15=.ok (.enter 15 #[.string (⟨#[101,114,114,111,114]⟩),.slice (some ⟨b14,0,none⟩) 2 2]) w15:=by unfold oA23_1_3;go_simp
 refine dr_call (l':=(lb_ 5 15)) gA23_1_3 rfl (by kernel_rfl) (wanted_free rfl) Y ((refC_any _ [101,114,114,111,114] [t,aNil] (some ⟨b14,0,none⟩) 2).mono ?_);clear Y
 rintro e9 w17 ⟨rfl,kk⟩
 replace K1:=keep_onto K1 kk
 replace K7:=K7.trans kk.all
 replace B1:=blk_on B1 kk
 replace B4:=blk_on B4 kk
 replace B14:=blk_on B14 kk
 clear kk
 refine ⟨_,rfl,K7,fun a18 e=>?_⟩
 clear h5;have h6:=pt_ F e;replace F:=pu_ F e;clear e
 refine dr_only (i:=4) (fuel:=0) (by kernel_rfl) ?_
 obtain ⟨w19,Y,hk,hB⟩:=ys4_ (o:=oA23_1_4) rfl (F.of h2) h6 B4
 replace K1:=kx_ hk K1 (Nat.not_lt.2 LK1_b4);replace K7:=kx_ hk K7 (fun hx=>hx.2 rfl);replace B1:=bx_ hk B1 Nb1_b4;replace B14:=bx_ hk B14 (Ne.symm Nb4_b14);clear B4;have B4:=hB;clear hB hk
 refine dr_skip (l':=(lb_ 5 31)) gA23_1_4 rfl (by kernel_rfl) (wanted_free rfl) Y K7 ?_;clear Y
 refine dr_end (by kernel_rfl) ?_
 clear h1;replace h2:=F.of h2;clear h6;have R:=F.r;clear F
 clear K7 EK1 D9 D10
 change (Code.ret).wp _ _ _ _
 refine wp_ret ?_
 change bodyPost Try.prog Try.f23 (fun e w'=>∃ a' c',e=.returned (tv (ballT t) a' c')∧OwnP (fun g=>P g∨W.heap.size ≤ g) w' (ballT t) a' c'∧Keep (fun g=>g < W.heap.size) W w') .ret a18 w19
 refine ret_cell (fn:=Try.f23) rfl R h2 B4 ?_
 refine ⟨_,_,rfl,OwnP.comp (ps:=[(t,a,c),(aNil,none,0)]) B14 (.inr LK1_b14) (fun p hp=>?_) (by decide) (Nat.le_of_ble_eq_true rfl),K1⟩
 rcases List.mem_cons.1 hp with rfl | hp
 · exact (HT.out.on (K1.less fun g hg=>hg.2)).up fun g _ h=>.inl h
 · rw [List.mem_singleton.1 hp];exact .leaf (by decide) (by decide) (by decide)
theorem refBall_any {P:Nat→Prop} {W:World} {t:Tm} {a:Option Addr} {c:Nat} (hT:OwnP P W t a c):Calls Try.prog 23 #[tv t a c] W fun e w'=>∃ a' c',e=.returned (tv (ballT t) a' c')∧OwnP (fun g=>P g∨W.heap.size ≤ g) w' (ballT t) a' c'∧Keep (fun g=>g < W.heap.size) W w':=by
  refine enter_sx Try.func23 bodyA23 rfl (by show (1:Nat) ≤ 7;decide) fun f0 R hs=>?_
  exact rball_w R (hs 0 _ rfl) (Keep.refl _ W) (Lib.hid hT)
def oA25_0_0:Oper:=⟨some 3,Op.box 24 (Operand.tmp 1),0, "ref.go:13",#[],none⟩
def oA25_0_1:Oper:=⟨some 4,Op.alloc 24,0, "ref.go:13",#[],none⟩
def OA25_0:Array Oper:=List.toArray (oA25_0_0::oA25_0_1::[])
theorem gA25_0_0:OA25_0[0]? = some oA25_0_0:=rfl
theorem gA25_0_1:OA25_0[1]? = some oA25_0_1:=rfl
def cA25_1:Code:=Code.region 0 OA25_0 false
def oA25_1_0:Oper:=⟨some 5,Op.move (Operand.tmp 0),9, "ref.go:14",#[],none⟩
def oA25_1_1:Oper:=⟨some 6,Op.call { callee:=Callee.value (Operand.func 20),args:=#[Operand.tmp 5],argTypes:=#[9] },24, "ref.go:14",#[ed_ 0],none⟩
def oA25_1_2:Oper:=⟨some 7,Op.load 24 (Operand.tmp 3),24, "ref.go:14",#[],none⟩
def oA25_1_3:Oper:=⟨some 8,Op.buildSlice 22 2 #[(0,Operand.tmp 6),(1,Operand.tmp 7)],22, "ref.go:14",#[ed_ 1,ed_ 2],none⟩
def oA25_1_4:Oper:=⟨some 9,Op.call { callee:=Callee.value (Operand.func 15),args:=#[Operand.const (Value.string { data:=#[116,121,112,101,95,101,114,114,111,114] }),Operand.tmp 8],argTypes:=#[9,22] },24, "ref.go:14",#[ed_ 3,ec_ 1],none⟩
def oA25_1_5:Oper:=⟨some 10,Op.call { callee:=Callee.value (Operand.func 23),args:=#[Operand.tmp 9],argTypes:=#[24] },24, "ref.go:14",#[ed_ 4,ec_ 4],none⟩
def oA25_1_6:Oper:=⟨none,Op.store 24 (Operand.tmp 4) (Operand.tmp 10),0, "ref.go:14",#[ed_ 5,ec_ 5,ep_ 0,ep_ 1,ep_ 2,ep_ 3,ep_ 4,ep_ 5],none⟩
def OA25_1:Array Oper:=List.toArray (oA25_1_0::oA25_1_1::oA25_1_2::oA25_1_3::oA25_1_4::oA25_1_5::oA25_1_6::[])
theorem gA25_1_0:OA25_1[0]? = some oA25_1_0:=rfl
theorem gA25_1_1:OA25_1[1]? = some oA25_1_1:=rfl
theorem gA25_1_2:OA25_1[2]? = some oA25_1_2:=rfl
theorem gA25_1_3:OA25_1[3]? = some oA25_1_3:=rfl
theorem gA25_1_4:OA25_1[4]? = some oA25_1_4:=rfl
theorem gA25_1_5:OA25_1[5]? = some oA25_1_5:=rfl
theorem gA25_1_6:OA25_1[6]? = some oA25_1_6:=rfl
theorem nsA25_1:Region.noSelect OA25_1=true:=by kernel_rfl
def cA25_3:Code:=Code.region 1 OA25_1 true
def cA25_2:Code:=Code.seq cA25_3 Code.ret
def cA25_0:Code:=Code.seq cA25_1 cA25_2
theorem enA25_20:Enters Try.prog 20:=enters_of Try.func20 (by kernel_rfl) rfl
theorem enA25_23:Enters Try.prog 23:=enters_of Try.func23 (by kernel_rfl) rfl
theorem bodyA25:Try.f25.body=some cA25_0:=by kernel_rfl
def tyF (nm:List UInt8) (t:Tm):Tm:=.node 4 [116,121,112,101,95,101,114,114,111,114] 0 [.node 3 nm 0 [],t]
set_option maxRecDepth 100000 in
set_option maxHeartbeats 4000000 in
theorem rtype_w {P:Nat→Prop} {W:World} {nm:List UInt8} {t:Tm} {a:Option Addr} {c:Nat} {f0:Act} {w0:World} (R:FrS 11 f0) (h0:f0.tmps[0]? = some (.string (str nm))) (h1:f0.tmps[1]? = some (.agg #[.int .i64 t.k,.string (str t.nm),.int .i64 t.i,.slice a t.args.length c])) (K1:Keep (fun g=>g < W.heap.size) W w0)  (HT:Hid (OwnP P W t a c)) (HNM:Hid (nm.length ≤ maxLen)):cA25_0.wp Try.prog (bodyPost Try.prog Try.f25 (fun e w'=>∃ a' c',e=.returned (tv (ballT (tyF nm t)) a' c')∧OwnP (fun g=>P g∨W.heap.size ≤ g) w' (ballT (tyF nm t)) a' c'∧Keep (fun g=>g < W.heap.size) W w')) f0 w0:=by
 refine wp_seq (x:=cA25_1) (y:=cA25_2) ?_
 change (Code.region 0 OA25_0 false).wp _ _ _ _
 refine reg_in (l:=[0,1]) rfl ?_
 have F:=fe_ R;clear R
 have Y:(execOp f0.eval oA25_0_0).run Try.prog w0=.ok (.value (.pointer (some ⟨w0.heap.size,0,none⟩))) (w0.alloc (.cells #[.int .i64 t.k,.string (str t.nm),.int .i64 t.i,.slice a t.args.length c] 24)):=by have r1:=F.of h1;unfold oA25_0_0;go_simp
 have B1:=Blk.new w0 24 #[.int .i64 t.k,.string (str t.nm),.int .i64 t.i,.slice a t.args.length c]
 obtain ⟨w2,hw⟩:∃ x,x=w0.alloc (.cells #[.int .i64 t.k,.string (str t.nm),.int .i64 t.i,.slice a t.args.length c] 24):=⟨_,rfl⟩;rw [← hw] at Y B1
 obtain ⟨b1,hb⟩:∃ x,x=w0.heap.size:=⟨_,rfl⟩;rw [← hb] at Y B1
 have LK1_b1:=lk_ hb K1;replace K1:=ka_ hw K1;clear hw hb
 refine sw_ gA25_0_0 Y F fun a3 F h3=>?_;clear Y
 have Y:(execOp a3.eval oA25_0_1).run Try.prog w2=.ok (.value (.pointer (some ⟨w2.heap.size,0,none⟩))) (w2.alloc (.cells #[.int .i64 0,.string (⟨#[]⟩),.int .i64 0,.slice none 0 0] 24)):=by unfold oA25_0_1;go_simp
 have B4:=Blk.new w2 24 #[.int .i64 0,.string (⟨#[]⟩),.int .i64 0,.slice none 0 0]
 obtain ⟨w5,hw⟩:∃ x,x=w2.alloc (.cells #[.int .i64 0,.string (⟨#[]⟩),.int .i64 0,.slice none 0 0] 24):=⟨_,rfl⟩;rw [← hw] at Y B4
 obtain ⟨b4,hb⟩:∃ x,x=w2.heap.size:=⟨_,rfl⟩;rw [← hb] at Y B4
 have Nb1_b4:=nb_ hb B1;replace B1:=ba_ hw B1;have LK1_b4:=lk_ hb K1;replace K1:=ka_ hw K1;clear hw hb
 refine sv_ gA25_0_1 Y fun a6 e=>?_;clear Y
 have h4:=pt_ F e;replace F:=pu_ F e;replace h3:=so_ e h3;clear e
 refine st_end ?_
 replace h0:=F.of h0;clear h1;have R:=F.r;clear F
 change (cA25_2).wp _ _ _ _
 refine wp_seq (x:=cA25_3) (y:=Code.ret) ?_
 change (Code.region 1 OA25_1 true).wp _ _ _ _
 have Xb1:=B1.lt
 have Xb4:=B4.lt
 have D9:=B1
 have D10:=B4
 have K7:=(Keep.refl (fun g=>g < w5.heap.size∧g ≠ b4) w5).drew
 have EK1:=K1
 refine dr_in (S:=(fun W=>Keep (fun g=>g < w5.heap.size∧g ≠ b4) w5 W)) (n:=7) (l:=lb_ 7 0) (by kernel_rfl) K7 rfl (by kernel_rfl) ?_
 replace K1:=K1.drew
 replace B1:=B1.drew
 replace B4:=B4.drew
 generalize w5.drew=w8 at K7 K1 B1 B4 ⊢
 have F:=fe_ R;clear R
 refine dt_ (i:=0) (l':=(lb_ 7 1)) gA25_1_0 rfl nsA25_1 (wanted_free rfl) K7 (fun _ _=>(ym_ rfl (F.of h0))) fun a11 e=>?_
 have h5:=pt_ F e;replace F:=pu_ F e;clear e
 refine dt_ (i:=2) (l':=(lb_ 7 5)) gA25_1_2 rfl nsA25_1 (wanted_free rfl) K7 (fun W7 hS=>(yl4_ rfl (F.of h3) (D9.keep hS ⟨Xb1,Nb1_b4⟩))) fun a12 e=>?_
 have h7:=pt_ F e;replace F:=pu_ F e;replace h5:=so_ e h5;clear e
 refine dr_only (i:=1) (fuel:=4) (by kernel_rfl) ?_
 refine dr_call (l':=(lb_ 7 7)) gA25_1_1 rfl (by kernel_rfl) (wanted_free rfl) (yc1_ enA25_20 rfl h5) ((refA_any _ nm).mono ?_)
 rintro e9 w13 ⟨rfl,kk⟩
 replace K1:=keep_onto K1 kk
 replace K7:=K7.trans kk.all
 replace B1:=blk_on B1 kk
 replace B4:=blk_on B4 kk
 clear kk
 refine ⟨_,rfl,K7,fun a14 e=>?_⟩
 clear h5;have h6:=pt_ F e;replace F:=pu_ F e;replace h7:=so_ e h7;clear e
 refine dr_only (i:=3) (fuel:=3) (by kernel_rfl) ?_
 have Y:(execOp a14.eval oA25_1_3).run Try.prog w13=.ok (.value (.slice (some ⟨w13.heap.size,0,none⟩) 2 2)) (w13.alloc (.cells #[.int .i64 ((Tm.node 3 nm 0 []).k),.string (str (Tm.node 3 nm 0 []).nm),.int .i64 ((Tm.node 3 nm 0 []).i),.slice none (Tm.node 3 nm 0 []).args.length 0,.int .i64 t.k,.string (str t.nm),.int .i64 t.i,.slice a t.args.length c] 24)):=by unfold oA25_1_3;go_simp
 have B15:=Blk.new w13 24 #[.int .i64 ((Tm.node 3 nm 0 []).k),.string (str (Tm.node 3 nm 0 []).nm),.int .i64 ((Tm.node 3 nm 0 []).i),.slice none (Tm.node 3 nm 0 []).args.length 0,.int .i64 t.k,.string (str t.nm),.int .i64 t.i,.slice a t.args.length c]
 obtain ⟨w16,hw⟩:∃ x,x=w13.alloc (.cells #[.int .i64 ((Tm.node 3 nm 0 []).k),.string (str (Tm.node 3 nm 0 []).nm),.int .i64 ((Tm.node 3 nm 0 []).i),.slice none (Tm.node 3 nm 0 []).args.length 0,.int .i64 t.k,.string (str t.nm),.int .i64 t.i,.slice a t.args.length c] 24):=⟨_,rfl⟩;rw [← hw] at Y B15
 obtain ⟨b15,hb⟩:∃ x,x=w13.heap.size:=⟨_,rfl⟩;rw [← hb] at Y B15
 have Nb1_b15:=nb_ hb B1;replace B1:=ba_ hw B1;have Nb4_b15:=nb_ hb B4;replace B4:=ba_ hw B4;have LK1_b15:=lk_ hb K1;replace K1:=ka_ hw K1;have LK7_b15:=lk_ hb K7;replace K7:=ka_ hw K7;clear hw hb
 refine dr_val (l':=(lb_ 7 15)) gA25_1_3 rfl (by kernel_rfl) (wanted_free rfl) Y K7 fun a17 e=>?_;clear Y
 clear h6 h7;have h8:=pt_ F e;replace F:=pu_ F e;clear e
 refine dr_only (i:=4) (fuel:=2) (by kernel_rfl) ?_
 have Y:(execOp a17.eval oA25_1_4).run Try.prog w16=.ok (.enter 15 #[.string (⟨#[116,121,112,101,95,101,114,114,111,114]⟩),.slice (some ⟨b15,0,none⟩) 2 2]) w16:=by unfold oA25_1_4;go_simp
 refine dr_call (l':=(lb_ 7 31)) gA25_1_4 rfl (by kernel_rfl) (wanted_free rfl) Y ((refC_any _ [116,121,112,101,95,101,114,114,111,114] [Tm.node 3 nm 0 [],t] (some ⟨b15,0,none⟩) 2).mono ?_);clear Y
 rintro e9 w18 ⟨rfl,kk⟩
 replace K1:=keep_onto K1 kk
 replace K7:=K7.trans kk.all
 replace B1:=blk_on B1 kk
 replace B4:=blk_on B4 kk
 replace B15:=blk_on B15 kk
 clear kk
 refine ⟨_,rfl,K7,fun a19 e=>?_⟩
 clear h8;have h9:=pt_ F e;replace F:=pu_ F e;clear e
 refine dr_only (i:=5) (fuel:=1) (by kernel_rfl) ?_
 have ho:OwnP (fun g=>((P g∧g < W.heap.size)∨g=b15)) w18 (tyF nm t) (some ⟨b15,0,none⟩) 2:=OwnP.comp (ps:=[(Tm.node 3 nm 0 [],none,0),(t,a,c)]) B15 (.inr rfl) (fun p hp=>by rcases List.mem_cons.1 hp with rfl | hp;exact .leaf (by decide) (by decide) HNM.out;rw [List.mem_singleton.1 hp];exact (HT.out.pin (K1.less fun g hg=>hg.2)).up fun g _ h=>.inl h) (by decide) (Nat.le_of_ble_eq_true rfl)
 have hca:=refBall_any ho;clear ho
 have U9:=B4.lt;have L9:=B15.lt
 have HWX:=K1.size
 refine dr_call (l':=(lb_ 7 63)) gA25_1_5 rfl (by kernel_rfl) (wanted_free rfl) (yc1_ enA25_23 rfl h9) ((hca).mono ?_)
 rintro e9 w20 ⟨ax,cx,rfl,hx,kk⟩
 replace K1:=keep_onto K1 kk
 replace K7:=K7.trans kk.all
 replace B1:=blk_on B1 kk
 replace B4:=blk_on B4 kk
 replace B15:=blk_on B15 kk
 clear kk
 clear hca;have HX:=Lib.hid hx;clear hx
 have KX:=Keep.refl (fun g=>(((P g∧g < W.heap.size)∨g=b15)∨w18.heap.size ≤ g)∧g < w20.heap.size) w20
 refine ⟨_,rfl,K7,fun a21 e=>?_⟩
 clear h9;have h10:=pt_ F e;replace F:=pu_ F e;clear e
 refine dr_only (i:=6) (fuel:=0) (by kernel_rfl) ?_
 obtain ⟨w22,Y,hk,hB⟩:=ys4_ (o:=oA25_1_6) rfl (F.of h4) h10 B4
 replace K1:=kx_ hk K1 (Nat.not_lt.2 LK1_b4);replace K7:=kx_ hk K7 (fun hx=>hx.2 rfl);replace KX:=kx_ hk KX (fun hx=>by rcases hx.1 with (h | h) | h;exact absurd h.2 (Nat.not_lt.2 LK1_b4);exact Nb4_b15 h;exact absurd U9 (Nat.not_lt.2 h));replace B1:=bx_ hk B1 Nb1_b4;replace B15:=bx_ hk B15 (Ne.symm Nb4_b15);clear B4;have B4:=hB;clear hB hk
 refine dr_skip (l':=(lb_ 7 127)) gA25_1_6 rfl (by kernel_rfl) (wanted_free rfl) Y K7 ?_;clear Y
 refine dr_end (by kernel_rfl) ?_
 clear h0;clear h3;replace h4:=F.of h4;clear h10;have R:=F.r;clear F
 clear K7 EK1 D9 D10
 change (Code.ret).wp _ _ _ _
 refine wp_ret ?_
 change bodyPost Try.prog Try.f25 (fun e w'=>∃ a' c',e=.returned (tv (ballT (tyF nm t)) a' c')∧OwnP (fun g=>P g∨W.heap.size ≤ g) w' (ballT (tyF nm t)) a' c'∧Keep (fun g=>g < W.heap.size) W w') .ret a21 w22
 refine ret_cell (fn:=Try.f25) rfl R h4 B4 ?_
 exact ⟨ax,cx,rfl,(HX.out.on KX).up (fun g _ h=>by rcases h with (h | h) | h;exact .inl h.1;exact .inr (h ▸ LK1_b15);exact .inr (Nat.le_trans HWX h)),K1⟩
theorem refType_any {P:Nat→Prop} {W:World} {nm:List UInt8} {t:Tm} {a:Option Addr} {c:Nat} (hT:OwnP P W t a c) (hn:nm.length ≤ maxLen):Calls Try.prog 25 #[.string (str nm),tv t a c] W fun e w'=>∃ a' c',e=.returned (tv (ballT (tyF nm t)) a' c')∧OwnP (fun g=>P g∨W.heap.size ≤ g) w' (ballT (tyF nm t)) a' c'∧Keep (fun g=>g < W.heap.size) W w':=by
  refine enter_sx Try.func25 bodyA25 rfl (by show (2:Nat) ≤ 11;decide) fun f0 R hs=>?_
  exact rtype_w R (hs 0 _ rfl) (hs 1 _ rfl) (Keep.refl _ W) (Lib.hid hT) (Lib.hid hn)
end Go.Proofs.Ytmgephleogiaoaa
