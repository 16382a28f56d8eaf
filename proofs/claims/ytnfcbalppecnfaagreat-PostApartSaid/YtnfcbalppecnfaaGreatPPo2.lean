/-
  Package post: whether two terms have a solution; the first message that has one with a pattern: walked with letter frames. No condition but where the terms lie.
-/
import Derived.Test.YtnfcbalppecnfaaGreatPPo1
namespace Go.Proofs.YtnfcbalppecnfaaGreat
open Go.RowKit Go.Maps
set_option linter.unusedVariables false
set_option linter.unusedSimpArgs false
def Fit (t u:Tm):Prop:=∃ f,Uni t.tree u.tree f
theorem fit_yes {t u:Tm} {bs:List BP} {er:Int} (h:SolR t u bs true er):Fit t u:=by
  rcases h with ⟨_,_,h,_⟩ | ⟨_,_,⟨_,h,_⟩ | ⟨_,h,_⟩ | ⟨_,_,f,hf,_⟩⟩
  · cases h
  · cases h
  · cases h
  · exact ⟨f,hf.uni⟩
theorem fit_no {t u:Tm} {bs:List BP} {er:Int} {b:Bool} (h:SolR t u bs false er) (ht:t.right=true) (hu:u.right=true) (hb:(er == (2:Int))=b):b=true↔Fit t u:=by
  rcases h with ⟨hn,_⟩ | ⟨_,_,⟨_,_,he,hf⟩ | ⟨_,_,he,f,hf,_⟩ | ⟨h,_⟩⟩
  · exact absurd ⟨right_of.1 ht,right_of.1 hu⟩ hn
  · subst he;subst hb
    exact ⟨fun h=>by simp at h,fun ⟨f,h⟩=>absurd h (hf f)⟩
  · subst he;subst hb
    exact ⟨fun _=>⟨f,hf.uni⟩,fun _=>rfl⟩
  · cases h
theorem ret_el2 {fn:Func} {R:Ending→World→Prop} {a:Act} {w:World} {p q:Nat} {v u:Value} (hr:fn.results=#[.tmp p,.tmp q]) (hd:a.defers=[]) (hp:a.tmps[p]? = some v) (hq:a.tmps[q]? = some u) (hR:R (.returned (.tuple #[v,u])) w):bodyPost Tryz.prog fn R .ret a w :=
  ⟨hd,_,by simp [results,hr,hp,hq],hR⟩
theorem ret_el3 {fn:Func} {R:Ending→World→Prop} {a:Act} {w:World} {p q r:Nat} {v u x:Value} (hr:fn.results=#[.tmp p,.tmp q,.tmp r]) (hd:a.defers=[]) (hp:a.tmps[p]? = some v) (hq:a.tmps[q]? = some u) (hx:a.tmps[r]? = some x) (hR:R (.returned (.tuple #[v,u,x])) w):bodyPost Tryz.prog fn R .ret a w :=
  ⟨hd,_,by simp [results,hr,hp,hq,hx],hR⟩
def oq79_0_0:Oper:=⟨some 2,Op.box 28 (Operand.tmp 0),0, "post.go:115",#[],none⟩
def oq79_0_1:Oper:=⟨some 3,Op.box 28 (Operand.tmp 1),0, "post.go:115",#[],none⟩
def oq79_0_2:Oper:=⟨some 4,Op.assign (Operand.const (Value.bool false)),4, "post.go:115",#[],none⟩
def Oq79_0:Array Oper:=List.toArray (oq79_0_0::oq79_0_1::oq79_0_2::[])
theorem gq79_0_0:Oq79_0[0]? = some oq79_0_0:=rfl
theorem gq79_0_1:Oq79_0[1]? = some oq79_0_1:=rfl
theorem gq79_0_2:Oq79_0[2]? = some oq79_0_2:=rfl
def cq79_1:Code:=Code.region 0 Oq79_0 false
def oq79_1_0:Oper:=⟨some 9,Op.load 28 (Operand.tmp 2),28, "post.go:116",#[],none⟩
def oq79_1_1:Oper:=⟨some 10,Op.load 28 (Operand.tmp 3),28, "post.go:116",#[],none⟩
def oq79_1_2:Oper:=⟨some 11,Op.call { callee:=Callee.value (Operand.func 58),args:=#[Operand.tmp 9,Operand.tmp 10],argTypes:=#[28,28] },102, "post.go:116",#[ed_ 0,ed_ 1],none⟩
def oq79_1_3:Oper:=⟨some 8,Op.move (Operand.tmp 11),102, "post.go:116",#[ed_ 2],none⟩
def oq79_1_4:Oper:=⟨some 12,Op.extract (Operand.tmp 8) 0,92, "post.go:116",#[ed_ 3],none⟩
def oq79_1_5:Oper:=⟨some 13,Op.extract (Operand.tmp 8) 1,4, "post.go:116",#[ed_ 3,{ on:=7,ground:=Go.Ground.gcOnly Go.Departure.lateStores }],none⟩
def oq79_1_6:Oper:=⟨some 14,Op.extract (Operand.tmp 8) 2,39, "post.go:116",#[ed_ 3,{ on:=8,ground:=Go.Ground.gcOnly Go.Departure.lateStores }],none⟩
def oq79_1_7:Oper:=⟨some 5,Op.assign (Operand.tmp 12),92, "post.go:116",#[ed_ 4,ec_ 2,ep_ 0,ep_ 1,ep_ 2,ep_ 3,ep_ 4,{ on:=5,ground:=Go.Ground.textOnly Go.Departure.lateStores },{ on:=6,ground:=Go.Ground.textOnly Go.Departure.lateStores }],none⟩
def oq79_1_8:Oper:=⟨some 6,Op.assign (Operand.tmp 13),4, "post.go:116",#[ed_ 5,ec_ 7,ep_ 0,ep_ 1,ep_ 2,ep_ 3,ep_ 4,ep_ 5,{ on:=6,ground:=Go.Ground.textOnly Go.Departure.lateStores },ep_ 7],none⟩
def oq79_1_9:Oper:=⟨some 7,Op.assign (Operand.tmp 14),39, "post.go:116",#[ed_ 6,ec_ 8,ep_ 0,ep_ 1,ep_ 2,ep_ 3,ep_ 4,ep_ 5,ep_ 6,ep_ 7,ep_ 8],none⟩
def Oq79_1:Array Oper:=List.toArray (oq79_1_0::oq79_1_1::oq79_1_2::oq79_1_3::oq79_1_4::oq79_1_5::oq79_1_6::oq79_1_7::oq79_1_8::oq79_1_9::[])
theorem gq79_1_0:Oq79_1[0]? = some oq79_1_0:=rfl
theorem gq79_1_1:Oq79_1[1]? = some oq79_1_1:=rfl
theorem gq79_1_2:Oq79_1[2]? = some oq79_1_2:=rfl
theorem gq79_1_3:Oq79_1[3]? = some oq79_1_3:=rfl
theorem gq79_1_4:Oq79_1[4]? = some oq79_1_4:=rfl
theorem gq79_1_5:Oq79_1[5]? = some oq79_1_5:=rfl
theorem gq79_1_6:Oq79_1[6]? = some oq79_1_6:=rfl
theorem gq79_1_7:Oq79_1[7]? = some oq79_1_7:=rfl
theorem gq79_1_8:Oq79_1[8]? = some oq79_1_8:=rfl
theorem gq79_1_9:Oq79_1[9]? = some oq79_1_9:=rfl
def cq79_3:Code:=Code.region 1 Oq79_1 false
def oq79_2_0:Oper:=⟨some 15,Op.move (Operand.tmp 6),4, "post.go:117",#[],none⟩
def oq79_2_1:Oper:=⟨some 16,Op.move (Operand.tmp 15),4, "post.go:117",#[ed_ 0],none⟩
def oq79_2_2:Oper:=⟨some 17,Op.move (Operand.tmp 7),39, "post.go:117",#[eg_ 1],some (1,false)⟩
def oq79_2_3:Oper:=⟨some 18,Op.binOp Go.BinOp.eql 39 (Operand.tmp 17) (Operand.const (Value.int IntKind.i64 2)) 39,4, "post.go:117",#[ed_ 2,eg_ 1],some (1,false)⟩
def oq79_2_4:Oper:=⟨some 19,Op.pick (Operand.tmp 16) (Operand.const (Value.bool true)) (Operand.tmp 18),4, "post.go:117",#[ed_ 1,ed_ 3],none⟩
def oq79_2_5:Oper:=⟨some 4,Op.assign (Operand.tmp 19),4, "post.go:117",#[ed_ 4,ec_ 1,ep_ 0,ep_ 1,ep_ 2,ep_ 3,ep_ 4],none⟩
def Oq79_2:Array Oper:=List.toArray (oq79_2_0::oq79_2_1::oq79_2_2::oq79_2_3::oq79_2_4::oq79_2_5::[])
theorem gq79_2_0:Oq79_2[0]? = some oq79_2_0:=rfl
theorem gq79_2_1:Oq79_2[1]? = some oq79_2_1:=rfl
theorem gq79_2_2:Oq79_2[2]? = some oq79_2_2:=rfl
theorem gq79_2_3:Oq79_2[3]? = some oq79_2_3:=rfl
theorem gq79_2_4:Oq79_2[4]? = some oq79_2_4:=rfl
theorem gq79_2_5:Oq79_2[5]? = some oq79_2_5:=rfl
def cq79_5:Code:=Code.region 2 Oq79_2 false
def cq79_4:Code:=Code.seq cq79_5 Code.ret
def cq79_2:Code:=Code.seq cq79_3 cq79_4
def cq79_0:Code:=Code.seq cq79_1 cq79_2
theorem enq79_33:Enters Tryz.prog 58:=enters_of Tryz.func58 (by kernel_rfl) rfl
theorem bodyq79:Tryz.f49.body=some cq79_0:=by kernel_rfl
set_option maxRecDepth 100000 in
set_option maxHeartbeats 4000000 in
theorem have_w {W:World} {t u:Tm} {a b:Option Addr} {c d:Nat} {f0:Act} {w0:World} (R:FrS 20 f0) (h0:f0.tmps[0]? = some (.agg #[.int .i64 t.k,.string (str t.nm),.int .i64 t.i,.slice a t.args.length c])) (h1:f0.tmps[1]? = some (.agg #[.int .i64 u.k,.string (str u.nm),.int .i64 u.i,.slice b u.args.length d])) (K1:Keep (fun g=>g < W.heap.size) W w0)  (HT:Hid (TmAt W.heap.size W t a c)) (HU:Hid (TmAt W.heap.size W u b d)) (HR:Hid (t.right=true∧u.right=true)):cq79_0.wp Tryz.prog (bodyPost Tryz.prog Tryz.f49 (fun e w'=>∃ r:Bool,e=.returned (.bool r)∧(r=true↔Fit t u)∧Keep (fun g=>g < W.heap.size) W w')) f0 w0:=by
 refine wp_seq (x:=cq79_1) (y:=cq79_2) ?_
 change (Code.region 0 Oq79_0 false).wp _ _ _ _
 refine reg_in (l:=[0,1,2]) rfl ?_
 have F:FE_ _ [] f0 f0:=⟨R,Ag_.refl _⟩;clear R
 have Y:(execOp f0.eval oq79_0_0).run Tryz.prog w0=.ok (.value (.pointer (some ⟨w0.heap.size,0,none⟩))) (w0.alloc (.cells #[.int .i64 t.k,.string (str t.nm),.int .i64 t.i,.slice a t.args.length c] 28)):=by have r0:=F.of h0;unfold oq79_0_0;go_simp
 have B101:=Blk.new w0 28 #[.int .i64 t.k,.string (str t.nm),.int .i64 t.i,.slice a t.args.length c]
 obtain ⟨w102,hw⟩:∃ x,x=w0.alloc (.cells #[.int .i64 t.k,.string (str t.nm),.int .i64 t.i,.slice a t.args.length c] 28):=⟨_,rfl⟩;rw [← hw] at Y B101
 obtain ⟨b101,hb⟩:∃ x,x=w0.heap.size:=⟨_,rfl⟩;rw [← hb] at Y B101
 have LK1_b101:=lk_ hb K1;replace K1:=ka_ hw K1;clear hw hb
 refine sv_ gq79_0_0 Y fun a103 e=>?_;clear Y
 have h2:=pt_ F e;replace F:=pu_ F e;clear e
 have Y:(execOp a103.eval oq79_0_1).run Tryz.prog w102=.ok (.value (.pointer (some ⟨w102.heap.size,0,none⟩))) (w102.alloc (.cells #[.int .i64 u.k,.string (str u.nm),.int .i64 u.i,.slice b u.args.length d] 28)):=by have r1:=F.of h1;unfold oq79_0_1;go_simp
 have B104:=Blk.new w102 28 #[.int .i64 u.k,.string (str u.nm),.int .i64 u.i,.slice b u.args.length d]
 obtain ⟨w105,hw⟩:∃ x,x=w102.alloc (.cells #[.int .i64 u.k,.string (str u.nm),.int .i64 u.i,.slice b u.args.length d] 28):=⟨_,rfl⟩;rw [← hw] at Y B104
 obtain ⟨b104,hb⟩:∃ x,x=w102.heap.size:=⟨_,rfl⟩;rw [← hb] at Y B104
 have Nb101_b104:=nb_ hb B101;replace B101:=ba_ hw B101;have LK1_b104:=lk_ hb K1;replace K1:=ka_ hw K1;clear hw hb
 refine sv_ gq79_0_1 Y fun a106 e=>?_;clear Y
 have h3:=pt_ F e;replace F:=pu_ F e;replace h2:=so_ e h2;clear e
 have Y:(execOp a106.eval oq79_0_2).run Tryz.prog w105=.ok (.value (.bool false)) w105:=by unfold oq79_0_2;go_simp
 refine sv_ gq79_0_2 Y fun a107 e=>?_;clear Y
 have h4:=pt_ F e;replace F:=pu_ F e;replace h2:=so_ e h2;replace h3:=so_ e h3;clear e
 refine st_end ?_
 clear h0;clear h1;have R:=F.r;clear F
 change (cq79_2).wp _ _ _ _
 refine wp_seq (x:=cq79_3) (y:=cq79_4) ?_
 change (Code.region 1 Oq79_1 false).wp _ _ _ _
 refine reg_in (l:=[0,1,2,3,4,5,6,7,8,9]) rfl ?_
 have F:FE_ _ [] a107 a107:=⟨R,Ag_.refl _⟩;clear R
 refine sv_ gq79_1_0 (yl4_ rfl (F.of h2) B101) fun a108 e=>?_
 have h9:=pt_ F e;replace F:=pu_ F e;clear e
 refine sv_ gq79_1_1 (yl4_ rfl (F.of h3) B104) fun a109 e=>?_
 have h10:=pt_ F e;replace F:=pu_ F e;replace h9:=so_ e h9;clear e
 refine st_call gq79_1_2 rfl (wanted_free rfl) (yc2_ enq79_33 rfl h9 h10) ((solve_sx (HT.out.on K1) (HU.out.on K1)).mono ?_)
 rintro e9 w110 ⟨va,vc,bs,ok,er,rfl,⟨hs,-,-⟩,kk⟩
 replace K1:=keep_onto K1 kk
 replace B101:=blk_on B101 kk
 replace B104:=blk_on B104 kk
 have HS:=Lib.hid hs;clear hs
 clear kk
 refine ⟨_,rfl,fun a111 e=>?_⟩
 clear h9 h10;have h11:=pt_ F e;replace F:=pu_ F e;clear e
 refine sv_ gq79_1_3 (ym_ rfl h11) fun a112 e=>?_
 clear h11;have h8:=pt_ F e;replace F:=pu_ F e;clear e
 refine sv_ gq79_1_4 (ye30_ rfl h8) fun a113 e=>?_
 have h12:=pt_ F e;replace F:=pu_ F e;replace h8:=so_ e h8;clear e
 refine sv_ gq79_1_5 (ye31_ rfl h8) fun a114 e=>?_
 have h13:=pt_ F e;replace F:=pu_ F e;replace h8:=so_ e h8;replace h12:=so_ e h12;clear e
 refine sv_ gq79_1_6 (ye32_ rfl h8) fun a115 e=>?_
 clear h8;have h14:=pt_ F e;replace F:=pu_ F e;replace h12:=so_ e h12;replace h13:=so_ e h13;clear e
 refine sv_ gq79_1_7 (ya_ rfl h12) fun a116 e=>?_
 clear h12;replace F:=pu_ F e;replace h13:=so_ e h13;replace h14:=so_ e h14;clear e
 refine sv_ gq79_1_8 (ya_ rfl h13) fun a117 e=>?_
 clear h13;have h6:=pt_ F e;replace F:=pu_ F e;replace h14:=so_ e h14;clear e
 refine sv_ gq79_1_9 (ya_ rfl h14) fun a118 e=>?_
 clear h14;have h7:=pt_ F e;replace F:=pu_ F e;replace h6:=so_ e h6;clear e
 refine st_end ?_
 clear h2;clear h3;replace h4:=F.of h4;have R:=F.r;clear F
 change (cq79_4).wp _ _ _ _
 refine wp_seq (x:=cq79_5) (y:=Code.ret) ?_
 change (Code.region 2 Oq79_2 false).wp _ _ _ _
 refine reg_in (l:=[0,1,2,3,4,5]) rfl ?_
 have F:FE_ _ [] a118 a118:=⟨R,Ag_.refl _⟩;clear R
 refine sv_ gq79_2_0 (ym_ rfl (F.of h6)) fun a119 e=>?_
 have h15:=pt_ F e;replace F:=pu_ F e;clear e
 refine sv_ gq79_2_1 (ym_ rfl h15) fun a120 e=>?_
 clear h15;have h16:=pt_ F e;replace F:=pu_ F e;clear e
 cases ok with
 | false =>
  refine st_val gq79_2_2 rfl (wanted_is (j:=1) (d:=16) rfl rfl h16 rfl) (ym_ rfl (F.of h7)) fun a121 e=>?_
  have h17:=pt_ F e;replace F:=pu_ F e;replace h16:=so_ e h16;clear e
  obtain ⟨b122,hb122⟩:∃ x,(((er:Int) == (2:Int)))=x:=⟨_,rfl⟩
  have Y:(execOp a121.eval oq79_2_3).run Tryz.prog w110=.ok (.value (.bool b122)) w110:=by rw [← hb122];unfold oq79_2_3;go_simp
  refine st_val gq79_2_3 rfl (wanted_is (j:=1) (d:=16) rfl rfl h16 rfl) Y fun a123 e=>?_;clear Y
  clear h17;have h18:=pt_ F e;replace F:=pu_ F e;replace h16:=so_ e h16;clear e
  have Y:(execOp a123.eval oq79_2_4).run Tryz.prog w110=.ok (.value (.bool b122)) w110:=by unfold oq79_2_4;go_simp
  refine sv_ gq79_2_4 Y fun a124 e=>?_;clear Y
  clear h16 h18;have h19:=pt_ F e;replace F:=pu_ F e;clear e
  refine sv_ gq79_2_5 (ya_ rfl h19) fun a125 e=>?_
  clear h19 h4;have h4:=pt_ F e;replace F:=pu_ F e;clear e
  refine st_end ?_
  clear h6;clear h7;have R:=F.r;clear F
  change (Code.ret).wp _ _ _ _
  refine wp_ret ?_
  change bodyPost Tryz.prog Tryz.f49 (fun e w'=>∃ r:Bool,e=.returned (.bool r)∧(r=true↔Fit t u)∧Keep (fun g=>g < W.heap.size) W w') .ret a125 w110
  refine ret_one rfl R h4 ?_
  exact ⟨_,rfl,fit_no HS.out HR.out.1 HR.out.2 hb122,K1⟩
 | true =>
  refine st_not gq79_2_2 rfl (wanted_is (j:=1) (d:=16) rfl rfl h16 rfl) fun a126 e=>?_
  have h17:=pt_ F e;replace F:=pu_ F e;replace h16:=so_ e h16;clear e
  refine st_not gq79_2_3 rfl (wanted_is (j:=1) (d:=16) rfl rfl h16 rfl) fun a127 e=>?_
  clear h17;have h18:=pt_ F e;replace F:=pu_ F e;replace h16:=so_ e h16;clear e
  have Y:(execOp a127.eval oq79_2_4).run Tryz.prog w110=.ok (.value (.bool true)) w110:=by unfold oq79_2_4;go_simp
  refine sv_ gq79_2_4 Y fun a128 e=>?_;clear Y
  clear h16 h18;have h19:=pt_ F e;replace F:=pu_ F e;clear e
  refine sv_ gq79_2_5 (ya_ rfl h19) fun a129 e=>?_
  clear h19 h4;have h4:=pt_ F e;replace F:=pu_ F e;clear e
  refine st_end ?_
  clear h6;clear h7;have R:=F.r;clear F
  change (Code.ret).wp _ _ _ _
  refine wp_ret ?_
  change bodyPost Tryz.prog Tryz.f49 (fun e w'=>∃ r:Bool,e=.returned (.bool r)∧(r=true↔Fit t u)∧Keep (fun g=>g < W.heap.size) W w') .ret a129 w110
  refine ret_one rfl R h4 ?_
  exact ⟨true,rfl,⟨fun _=>fit_yes HS.out,fun _=>rfl⟩,K1⟩
theorem have_any {W:World} {t u:Tm} {a b:Option Addr} {c d:Nat} (hT:TmAt W.heap.size W t a c) (hU:TmAt W.heap.size W u b d) (ht:t.right=true) (hu:u.right=true):Calls Tryz.prog 49 #[tv t a c,tv u b d] W fun e w'=>∃ r:Bool,e=.returned (.bool r)∧(r=true↔Fit t u)∧Keep (fun g=>g < W.heap.size) W w':=by
  refine enter_sx Tryz.func49 bodyq79 rfl (by show (2:Nat) ≤ 20;decide) fun f0 R hs=>?_
  exact have_w R (hs 0 _ rfl) (hs 1 _ rfl) (Keep.refl _ W) (Lib.hid hT) (Lib.hid hU) (Lib.hid ⟨ht,hu⟩)
def oq78_0_0:Oper:=⟨some 2,Op.box 28 (Operand.tmp 0),0, "post.go:107",#[],none⟩
def oq78_0_1:Oper:=⟨some 3,Op.assign (Operand.const (Value.bool false)),4, "post.go:107",#[],none⟩
def Oq78_0:Array Oper:=List.toArray (oq78_0_0::oq78_0_1::[])
theorem gq78_0_0:Oq78_0[0]? = some oq78_0_0:=rfl
theorem gq78_0_1:Oq78_0[1]? = some oq78_0_1:=rfl
def cq78_1:Code:=Code.region 0 Oq78_0 false
def oq78_1_0:Oper:=⟨some 4,Op.load 28 (Operand.tmp 2),28, "post.go:107",#[],none⟩
def oq78_1_1:Oper:=⟨some 5,Op.load 28 (Operand.tmp 1),28, "post.go:107",#[],none⟩
def oq78_1_2:Oper:=⟨some 6,Op.call { callee:=Callee.value (Operand.func 49),args:=#[Operand.tmp 4,Operand.tmp 5],argTypes:=#[28,28] },4, "post.go:107",#[ed_ 0,ed_ 1],none⟩
def oq78_1_3:Oper:=⟨some 3,Op.assign (Operand.tmp 6),4, "post.go:107",#[ed_ 2,ec_ 2,ep_ 0,ep_ 1,ep_ 2],none⟩
def Oq78_1:Array Oper:=List.toArray (oq78_1_0::oq78_1_1::oq78_1_2::oq78_1_3::[])
theorem gq78_1_0:Oq78_1[0]? = some oq78_1_0:=rfl
theorem gq78_1_1:Oq78_1[1]? = some oq78_1_1:=rfl
theorem gq78_1_2:Oq78_1[2]? = some oq78_1_2:=rfl
theorem gq78_1_3:Oq78_1[3]? = some oq78_1_3:=rfl
def cq78_3:Code:=Code.region 1 Oq78_1 false
def cq78_2:Code:=Code.seq cq78_3 Code.ret
def cq78_0:Code:=Code.seq cq78_1 cq78_2
theorem enq78_79:Enters Tryz.prog 49:=enters_of Tryz.func49 (by kernel_rfl) rfl
theorem bodyq78:Tryz.f48.body=some cq78_0:=by kernel_rfl
set_option maxRecDepth 100000 in
set_option maxHeartbeats 4000000 in
theorem clo_w {W:World} {t u:Tm} {a b:Option Addr} {c d:Nat} {f0:Act} {w0:World} {b0:Nat} (R:FrS 7 f0) (h0:f0.tmps[0]? = some (.agg #[.int .i64 t.k,.string (str t.nm),.int .i64 t.i,.slice a t.args.length c])) (h1:f0.tmps[1]? = some (.pointer (some ⟨b0,0,none⟩))) (K1:Keep (fun g=>g < W.heap.size) W w0) (B0:Blk w0 b0 28 #[.int .i64 u.k,.string (str u.nm),.int .i64 u.i,.slice b u.args.length d]) (HT:Hid (TmAt W.heap.size W t a c)) (HU:Hid (TmAt W.heap.size W u b d)) (HR:Hid (t.right=true∧u.right=true)):cq78_0.wp Tryz.prog (bodyPost Tryz.prog Tryz.f48 (fun e w'=>∃ r:Bool,e=.returned (.bool r)∧(r=true↔Fit t u)∧Keep (fun g=>g < W.heap.size) W w')) f0 w0:=by
 refine wp_seq (x:=cq78_1) (y:=cq78_2) ?_
 change (Code.region 0 Oq78_0 false).wp _ _ _ _
 refine reg_in (l:=[0,1]) rfl ?_
 have F:FE_ _ [] f0 f0:=⟨R,Ag_.refl _⟩;clear R
 have Y:(execOp f0.eval oq78_0_0).run Tryz.prog w0=.ok (.value (.pointer (some ⟨w0.heap.size,0,none⟩))) (w0.alloc (.cells #[.int .i64 t.k,.string (str t.nm),.int .i64 t.i,.slice a t.args.length c] 28)):=by have r0:=F.of h0;unfold oq78_0_0;go_simp
 have B101:=Blk.new w0 28 #[.int .i64 t.k,.string (str t.nm),.int .i64 t.i,.slice a t.args.length c]
 obtain ⟨w102,hw⟩:∃ x,x=w0.alloc (.cells #[.int .i64 t.k,.string (str t.nm),.int .i64 t.i,.slice a t.args.length c] 28):=⟨_,rfl⟩;rw [← hw] at Y B101
 obtain ⟨b101,hb⟩:∃ x,x=w0.heap.size:=⟨_,rfl⟩;rw [← hb] at Y B101
 have Nb0_b101:=nb_ hb B0;replace B0:=ba_ hw B0;have LK1_b101:=lk_ hb K1;replace K1:=ka_ hw K1;clear hw hb
 refine sv_ gq78_0_0 Y fun a103 e=>?_;clear Y
 have h2:=pt_ F e;replace F:=pu_ F e;clear e
 have Y:(execOp a103.eval oq78_0_1).run Tryz.prog w102=.ok (.value (.bool false)) w102:=by unfold oq78_0_1;go_simp
 refine sv_ gq78_0_1 Y fun a104 e=>?_;clear Y
 have h3:=pt_ F e;replace F:=pu_ F e;replace h2:=so_ e h2;clear e
 refine st_end ?_
 clear h0;replace h1:=F.of h1;have R:=F.r;clear F
 change (cq78_2).wp _ _ _ _
 refine wp_seq (x:=cq78_3) (y:=Code.ret) ?_
 change (Code.region 1 Oq78_1 false).wp _ _ _ _
 refine reg_in (l:=[0,1,2,3]) rfl ?_
 have F:FE_ _ [] a104 a104:=⟨R,Ag_.refl _⟩;clear R
 refine sv_ gq78_1_0 (yl4_ rfl (F.of h2) B101) fun a105 e=>?_
 have h4:=pt_ F e;replace F:=pu_ F e;clear e
 refine sv_ gq78_1_1 (yl4_ rfl (F.of h1) B0) fun a106 e=>?_
 have h5:=pt_ F e;replace F:=pu_ F e;replace h4:=so_ e h4;clear e
 refine st_call gq78_1_2 rfl (wanted_free rfl) (yc2_ enq78_79 rfl h4 h5) ((have_any (HT.out.on K1) (HU.out.on K1) HR.out.1 HR.out.2).mono ?_)
 rintro e9 w107 ⟨r,rfl,hs,kk⟩
 replace K1:=keep_onto K1 kk
 replace B0:=blk_on B0 kk
 replace B101:=blk_on B101 kk
 have HS:=Lib.hid hs;clear hs
 clear kk
 refine ⟨_,rfl,fun a108 e=>?_⟩
 clear h4 h5;have h6:=pt_ F e;replace F:=pu_ F e;clear e
 refine sv_ gq78_1_3 (ya_ rfl h6) fun a109 e=>?_
 clear h6 h3;have h3:=pt_ F e;replace F:=pu_ F e;clear e
 refine st_end ?_
 clear h1;clear h2;have R:=F.r;clear F
 change (Code.ret).wp _ _ _ _
 refine wp_ret ?_
 change bodyPost Tryz.prog Tryz.f48 (fun e w'=>∃ r:Bool,e=.returned (.bool r)∧(r=true↔Fit t u)∧Keep (fun g=>g < W.heap.size) W w') .ret a109 w107
 refine ret_one rfl R h3 ?_
 exact ⟨_,rfl,HS.out,K1⟩
theorem clo_any {W:World} {t u:Tm} {a b:Option Addr} {c d:Nat} {b0:Nat} (hB:Blk W b0 28 #[.int .i64 u.k,.string (str u.nm),.int .i64 u.i,.slice b u.args.length d]) (hT:TmAt W.heap.size W t a c) (hU:TmAt W.heap.size W u b d) (ht:t.right=true) (hu:u.right=true):Calls Tryz.prog 48 #[tv t a c,.pointer (some ⟨b0,0,none⟩)] W fun e w'=>∃ r:Bool,e=.returned (.bool r)∧(r=true↔Fit t u)∧Keep (fun g=>g < W.heap.size) W w':=by
  refine enter_sx Tryz.func48 bodyq78 rfl (by show (2:Nat) ≤ 7;decide) fun f0 R hs=>?_
  exact clo_w R (hs 0 _ rfl) (hs 1 _ rfl) (Keep.refl _ W) hB (Lib.hid hT) (Lib.hid hU) (Lib.hid ⟨ht,hu⟩)
def First (u:Tm) (ps:List TP) (z:Int):Prop:=(z=-1∧∀ p ∈ ps,¬ Fit p.1 u)∨∃ (j:Nat) (p:TP),z=j∧ps[j]? = some p∧Fit p.1 u∧∀ (i:Nat) (q:TP),i < j→ps[i]? = some q→¬ Fit q.1 u
def oq77_0_0:Oper:=⟨some 4,Op.assign (Operand.const (Value.int IntKind.i64 0)),3, "slices.go:107",#[],none⟩
def Oq77_0:Array Oper:=List.toArray (oq77_0_0::[])
theorem gq77_0_0:Oq77_0[0]? = some oq77_0_0:=rfl
def cq77_1:Code:=Code.region 0 Oq77_0 false
def oq77_1_0:Oper:=⟨some 6,Op.move (Operand.tmp 0),26, "slices.go:108",#[],none⟩
def oq77_1_1:Oper:=⟨some 7,Op.call { callee:=Callee.builtin Go.Builtin.len,args:=#[Operand.tmp 6],argTypes:=#[26] },3, "slices.go:108",#[ed_ 0],none⟩
def oq77_1_2:Oper:=⟨some 8,Op.move (Operand.const (Value.int IntKind.i64 0)),3, "slices.go:108",#[],none⟩
def Oq77_1:Array Oper:=List.toArray (oq77_1_0::oq77_1_1::oq77_1_2::[])
theorem gq77_1_0:Oq77_1[0]? = some oq77_1_0:=rfl
theorem gq77_1_1:Oq77_1[1]? = some oq77_1_1:=rfl
theorem gq77_1_2:Oq77_1[2]? = some oq77_1_2:=rfl
def cq77_4:Code:=Code.region 1 Oq77_1 false
def oq77_2_0:Oper:=⟨some 9,Op.binOp Go.BinOp.lss 3 (Operand.tmp 8) (Operand.tmp 7) 3,0, "slices.go:108",#[],none⟩
def Oq77_2:Array Oper:=List.toArray (oq77_2_0::[])
theorem gq77_2_0:Oq77_2[0]? = some oq77_2_0:=rfl
def cq77_8:Code:=Code.region 2 Oq77_2 false
def cq77_12:Code:=Code.exit 0
def cq77_10:Code:=Code.cond (Operand.tmp 9) Code.skip cq77_12
def oq77_3_0:Oper:=⟨some 10,Op.move (Operand.tmp 8),3, "slices.go:108",#[],none⟩
def oq77_3_1:Oper:=⟨some 5,Op.assign (Operand.tmp 10),3, "slices.go:108",#[ed_ 0,ep_ 0],none⟩
def Oq77_3:Array Oper:=List.toArray (oq77_3_0::oq77_3_1::[])
theorem gq77_3_0:Oq77_3[0]? = some oq77_3_0:=rfl
theorem gq77_3_1:Oq77_3[1]? = some oq77_3_1:=rfl
def cq77_16:Code:=Code.region 3 Oq77_3 false
def oq77_4_0:Oper:=⟨some 11,Op.move (Operand.tmp 1),31, "slices.go:109",#[],none⟩
def oq77_4_1:Oper:=⟨some 12,Op.move (Operand.tmp 0),26, "slices.go:109",#[],none⟩
def oq77_4_2:Oper:=⟨some 13,Op.move (Operand.tmp 5),3, "slices.go:109",#[],none⟩
def oq77_4_3:Oper:=⟨some 14,Op.indexAddr 26 (Operand.tmp 12) (Operand.tmp 13),0, "slices.go:109",#[ed_ 1,ed_ 2],none⟩
def oq77_4_4:Oper:=⟨some 15,Op.load 28 (Operand.tmp 14),28, "slices.go:109",#[ed_ 3],none⟩
def oq77_4_5:Oper:=⟨some 16,Op.call { callee:=Callee.value (Operand.tmp 11),args:=#[Operand.tmp 15],argTypes:=#[28] },4, "slices.go:109",#[ed_ 0,ed_ 4],none⟩
def Oq77_4:Array Oper:=List.toArray (oq77_4_0::oq77_4_1::oq77_4_2::oq77_4_3::oq77_4_4::oq77_4_5::[])
theorem gq77_4_0:Oq77_4[0]? = some oq77_4_0:=rfl
theorem gq77_4_1:Oq77_4[1]? = some oq77_4_1:=rfl
theorem gq77_4_2:Oq77_4[2]? = some oq77_4_2:=rfl
theorem gq77_4_3:Oq77_4[3]? = some oq77_4_3:=rfl
theorem gq77_4_4:Oq77_4[4]? = some oq77_4_4:=rfl
theorem gq77_4_5:Oq77_4[5]? = some oq77_4_5:=rfl
def cq77_18:Code:=Code.region 4 Oq77_4 false
def oq77_5_0:Oper:=⟨some 17,Op.move (Operand.tmp 5),3, "slices.go:110",#[],none⟩
def oq77_5_1:Oper:=⟨some 4,Op.assign (Operand.tmp 17),3, "slices.go:110",#[ed_ 0,ep_ 0],none⟩
def Oq77_5:Array Oper:=List.toArray (oq77_5_0::oq77_5_1::[])
theorem gq77_5_0:Oq77_5[0]? = some oq77_5_0:=rfl
theorem gq77_5_1:Oq77_5[1]? = some oq77_5_1:=rfl
def cq77_21:Code:=Code.region 5 Oq77_5 false
def cq77_20:Code:=Code.seq cq77_21 Code.ret
def cq77_19:Code:=Code.cond (Operand.tmp 16) cq77_20 Code.skip
def cq77_17:Code:=Code.seq cq77_18 cq77_19
def cq77_15:Code:=Code.seq cq77_16 cq77_17
def cq77_14:Code:=Code.block 1 cq77_15
def oq77_6_0:Oper:=⟨some 18,Op.binOp Go.BinOp.add 3 (Operand.tmp 8) (Operand.const (Value.int IntKind.i64 1)) 3,3, "slices.go:108",#[],none⟩
def oq77_6_1:Oper:=⟨some 8,Op.move (Operand.tmp 18),3, "slices.go:108",#[ed_ 0],none⟩
def Oq77_6:Array Oper:=List.toArray (oq77_6_0::oq77_6_1::[])
theorem gq77_6_0:Oq77_6[0]? = some oq77_6_0:=rfl
theorem gq77_6_1:Oq77_6[1]? = some oq77_6_1:=rfl
def cq77_24:Code:=Code.region 6 Oq77_6 false
def cq77_13:Code:=Code.seq cq77_14 cq77_24
def cq77_9:Code:=Code.seq cq77_10 cq77_13
def cq77_7:Code:=Code.seq cq77_8 cq77_9
def cq77_6:Code:=Code.loop cq77_7
def cq77_5:Code:=Code.block 0 cq77_6
def cq77_3:Code:=Code.seq cq77_4 cq77_5
def oq77_7_0:Oper:=⟨some 4,Op.assign (Operand.const (Value.int IntKind.i64 (-1))),3, "slices.go:113",#[],none⟩
def Oq77_7:Array Oper:=List.toArray (oq77_7_0::[])
theorem gq77_7_0:Oq77_7[0]? = some oq77_7_0:=rfl
def cq77_26:Code:=Code.region 7 Oq77_7 false
def cq77_25:Code:=Code.seq cq77_26 Code.ret
def cq77_2:Code:=Code.seq cq77_3 cq77_25
def cq77_0:Code:=Code.seq cq77_1 cq77_2
theorem bodyq77:Tryz.f47.body=some cq77_0:=by kernel_rfl
theorem no_moreF {ps:List TP} {u:Tm} {j:Nat} {p:TP} (h:∀ (i:Nat) (q:TP),i < j→ps[i]? = some q→¬ Fit q.1 u) (hp:ps[j]? = some p) (hn:¬ Fit p.1 u):∀ (i:Nat) (q:TP),i < j + 1→ps[i]? = some q→¬ Fit q.1 u:=fun i q hi hq=>by
  rcases Nat.lt_or_eq_of_le (Nat.le_of_lt_succ hi) with h1 | h1
  · exact h i q h1 hq
  · subst h1;rw [hp] at hq;cases hq;exact hn
set_option maxRecDepth 100000 in
set_option maxHeartbeats 4000000 in
theorem index_w {W:World} {u:Tm} {b sa:Option Addr} {d sc:Nat} {ps:List TP} {b0:Nat} {f0:Act} {w0:World} (R:FrS 19 f0) (h0:f0.tmps[0]? = some (.slice sa ps.length sc)) (h1:f0.tmps[1]? = some (.func (.func 48) #[] #[.pointer (some ⟨b0,0,none⟩)])) (K1:Keep (fun g=>g < W.heap.size) W w0)  (HSL:Hid (TmSl W.heap.size W sa ps)) (HBX:Hid (Blk W b0 28 #[.int .i64 u.k,.string (str u.nm),.int .i64 u.i,.slice b u.args.length d])) (HU:Hid (TmAt W.heap.size W u b d)) (HUR:Hid (u.right=true)) (HMS:Hid (∀ p ∈ ps,p.1.right=true)) (HLN:Hid (ps.length ≤ 1000000)):cq77_0.wp Tryz.prog (bodyPost Tryz.prog Tryz.f47 (fun e w'=>∃ z:Int,e=.returned (.int .i64 z)∧First u ps z∧Keep (fun g=>g < W.heap.size) W w')) f0 w0:=by
 refine wp_seq (x:=cq77_1) (y:=cq77_2) ?_
 change (Code.region 0 Oq77_0 false).wp _ _ _ _
 refine reg_in (l:=[0]) rfl ?_
 have F:FE_ _ [] f0 f0:=⟨R,Ag_.refl _⟩;clear R
 have Y:(execOp f0.eval oq77_0_0).run Tryz.prog w0=.ok (.value (.int .i64 0)) w0:=by unfold oq77_0_0;go_simp
 refine sv_ gq77_0_0 Y fun a101 e=>?_;clear Y
 have h4:=pt_ F e;replace F:=pu_ F e;clear e
 refine st_end ?_
 replace h0:=F.of h0;replace h1:=F.of h1;have R:=F.r;clear F
 change (cq77_2).wp _ _ _ _
 refine wp_seq (x:=cq77_3) (y:=cq77_25) ?_
 refine wp_seq (x:=cq77_4) (y:=cq77_5) ?_
 change (Code.region 1 Oq77_1 false).wp _ _ _ _
 refine reg_in (l:=[0,1,2]) rfl ?_
 have F:FE_ _ [] a101 a101:=⟨R,Ag_.refl _⟩;clear R
 refine sv_ gq77_1_0 (ym_ rfl (F.of h0)) fun a102 e=>?_
 have h6:=pt_ F e;replace F:=pu_ F e;clear e
 have Y:(execOp a102.eval oq77_1_1).run Tryz.prog w0=.ok (.value (.int .i64 ps.length)) w0:=by unfold oq77_1_1;go_simp
 refine sv_ gq77_1_1 Y fun a103 e=>?_;clear Y
 clear h6;have h7:=pt_ F e;replace F:=pu_ F e;clear e
 have Y:(execOp a103.eval oq77_1_2).run Tryz.prog w0=.ok (.value (.int .i64 0)) w0:=by unfold oq77_1_2;go_simp
 refine sv_ gq77_1_2 Y fun a104 e=>?_;clear Y
 have h8:=pt_ F e;replace F:=pu_ F e;replace h7:=so_ e h7;clear e
 refine st_end ?_
 replace h0:=F.of h0;replace h1:=F.of h1;replace h4:=F.of h4;have R:=F.r;clear F
 change (cq77_5).wp _ _ _ _
 refine wp_block (id:=0) (c:=cq77_6) ?_
 refine wp_loop_ghost (c:=cq77_7) (fun n fX wX=>∃ j:Nat,n=ps.length - j∧FrS 19 fX∧fX.tmps[0]? = some (.slice sa ps.length sc)∧fX.tmps[1]? = some (.func (.func 48) #[] #[.pointer (some ⟨b0,0,none⟩)])∧fX.tmps[4]? = some (.int .i64 0)∧fX.tmps[7]? = some (.int .i64 ps.length)∧fX.tmps[8]? = some (.int .i64 (j:Int))∧Keep (fun g=>g < W.heap.size) W wX∧j ≤ ps.length∧Hid (∀ (i:Nat) (q:TP),i < j→ps[i]? = some q→¬ Fit q.1 u)) (ps.length - 0) ⟨0,rfl,R,h0,h1,h4,h7,h8,K1,Nat.zero_le _,(Lib.hid fun i q h=>absurd h (Nat.not_lt_zero _))⟩ ?_
 clear R h0 h1 h4 h7 h8 K1
 rintro n107 a105 w106 ⟨j,rfl,R,h0,h1,h4,h7,h8,K1,hj,HNO⟩
 refine wp_seq (x:=cq77_8) (y:=cq77_9) ?_
 change (Code.region 2 Oq77_2 false).wp _ _ _ _
 refine reg_in (l:=[0]) rfl ?_
 have F:FE_ _ [] a105 a105:=⟨R,Ag_.refl _⟩;clear R
 obtain ⟨b108,hb108⟩:∃ x,(decide ((j:Int) < (ps.length:Int)))=x:=⟨_,rfl⟩
 have Y:(execOp a105.eval oq77_2_0).run Tryz.prog w106=.ok (.value (.bool b108)) w106:=by have r7:=F.of h7;have r8:=F.of h8;rw [← hb108];unfold oq77_2_0;go_simp
 refine sv_ gq77_2_0 Y fun a109 e=>?_;clear Y
 have h9:=pt_ F e;replace F:=pu_ F e;clear e
 refine st_end ?_
 replace h0:=F.of h0;replace h1:=F.of h1;replace h4:=F.of h4;replace h7:=F.of h7;replace h8:=F.of h8;have R:=F.r;clear F
 change (cq77_9).wp _ _ _ _
 refine wp_seq (x:=cq77_10) (y:=cq77_13) ?_
 cases b108 with
 | false =>
  have fb108:=hb108;clear hb108
  simp only [decide_eq_true_eq,decide_eq_false_iff_not,bne_iff_ne,bne_eq_false_iff_eq,beq_iff_eq,beq_eq_false_iff_ne,ne_eq,Bool.not_eq_true',Bool.not_eq_false',Bool.not_eq_eq_eq_not,Bool.not_true,Bool.not_false] at fb108
  refine wp_cond_false (x:=Code.skip) (y:=cq77_12) (eval_slot h9) ?_
  refine wp_exit ?_
  change (cq77_25).wp _ _ _ _
  refine wp_seq (x:=cq77_26) (y:=Code.ret) ?_
  change (Code.region 7 Oq77_7 false).wp _ _ _ _
  refine reg_in (l:=[0]) rfl ?_
  have F:FE_ _ [] a109 a109:=⟨R,Ag_.refl _⟩;clear R
  have Y:(execOp a109.eval oq77_7_0).run Tryz.prog w106=.ok (.value (.int .i64 (-1))) w106:=by unfold oq77_7_0;go_simp
  refine sv_ gq77_7_0 Y fun a110 e=>?_;clear Y
  clear h4;have h4:=pt_ F e;replace F:=pu_ F e;clear e
  refine st_end ?_
  replace h0:=F.of h0;replace h1:=F.of h1;replace h7:=F.of h7;replace h8:=F.of h8;replace h9:=F.of h9;have R:=F.r;clear F
  change (Code.ret).wp _ _ _ _
  refine wp_ret ?_
  change bodyPost Tryz.prog Tryz.f47 (fun e w'=>∃ z:Int,e=.returned (.int .i64 z)∧First u ps z∧Keep (fun g=>g < W.heap.size) W w') .ret a110 w106
  refine ret_one rfl R h4 ?_
  exact ⟨_,rfl,.inl ⟨rfl,fun q hq=>by obtain ⟨i,hi⟩:=List.getElem?_of_mem hq;exact HNO.out i q (by have:=(List.getElem?_eq_some_iff.1 hi).1;omega) hi⟩,K1⟩
 | true =>
  have fb108:=hb108;clear hb108
  simp only [decide_eq_true_eq,decide_eq_false_iff_not,bne_iff_ne,bne_eq_false_iff_eq,beq_iff_eq,beq_eq_false_iff_ne,ne_eq,Bool.not_eq_true',Bool.not_eq_false',Bool.not_eq_eq_eq_not,Bool.not_true,Bool.not_false] at fb108
  refine wp_cond_true (x:=Code.skip) (y:=cq77_12) (eval_slot h9) ?_
  refine wp_skip ?_
  change (cq77_13).wp _ _ _ _
  refine wp_seq (x:=cq77_14) (y:=cq77_24) ?_
  refine wp_block (id:=1) (c:=cq77_15) ?_
  refine wp_seq (x:=cq77_16) (y:=cq77_17) ?_
  change (Code.region 3 Oq77_3 false).wp _ _ _ _
  refine reg_in (l:=[0,1]) rfl ?_
  have F:FE_ _ [] a109 a109:=⟨R,Ag_.refl _⟩;clear R
  refine sv_ gq77_3_0 (ym_ rfl (F.of h8)) fun a111 e=>?_
  have h10:=pt_ F e;replace F:=pu_ F e;clear e
  refine sv_ gq77_3_1 (ya_ rfl h10) fun a112 e=>?_
  have h5:=pt_ F e;replace F:=pu_ F e;replace h10:=so_ e h10;clear e
  refine st_end ?_
  replace h0:=F.of h0;replace h1:=F.of h1;replace h4:=F.of h4;replace h7:=F.of h7;replace h8:=F.of h8;replace h9:=F.of h9;have R:=F.r;clear F
  change (cq77_17).wp _ _ _ _
  refine wp_seq (x:=cq77_18) (y:=cq77_19) ?_
  change (Code.region 4 Oq77_4 false).wp _ _ _ _
  refine reg_in (l:=[0,1,2,3,4,5]) rfl ?_
  have F:FE_ _ [] a112 a112:=⟨R,Ag_.refl _⟩;clear R
  refine sv_ gq77_4_0 (ym_ rfl (F.of h1)) fun a113 e=>?_
  have h11:=pt_ F e;replace F:=pu_ F e;clear e
  refine sv_ gq77_4_1 (ym_ rfl (F.of h0)) fun a114 e=>?_
  have h12:=pt_ F e;replace F:=pu_ F e;replace h11:=so_ e h11;clear e
  refine sv_ gq77_4_2 (ym_ rfl (F.of h5)) fun a115 e=>?_
  have h13:=pt_ F e;replace F:=pu_ F e;replace h11:=so_ e h11;replace h12:=so_ e h12;clear e
  obtain ⟨p,hp⟩:∃ p,ps[j]? = some p:=⟨_,List.getElem?_eq_getElem (by omega)⟩
  obtain ⟨bA,oA,hsA,-⟩:=tmsl_addr HSL.out (show j < ps.length by omega)
  have hltA:(j:Int) < (ps.length:Int):=by omega
  have HP:=Lib.hid hp;clear hp;have HSA:=Lib.hid hsA;clear hsA
  have Y:(execOp a115.eval oq77_4_3).run Tryz.prog w106=.ok (.value (.pointer (some ⟨bA,oA + j * 4,none⟩))) w106:=by have hA:=HSA.out;unfold oq77_4_3;go_simp
  refine sv_ gq77_4_3 Y fun a116 e=>?_;clear Y
  have h14:=pt_ F e;replace F:=pu_ F e;replace h11:=so_ e h11;replace h12:=so_ e h12;replace h13:=so_ e h13;clear e
  have Y:(execOp a116.eval oq77_4_4).run Tryz.prog w106=.ok (.value (.agg #[.int .i64 p.1.k,.string (str p.1.nm),.int .i64 p.1.i,.slice p.2.1 p.1.args.length p.2.2])) w106:=by obtain ⟨⟨c0,c1,c2,c3⟩,-⟩:=tmsl_at (tmsl_on HSL.out K1) HSA.out HP.out;unfold oq77_4_4;go_simp
  refine sv_ gq77_4_4 Y fun a117 e=>?_;clear Y
  have h15:=pt_ F e;replace F:=pu_ F e;replace h11:=so_ e h11;replace h12:=so_ e h12;replace h13:=so_ e h13;replace h14:=so_ e h14;clear e
  have Y:(execOp a117.eval oq77_4_5).run Tryz.prog w106=.ok (.enter 48 #[.agg #[.int .i64 p.1.k,.string (str p.1.nm),.int .i64 p.1.i,.slice p.2.1 p.1.args.length p.2.2],.pointer (some ⟨b0,0,none⟩)]) w106:=by unfold oq77_4_5;go_simp
  refine st_call gq77_4_5 rfl (wanted_free rfl) Y ((clo_any (HBX.out.keep K1 HBX.out.lt) (tmsl_at (tmsl_on HSL.out K1) HSA.out HP.out).2 (HU.out.on K1) (HMS.out _ (List.mem_of_getElem? HP.out)) HUR.out).mono ?_);clear Y
  rintro e9 w118 ⟨r,rfl,hs,kk⟩
  replace K1:=keep_onto K1 kk
  clear kk;have HS:=Lib.hid hs;clear hs
  refine ⟨_,rfl,fun a119 e=>?_⟩
  have h16:=pt_ F e;replace F:=pu_ F e;replace h11:=so_ e h11;replace h12:=so_ e h12;replace h13:=so_ e h13;replace h14:=so_ e h14;replace h15:=so_ e h15;clear e
  refine st_end ?_
  replace h0:=F.of h0;replace h1:=F.of h1;replace h4:=F.of h4;replace h5:=F.of h5;replace h7:=F.of h7;replace h8:=F.of h8;replace h9:=F.of h9;replace h10:=F.of h10;have R:=F.r;clear F
  change (cq77_19).wp _ _ _ _
  cases r with
  | false =>
   refine wp_cond_false (x:=cq77_20) (y:=Code.skip) (eval_slot h16) ?_
   refine wp_skip ?_
   change (cq77_24).wp _ _ _ _
   change (Code.region 6 Oq77_6 false).wp _ _ _ _
   refine reg_in (l:=[0,1]) rfl ?_
   have F:FE_ _ [] a119 a119:=⟨R,Ag_.refl _⟩;clear R
   have Y:(execOp a119.eval oq77_6_0).run Tryz.prog w118=.ok (.value (.int .i64 ((j:Int) + 1))) w118:=by have r8:=F.of h8;have hwj:IntKind.i64.wrap ((j:Int) + 1)=(j:Int) + 1:=(by rw [IntKind.wrap_i64];have:=HLN.out;omega);unfold oq77_6_0;go_simp
   refine sv_ gq77_6_0 Y fun a120 e=>?_;clear Y
   have h18:=pt_ F e;replace F:=pu_ F e;clear e
   refine sv_ gq77_6_1 (ym_ rfl h18) fun a121 e=>?_
   clear h8;have h8:=pt_ F e;replace F:=pu_ F e;replace h18:=so_ e h18;clear e
   refine st_end ?_
   replace h0:=F.of h0;replace h1:=F.of h1;replace h4:=F.of h4;replace h5:=F.of h5;replace h7:=F.of h7;replace h9:=F.of h9;replace h10:=F.of h10;replace h11:=F.of h11;replace h12:=F.of h12;replace h13:=F.of h13;replace h14:=F.of h14;replace h15:=F.of h15;replace h16:=F.of h16;have R:=F.r;clear F
   exact ⟨_,by omega,j + 1,rfl,R,h0,h1,h4,h7,h8,K1,(by omega),(Lib.hid (no_moreF HNO.out HP.out fun h=>nomatch HS.out.2 h))⟩
  | true =>
   refine wp_cond_true (x:=cq77_20) (y:=Code.skip) (eval_slot h16) ?_
   refine wp_seq (x:=cq77_21) (y:=Code.ret) ?_
   change (Code.region 5 Oq77_5 false).wp _ _ _ _
   refine reg_in (l:=[0,1]) rfl ?_
   have F:FE_ _ [] a119 a119:=⟨R,Ag_.refl _⟩;clear R
   refine sv_ gq77_5_0 (ym_ rfl (F.of h5)) fun a122 e=>?_
   have h17:=pt_ F e;replace F:=pu_ F e;clear e
   refine sv_ gq77_5_1 (ya_ rfl h17) fun a123 e=>?_
   clear h4;have h4:=pt_ F e;replace F:=pu_ F e;replace h17:=so_ e h17;clear e
   refine st_end ?_
   replace h0:=F.of h0;replace h1:=F.of h1;replace h5:=F.of h5;replace h7:=F.of h7;replace h8:=F.of h8;replace h9:=F.of h9;replace h10:=F.of h10;replace h11:=F.of h11;replace h12:=F.of h12;replace h13:=F.of h13;replace h14:=F.of h14;replace h15:=F.of h15;replace h16:=F.of h16;have R:=F.r;clear F
   change (Code.ret).wp _ _ _ _
   refine wp_ret ?_
   change bodyPost Tryz.prog Tryz.f47 (fun e w'=>∃ z:Int,e=.returned (.int .i64 z)∧First u ps z∧Keep (fun g=>g < W.heap.size) W w') .ret a123 w118
   refine ret_one rfl R h4 ?_
   exact ⟨_,rfl,.inr ⟨j,p,rfl,HP.out,HS.out.1 rfl,HNO.out⟩,K1⟩
theorem index_any {W:World} {u:Tm} {b sa:Option Addr} {d sc:Nat} {ps:List TP} {b0:Nat} (hS:TmSl W.heap.size W sa ps) (hB:Blk W b0 28 #[.int .i64 u.k,.string (str u.nm),.int .i64 u.i,.slice b u.args.length d]) (hU:TmAt W.heap.size W u b d) (hu:u.right=true) (hM:∀ p ∈ ps,p.1.right=true) (hn:ps.length ≤ 1000000):Calls Tryz.prog 47 #[.slice sa ps.length sc,.func (.func 48) #[] #[.pointer (some ⟨b0,0,none⟩)]] W fun e w'=>∃ z:Int,e=.returned (.int .i64 z)∧First u ps z∧Keep (fun g=>g < W.heap.size) W w':=by
  refine enter_sx Tryz.func47 bodyq77 rfl (by show (2:Nat) ≤ 19;decide) fun f0 R hs=>?_
  exact index_w R (hs 0 _ rfl) (hs 1 _ rfl) (Keep.refl _ W) (Lib.hid hS) (Lib.hid hB) (Lib.hid hU) (Lib.hid hu) (Lib.hid hM) (Lib.hid hn)
end Go.Proofs.YtnfcbalppecnfaaGreat
