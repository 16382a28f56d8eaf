/-
  The document's arithmetic, its smaller functions. No condition but that the numbers are of 64 bits.
-/
import Derived.Test.YtmgephleogiaoaaNAr16
namespace Go.Proofs.Ytmgephleogiaoaa
open Go.RowKit Go.Maps
set_option linter.unusedVariables false
set_option linter.unusedSimpArgs false
def wv (z:Wth) (a:Option Addr) (c:Nat):Value:=.agg #[.int .i64 z.v,.int .i64 z.b.k,.string (str z.b.nm),.int .i64 z.b.i,.slice a z.b.args.length c,.bool z.k]
theorem info30:∃ i z,Try.prog.info? 30=some i∧i.zero=some z∧i.size=6∧z.cells.size=6:=by
  have h1:((Try.prog.info? 30).map fun i=>(i.size,(i.zero.map fun z=>z.cells.size)))=some (6,some 6):=by kernel_rfl
  obtain ⟨i,hi,he⟩:=Option.map_eq_some_iff.1 h1
  obtain ⟨e1,e3⟩:=Prod.mk.inj he
  obtain ⟨z,hz,hz2⟩:=Option.map_eq_some_iff.1 e3
  exact ⟨i,z,hi,hz,e1,hz2⟩
theorem ret_cell6 {fn:Func} {R:Ending→World→Prop} {a:Act} {w:World} {t n b:Nat} {c0 c1 c2 c3 c4 c5:Value} (hr:fn.results=#[.cell t 30]) (hF:FrS n a) (h:a.tmps[t]? = some (.pointer (some ⟨b,0,none⟩))) (hb:Blk w b 30 #[c0,c1,c2,c3,c4,c5]) (hR:R (.returned (.agg #[c0,c1,c2,c3,c4,c5])) w):bodyPost Try.prog fn R .ret a w:=by
  obtain ⟨i,z,h1,_,h3,_⟩:=info30
  refine ⟨hF.defers,_,results_cell_row hr a.tmps w b 30 #[c0,c1,c2,c3,c4,c5] (0,0) _ (by rw [Array.getD_eq_getD_getElem?,h];rfl) hb Try.underlying30 rfl (by rw [h1];simp [h3]),hR⟩
theorem ys6_ {o:Oper} {a:Act} {w:World} {t u b n c:Nat} {x k y:Int} {s:ByteArray} {p:Option Addr} {ok:Bool} {c0 c1 c2 c3 c4 c5:Value} (ho:o.op=.store 30 (.tmp t) (.tmp u)) (h:a.tmps[t]? = some (.pointer (some ⟨b,0,none⟩))) (hu:a.tmps[u]? = some (.agg #[.int .i64 x,.int .i64 k,.string s,.int .i64 y,.slice p n c,.bool ok])) (hb:Blk w b 30 #[c0,c1,c2,c3,c4,c5]) :
    ∃ w',(execOp a.eval o).run Try.prog w=.ok .skip w'∧Keep (fun g=>g ≠ b) w w'∧Blk w' b 30 #[.int .i64 x,.int .i64 k,.string s,.int .i64 y,.slice p n c,.bool ok]:=by
  have z0:w.cell? ⟨b,0,none⟩=some c0:=hb.cell 0
  have z1:w.cell? ⟨b,1,none⟩=some c1:=hb.cell 1
  have z2:w.cell? ⟨b,2,none⟩=some c2:=hb.cell 2
  have z3:w.cell? ⟨b,3,none⟩=some c3:=hb.cell 3
  have z4:w.cell? ⟨b,4,none⟩=some c4:=hb.cell 4
  have z5:w.cell? ⟨b,5,none⟩=some c5:=hb.cell 5
  have f0:=hb.frozen 0;have f1:=hb.frozen 1;have f2:=hb.frozen 2;have f3:=hb.frozen 3;have f4:=hb.frozen 4;have f5:=hb.frozen 5
  refine ⟨(((((w.setCell ⟨b,0,none⟩ (.int .i64 x)).setCell ⟨b,1,none⟩ (.int .i64 k)).setCell ⟨b,2,none⟩ (.string s)).setCell ⟨b,3,none⟩ (.int .i64 y)).setCell ⟨b,4,none⟩ (.slice p n c)).setCell ⟨b,5,none⟩ (.bool ok),?_,((((((Keep.refl _ _).setCell (fun h=>h rfl) _).setCell (fun h=>h rfl) _).setCell (fun h=>h rfl) _).setCell (fun h=>h rfl) _).setCell (fun h=>h rfl) _).setCell (fun h=>h rfl) _,(((((hb.set_ 0 _).set_ 1 _).set_ 2 _).set_ 3 _).set_ 4 _).set_ 5 _⟩
  unfold execOp;simp only [ho];go_simp
theorem resW_n (v:Int):resW (v,[])=.num v:=rfl
theorem resW_o:resW (0,fOver)=.bal (ballT (flF fOver)):=by show Wth.bal (ballV (flF fOver))=_;rw [ballV_fl (.inl rfl)]
theorem resW_z:resW (0,fZero)=.bal (ballT (flF fZero)):=by show Wth.bal (ballV (flF fZero))=_;rw [ballV_fl (.inr (.inl rfl))]
theorem resW_u:resW (0,fUndef)=.bal (ballT (flF fUndef)):=by show Wth.bal (ballV (flF fUndef))=_;rw [ballV_fl (.inr (.inr rfl))]
def WA (z:Wth) (W:World) (e:Ending) (w':World):Prop:=∃ a' c',e=.returned (wv z a' c')∧Own W.heap.size w' z.b a' c'∧Keep (fun g=>g < W.heap.size) W w'
def oA31_0_0:Oper:=⟨some 2,Op.alloc 30,0, "ref.go:29",#[],none⟩
def OA31_0:Array Oper:=List.toArray (oA31_0_0::[])
theorem gA31_0_0:OA31_0[0]? = some oA31_0_0:=rfl
def cA31_1:Code:=Code.region 0 OA31_0 false
def oA31_1_0:Oper:=⟨some 3,Op.move (Operand.tmp 0),2, "ref.go:29",#[],none⟩
def oA31_1_1:Oper:=⟨some 4,Op.build 30 #[(0,Operand.tmp 3),(2,Operand.const (Value.bool true))],30, "ref.go:29",#[ed_ 0],none⟩
def oA31_1_2:Oper:=⟨none,Op.store 30 (Operand.tmp 2) (Operand.tmp 4),0, "ref.go:29",#[ed_ 1,ep_ 0,ep_ 1],none⟩
def OA31_1:Array Oper:=List.toArray (oA31_1_0::oA31_1_1::oA31_1_2::[])
theorem gA31_1_0:OA31_1[0]? = some oA31_1_0:=rfl
theorem gA31_1_1:OA31_1[1]? = some oA31_1_1:=rfl
theorem gA31_1_2:OA31_1[2]? = some oA31_1_2:=rfl
def cA31_3:Code:=Code.region 1 OA31_1 false
def cA31_2:Code:=Code.seq cA31_3 Code.ret
def cA31_0:Code:=Code.seq cA31_1 cA31_2
theorem bodyA31:Try.f31.body=some cA31_0:=by kernel_rfl
set_option maxRecDepth 100000 in
set_option maxHeartbeats 4000000 in
theorem of_w {W:World} {v:Int} {f0:Act} {w0:World} (R:FrS 5 f0) (h0:f0.tmps[0]? = some (.int .i64 v)) (K1:Keep (fun g=>g < W.heap.size) W w0)  : cA31_0.wp Try.prog (bodyPost Try.prog Try.f31 (fun e w'=>e=.returned (wv (.num v) none 0)∧Keep (fun g=>g < W.heap.size) W w')) f0 w0:=by
 refine wp_seq (x:=cA31_1) (y:=cA31_2) ?_
 change (Code.region 0 OA31_0 false).wp _ _ _ _
 refine reg_in (l:=[0]) rfl ?_
 have F:=fe_ R;clear R
 have Y:(execOp f0.eval oA31_0_0).run Try.prog w0=.ok (.value (.pointer (some ⟨w0.heap.size,0,none⟩))) (w0.alloc (.cells #[.int .i64 0,.int .i64 0,.string (⟨#[]⟩),.int .i64 0,.slice none 0 0,.bool false] 30)):=by unfold oA31_0_0;go_simp
 have B1:=Blk.new w0 30 #[.int .i64 0,.int .i64 0,.string (⟨#[]⟩),.int .i64 0,.slice none 0 0,.bool false]
 obtain ⟨w2,hw⟩:∃ x,x=w0.alloc (.cells #[.int .i64 0,.int .i64 0,.string (⟨#[]⟩),.int .i64 0,.slice none 0 0,.bool false] 30):=⟨_,rfl⟩;rw [← hw] at Y B1
 obtain ⟨b1,hb⟩:∃ x,x=w0.heap.size:=⟨_,rfl⟩;rw [← hb] at Y B1
 have LK1_b1:=lk_ hb K1;replace K1:=ka_ hw K1;clear hw hb
 refine sw_ gA31_0_0 Y F fun a3 F h2=>?_;clear Y
 refine st_end ?_
 replace h0:=F.of h0;have R:=F.r;clear F
 change (cA31_2).wp _ _ _ _
 refine wp_seq (x:=cA31_3) (y:=Code.ret) ?_
 change (Code.region 1 OA31_1 false).wp _ _ _ _
 refine reg_in (l:=[0,1,2]) rfl ?_
 have F:=fe_ R;clear R
 refine sw_ gA31_1_0 (ym_ rfl (F.of h0)) F fun a4 F h3=>?_
 have Y:(execOp a4.eval oA31_1_1).run Try.prog w2=.ok (.value (.agg #[.int .i64 v,.int .i64 0,.string (⟨#[]⟩),.int .i64 0,.slice none 0 0,.bool true])) w2:=by unfold oA31_1_1;go_simp
 refine sw_ gA31_1_1 Y F fun a5 F h4=>?_;clear Y h3
 obtain ⟨w6,Y,hk,hB⟩:=ys6_ (o:=oA31_1_2) rfl (F.of h2) h4 B1
 replace K1:=kx_ hk K1 (Nat.not_lt.2 LK1_b1);clear B1;have B1:=hB;clear hB hk
 refine st_skip gA31_1_2 rfl (wanted_free rfl) Y ?_;clear Y
 refine st_end ?_
 clear h0;replace h2:=F.of h2;clear h4;have R:=F.r;clear F
 change (Code.ret).wp _ _ _ _
 refine wp_ret ?_
 change bodyPost Try.prog Try.f31 (fun e w'=>e=.returned (wv (.num v) none 0)∧Keep (fun g=>g < W.heap.size) W w') .ret a5 w6
 refine ret_cell6 (fn:=Try.f31) rfl R h2 B1 ?_
 exact ⟨rfl,K1⟩
theorem of_any (W:World) (v:Int):Calls Try.prog 31 #[.int .i64 v] W fun e w'=>e=.returned (wv (.num v) none 0)∧Keep (fun g=>g < W.heap.size) W w':=by
  refine enter_sx Try.func31 bodyA31 rfl (by show (1:Nat) ≤ 5;decide) fun f0 R hs=>?_
  exact of_w R (hs 0 _ rfl) (Keep.refl _ W)
def oA74_0_0:Oper:=⟨some 2,Op.alloc 24,0, "ref.go:17",#[],none⟩
def OA74_0:Array Oper:=List.toArray (oA74_0_0::[])
theorem gA74_0_0:OA74_0[0]? = some oA74_0_0:=rfl
def cA74_1:Code:=Code.region 0 OA74_0 false
def oA74_1_0:Oper:=⟨some 3,Op.move (Operand.tmp 0),9, "ref.go:18",#[],none⟩
def oA74_1_1:Oper:=⟨some 4,Op.call { callee:=Callee.value (Operand.func 20),args:=#[Operand.tmp 3],argTypes:=#[9] },24, "ref.go:18",#[ed_ 0],none⟩
def oA74_1_2:Oper:=⟨some 5,Op.buildSlice 22 1 #[(0,Operand.tmp 4)],22, "ref.go:18",#[ed_ 1],none⟩
def oA74_1_3:Oper:=⟨some 6,Op.call { callee:=Callee.value (Operand.func 15),args:=#[Operand.const (Value.string { data:=#[101,118,97,108,117,97,116,105,111,110,95,101,114,114,111,114] }),Operand.tmp 5],argTypes:=#[9,22] },24, "ref.go:18",#[ed_ 2,ec_ 1],none⟩
def oA74_1_4:Oper:=⟨some 7,Op.call { callee:=Callee.value (Operand.func 23),args:=#[Operand.tmp 6],argTypes:=#[24] },24, "ref.go:18",#[ed_ 3,ec_ 3],none⟩
def oA74_1_5:Oper:=⟨none,Op.store 24 (Operand.tmp 2) (Operand.tmp 7),0, "ref.go:18",#[ed_ 4,ec_ 4,ep_ 0,ep_ 1,ep_ 2,ep_ 3,ep_ 4],none⟩
def OA74_1:Array Oper:=List.toArray (oA74_1_0::oA74_1_1::oA74_1_2::oA74_1_3::oA74_1_4::oA74_1_5::[])
theorem gA74_1_0:OA74_1[0]? = some oA74_1_0:=rfl
theorem gA74_1_1:OA74_1[1]? = some oA74_1_1:=rfl
theorem gA74_1_2:OA74_1[2]? = some oA74_1_2:=rfl
theorem gA74_1_3:OA74_1[3]? = some oA74_1_3:=rfl
theorem gA74_1_4:OA74_1[4]? = some oA74_1_4:=rfl
theorem gA74_1_5:OA74_1[5]? = some oA74_1_5:=rfl
def cA74_3:Code:=Code.region 1 OA74_1 false
def cA74_2:Code:=Code.seq cA74_3 Code.ret
def cA74_0:Code:=Code.seq cA74_1 cA74_2
theorem enA74_20:Enters Try.prog 20:=enters_of Try.func20 (by kernel_rfl) rfl
theorem enA74_23:Enters Try.prog 23:=enters_of Try.func23 (by kernel_rfl) rfl
theorem bodyA74:Try.f74.body=some cA74_0:=by kernel_rfl
set_option maxRecDepth 100000 in
set_option maxHeartbeats 4000000 in
theorem evaluation_w {W:World} {s:List UInt8} {f0:Act} {w0:World} (R:FrS 8 f0) (h0:f0.tmps[0]? = some (.string (str s))) (K1:Keep (fun g=>g < W.heap.size) W w0)  (HNM:Hid (s.length ≤ maxLen)):cA74_0.wp Try.prog (bodyPost Try.prog Try.f74 (fun e w'=>∃ a' c',e=.returned (tv (ballT (flF s)) a' c')∧Own W.heap.size w' (ballT (flF s)) a' c'∧Keep (fun g=>g < W.heap.size) W w')) f0 w0:=by
 refine wp_seq (x:=cA74_1) (y:=cA74_2) ?_
 change (Code.region 0 OA74_0 false).wp _ _ _ _
 refine reg_in (l:=[0]) rfl ?_
 have F:=fe_ R;clear R
 have Y:(execOp f0.eval oA74_0_0).run Try.prog w0=.ok (.value (.pointer (some ⟨w0.heap.size,0,none⟩))) (w0.alloc (.cells #[.int .i64 0,.string (⟨#[]⟩),.int .i64 0,.slice none 0 0] 24)):=by unfold oA74_0_0;go_simp
 have B1:=Blk.new w0 24 #[.int .i64 0,.string (⟨#[]⟩),.int .i64 0,.slice none 0 0]
 obtain ⟨w2,hw⟩:∃ x,x=w0.alloc (.cells #[.int .i64 0,.string (⟨#[]⟩),.int .i64 0,.slice none 0 0] 24):=⟨_,rfl⟩;rw [← hw] at Y B1
 obtain ⟨b1,hb⟩:∃ x,x=w0.heap.size:=⟨_,rfl⟩;rw [← hb] at Y B1
 have LK1_b1:=lk_ hb K1;replace K1:=ka_ hw K1;clear hw hb
 refine sw_ gA74_0_0 Y F fun a3 F h2=>?_;clear Y
 refine st_end ?_
 replace h0:=F.of h0;have R:=F.r;clear F
 change (cA74_2).wp _ _ _ _
 refine wp_seq (x:=cA74_3) (y:=Code.ret) ?_
 change (Code.region 1 OA74_1 false).wp _ _ _ _
 refine reg_in (l:=[0,1,2,3,4,5]) rfl ?_
 have F:=fe_ R;clear R
 refine sw_ gA74_1_0 (ym_ rfl (F.of h0)) F fun a4 F h3=>?_
 refine st_call gA74_1_1 rfl (wanted_free rfl) (yc1_ enA74_20 rfl h3) ((refA_any _ s).mono ?_)
 rintro e9 w5 ⟨rfl,kk⟩
 replace K1:=keep_onto K1 kk
 replace B1:=blk_on B1 kk
 clear kk
 refine ⟨_,rfl,fun a6 e=>?_⟩
 clear h3;have h4:=pt_ F e;replace F:=pu_ F e;clear e
 have Y:(execOp a6.eval oA74_1_2).run Try.prog w5=.ok (.value (.slice (some ⟨w5.heap.size,0,none⟩) 1 1)) (w5.alloc (.cells #[.int .i64 ((Tm.node 3 s 0 []).k),.string (str (Tm.node 3 s 0 []).nm),.int .i64 ((Tm.node 3 s 0 []).i),.slice none (Tm.node 3 s 0 []).args.length 0] 24)):=by unfold oA74_1_2;go_simp
 have B7:=Blk.new w5 24 #[.int .i64 ((Tm.node 3 s 0 []).k),.string (str (Tm.node 3 s 0 []).nm),.int .i64 ((Tm.node 3 s 0 []).i),.slice none (Tm.node 3 s 0 []).args.length 0]
 obtain ⟨w8,hw⟩:∃ x,x=w5.alloc (.cells #[.int .i64 ((Tm.node 3 s 0 []).k),.string (str (Tm.node 3 s 0 []).nm),.int .i64 ((Tm.node 3 s 0 []).i),.slice none (Tm.node 3 s 0 []).args.length 0] 24):=⟨_,rfl⟩;rw [← hw] at Y B7
 obtain ⟨b7,hb⟩:∃ x,x=w5.heap.size:=⟨_,rfl⟩;rw [← hb] at Y B7
 have Nb1_b7:=nb_ hb B1;replace B1:=ba_ hw B1;have LK1_b7:=lk_ hb K1;replace K1:=ka_ hw K1;clear hw hb
 refine sw_ gA74_1_2 Y F fun a9 F h5=>?_;clear Y h4
 have Y:(execOp a9.eval oA74_1_3).run Try.prog w8=.ok (.enter 15 #[.string (⟨#[101,118,97,108,117,97,116,105,111,110,95,101,114,114,111,114]⟩),.slice (some ⟨b7,0,none⟩) 1 1]) w8:=by unfold oA74_1_3;go_simp
 refine st_call gA74_1_3 rfl (wanted_free rfl) Y ((refC_any _ [101,118,97,108,117,97,116,105,111,110,95,101,114,114,111,114] [Tm.node 3 s 0 []] (some ⟨b7,0,none⟩) 1).mono ?_);clear Y
 rintro e9 w10 ⟨rfl,kk⟩
 replace K1:=keep_onto K1 kk
 replace B1:=blk_on B1 kk
 replace B7:=blk_on B7 kk
 clear kk
 refine ⟨_,rfl,fun a11 e=>?_⟩
 clear h5;have h6:=pt_ F e;replace F:=pu_ F e;clear e
 have ho:OwnP (fun g=>g=b7) w10 (flF s) (some ⟨b7,0,none⟩) 1:=OwnP.comp (ps:=[(Tm.node 3 s 0 [],none,0)]) B7 rfl (fun p hp=>by rw [List.mem_singleton.1 hp];exact .leaf (by decide) (by decide) HNM.out) (by decide) (Nat.le_of_ble_eq_true rfl)
 have hca:=refBall_any ho;clear ho
 have U9:=B1.lt
 have HWX:=K1.size
 refine st_call gA74_1_4 rfl (wanted_free rfl) (yc1_ enA74_23 rfl h6) ((hca).mono ?_)
 rintro e9 w12 ⟨ax,cx,rfl,hx,kk⟩
 replace K1:=keep_onto K1 kk
 replace B1:=blk_on B1 kk
 replace B7:=blk_on B7 kk
 clear kk
 clear hca;have HX:=Lib.hid hx;clear hx
 have KX:=Keep.refl (fun g=>(g=b7∨w10.heap.size ≤ g)∧g < w12.heap.size) w12
 refine ⟨_,rfl,fun a13 e=>?_⟩
 clear h6;have h7:=pt_ F e;replace F:=pu_ F e;clear e
 obtain ⟨w14,Y,hk,hB⟩:=ys4_ (o:=oA74_1_5) rfl (F.of h2) h7 B1
 replace K1:=kx_ hk K1 (Nat.not_lt.2 LK1_b1);replace KX:=kx_ hk KX (fun hx=>by rcases hx.1 with h | h;exact Nb1_b7 h;exact absurd U9 (Nat.not_lt.2 h));replace B7:=bx_ hk B7 (Ne.symm Nb1_b7);clear B1;have B1:=hB;clear hB hk
 refine st_skip gA74_1_5 rfl (wanted_free rfl) Y ?_;clear Y
 refine st_end ?_
 clear h0;replace h2:=F.of h2;clear h7;have R:=F.r;clear F
 change (Code.ret).wp _ _ _ _
 refine wp_ret ?_
 change bodyPost Try.prog Try.f74 (fun e w'=>∃ a' c',e=.returned (tv (ballT (flF s)) a' c')∧Own W.heap.size w' (ballT (flF s)) a' c'∧Keep (fun g=>g < W.heap.size) W w') .ret a13 w14
 refine ret_cell (fn:=Try.f74) rfl R h2 B1 ?_
 have h9:OwnP (fun g=>W.heap.size ≤ g) _ (ballT (flF s)) ax cx:=(HX.out.on KX).up (fun g _ h=>by rcases h with h | h;exact h ▸ LK1_b7;exact Nat.le_trans HWX h)
 exact ⟨ax,cx,rfl,h9,K1⟩
theorem evaluation_any {W:World} {s:List UInt8} (hn:s.length ≤ maxLen):Calls Try.prog 74 #[.string (str s)] W fun e w'=>∃ a' c',e=.returned (tv (ballT (flF s)) a' c')∧Own W.heap.size w' (ballT (flF s)) a' c'∧Keep (fun g=>g < W.heap.size) W w':=by
  refine enter_sx Try.func74 bodyA74 rfl (by show (1:Nat) ≤ 8;decide) fun f0 R hs=>?_
  exact evaluation_w R (hs 0 _ rfl) (Keep.refl _ W) (Lib.hid hn)
def oA59_0_0:Oper:=⟨some 2,Op.alloc 30,0, "ref.go:31",#[],none⟩
def OA59_0:Array Oper:=List.toArray (oA59_0_0::[])
theorem gA59_0_0:OA59_0[0]? = some oA59_0_0:=rfl
def cA59_1:Code:=Code.region 0 OA59_0 false
def oA59_1_0:Oper:=⟨some 3,Op.move (Operand.tmp 0),9, "ref.go:31",#[],none⟩
def oA59_1_1:Oper:=⟨some 4,Op.call { callee:=Callee.value (Operand.func 74),args:=#[Operand.tmp 3],argTypes:=#[9] },24, "ref.go:31",#[ed_ 0],none⟩
def oA59_1_2:Oper:=⟨some 5,Op.build 30 #[(1,Operand.tmp 4)],30, "ref.go:31",#[ed_ 1],none⟩
def oA59_1_3:Oper:=⟨none,Op.store 30 (Operand.tmp 2) (Operand.tmp 5),0, "ref.go:31",#[ed_ 2,ec_ 1,ep_ 0,ep_ 1,ep_ 2],none⟩
def OA59_1:Array Oper:=List.toArray (oA59_1_0::oA59_1_1::oA59_1_2::oA59_1_3::[])
theorem gA59_1_0:OA59_1[0]? = some oA59_1_0:=rfl
theorem gA59_1_1:OA59_1[1]? = some oA59_1_1:=rfl
theorem gA59_1_2:OA59_1[2]? = some oA59_1_2:=rfl
theorem gA59_1_3:OA59_1[3]? = some oA59_1_3:=rfl
def cA59_3:Code:=Code.region 1 OA59_1 false
def cA59_2:Code:=Code.seq cA59_3 Code.ret
def cA59_0:Code:=Code.seq cA59_1 cA59_2
theorem enA59_74:Enters Try.prog 74:=enters_of Try.func74 (by kernel_rfl) rfl
theorem bodyA59:Try.f59.body=some cA59_0:=by kernel_rfl
set_option maxRecDepth 100000 in
set_option maxHeartbeats 4000000 in
theorem fails_w {W:World} {s:List UInt8} {f0:Act} {w0:World} (R:FrS 6 f0) (h0:f0.tmps[0]? = some (.string (str s))) (K1:Keep (fun g=>g < W.heap.size) W w0)  (HNM:Hid (s.length ≤ maxLen)):cA59_0.wp Try.prog (bodyPost Try.prog Try.f59 (fun e w'=>∃ a' c',e=.returned (wv (.bal (ballT (flF s))) a' c')∧Own W.heap.size w' (ballT (flF s)) a' c'∧Keep (fun g=>g < W.heap.size) W w')) f0 w0:=by
 refine wp_seq (x:=cA59_1) (y:=cA59_2) ?_
 change (Code.region 0 OA59_0 false).wp _ _ _ _
 refine reg_in (l:=[0]) rfl ?_
 have F:=fe_ R;clear R
 have Y:(execOp f0.eval oA59_0_0).run Try.prog w0=.ok (.value (.pointer (some ⟨w0.heap.size,0,none⟩))) (w0.alloc (.cells #[.int .i64 0,.int .i64 0,.string (⟨#[]⟩),.int .i64 0,.slice none 0 0,.bool false] 30)):=by unfold oA59_0_0;go_simp
 have B1:=Blk.new w0 30 #[.int .i64 0,.int .i64 0,.string (⟨#[]⟩),.int .i64 0,.slice none 0 0,.bool false]
 obtain ⟨w2,hw⟩:∃ x,x=w0.alloc (.cells #[.int .i64 0,.int .i64 0,.string (⟨#[]⟩),.int .i64 0,.slice none 0 0,.bool false] 30):=⟨_,rfl⟩;rw [← hw] at Y B1
 obtain ⟨b1,hb⟩:∃ x,x=w0.heap.size:=⟨_,rfl⟩;rw [← hb] at Y B1
 have LK1_b1:=lk_ hb K1;replace K1:=ka_ hw K1;clear hw hb
 refine sw_ gA59_0_0 Y F fun a3 F h2=>?_;clear Y
 refine st_end ?_
 replace h0:=F.of h0;have R:=F.r;clear F
 change (cA59_2).wp _ _ _ _
 refine wp_seq (x:=cA59_3) (y:=Code.ret) ?_
 change (Code.region 1 OA59_1 false).wp _ _ _ _
 refine reg_in (l:=[0,1,2,3]) rfl ?_
 have F:=fe_ R;clear R
 refine sw_ gA59_1_0 (ym_ rfl (F.of h0)) F fun a4 F h3=>?_
 have hca:=evaluation_any (W:=w2) (s:=s) HNM.out
 have UKX_b1:=B1.lt
 have HWKX:W.heap.size ≤ w2.heap.size:=K1.size
 refine st_call gA59_1_1 rfl (wanted_free rfl) (yc1_ enA59_74 rfl h3) ((hca).mono ?_)
 rintro e9 w5 ⟨ax,cx,rfl,hx,kk⟩
 replace K1:=keep_onto K1 kk
 replace B1:=blk_on B1 kk
 clear kk
 clear hca
 have HX:=Lib.hid hx;clear hx
 have KX:=Keep.refl (fun g=>w2.heap.size ≤ g∧g < w5.heap.size) w5
 refine ⟨_,rfl,fun a6 e=>?_⟩
 clear h3;have h4:=pt_ F e;replace F:=pu_ F e;clear e
 have Y:(execOp a6.eval oA59_1_2).run Try.prog w5=.ok (.value (.agg #[.int .i64 0,.int .i64 ((ballT (flF s)).k),.string (str (ballT (flF s)).nm),.int .i64 ((ballT (flF s)).i),.slice ax (ballT (flF s)).args.length cx,.bool false])) w5:=by unfold oA59_1_2;go_simp
 refine sw_ gA59_1_2 Y F fun a7 F h5=>?_;clear Y h4
 obtain ⟨w8,Y,hk,hB⟩:=ys6_ (o:=oA59_1_3) rfl (F.of h2) h5 B1
 replace K1:=kx_ hk K1 (Nat.not_lt.2 LK1_b1);replace KX:=kx_ hk KX (fun hx=>absurd hx.1 (Nat.not_le.2 UKX_b1));clear B1;have B1:=hB;clear hB hk
 refine st_skip gA59_1_3 rfl (wanted_free rfl) Y ?_;clear Y
 refine st_end ?_
 clear h0;replace h2:=F.of h2;clear h5;have R:=F.r;clear F
 change (Code.ret).wp _ _ _ _
 refine wp_ret ?_
 change bodyPost Try.prog Try.f59 (fun e w'=>∃ a' c',e=.returned (wv (.bal (ballT (flF s))) a' c')∧Own W.heap.size w' (ballT (flF s)) a' c'∧Keep (fun g=>g < W.heap.size) W w') .ret a7 w8
 refine ret_cell6 (fn:=Try.f59) rfl R h2 B1 ?_
 exact ⟨ax,cx,rfl,(HX.out.on KX).up HWKX,K1⟩
theorem fails_any {W:World} {s:List UInt8} (hn:s.length ≤ maxLen):Calls Try.prog 59 #[.string (str s)] W fun e w'=>∃ a' c',e=.returned (wv (.bal (ballT (flF s))) a' c')∧Own W.heap.size w' (ballT (flF s)) a' c'∧Keep (fun g=>g < W.heap.size) W w':=by
  refine enter_sx Try.func59 bodyA59 rfl (by show (1:Nat) ≤ 6;decide) fun f0 R hs=>?_
  exact fails_w R (hs 0 _ rfl) (Keep.refl _ W) (Lib.hid hn)
def oI0_0:Oper:=⟨some 4,Op.alloc 30,0, "ref.go:83",#[],none⟩
def OI0:Array Oper:=List.toArray (oI0_0::[])
theorem gI0_0:OI0[0]? = some oI0_0:=rfl
def cI1:Code:=Code.region 0 OI0 false
def oI1_0:Oper:=⟨some 5,Op.move (Operand.tmp 1),2, "ref.go:84",#[],none⟩
def oI1_1:Oper:=⟨some 6,Op.binOp Go.BinOp.gtr 2 (Operand.tmp 5) (Operand.const (Value.int IntKind.i64 0)) 2,4, "ref.go:84",#[ed_ 0],none⟩
def oI1_2:Oper:=⟨some 7,Op.move (Operand.tmp 6),4, "ref.go:84",#[ed_ 1],none⟩
def oI1_3:Oper:=⟨some 8,Op.move (Operand.tmp 0),2, "ref.go:84",#[eg_ 2],some (2,true)⟩
def oI1_4:Oper:=⟨some 9,Op.move (Operand.tmp 1),2, "ref.go:84",#[eg_ 2],some (2,true)⟩
def oI1_5:Oper:=⟨some 10,Op.binOp Go.BinOp.sub 2 (Operand.const (Value.int IntKind.i64 9223372036854775807)) (Operand.tmp 9) 2,2, "ref.go:84",#[ed_ 4,eg_ 2],some (2,true)⟩
def oI1_6:Oper:=⟨some 11,Op.binOp Go.BinOp.gtr 2 (Operand.tmp 8) (Operand.tmp 10) 2,4, "ref.go:84",#[ed_ 3,ed_ 5,eg_ 2],some (2,true)⟩
def oI1_7:Oper:=⟨some 12,Op.pick (Operand.tmp 7) (Operand.tmp 11) (Operand.const (Value.bool false)),4, "ref.go:84",#[ed_ 2,ed_ 6],none⟩
def oI1_8:Oper:=⟨some 13,Op.move (Operand.tmp 12),4, "ref.go:84",#[ed_ 7,ec_ 2],none⟩
def oI1_9:Oper:=⟨some 14,Op.move (Operand.tmp 1),2, "ref.go:84",#[eg_ 8],some (8,false)⟩
def oI1_10:Oper:=⟨some 15,Op.binOp Go.BinOp.lss 2 (Operand.tmp 14) (Operand.const (Value.int IntKind.i64 0)) 2,4, "ref.go:84",#[ed_ 9,eg_ 8],some (8,false)⟩
def oI1_11:Oper:=⟨some 16,Op.move (Operand.tmp 15),4, "ref.go:84",#[ed_ 10,ec_ 8,eg_ 8],some (8,false)⟩
def oI1_12:Oper:=⟨some 17,Op.move (Operand.tmp 0),2, "ref.go:84",#[eg_ 11],some (11,true)⟩
def oI1_13:Oper:=⟨some 18,Op.move (Operand.tmp 1),2, "ref.go:84",#[eg_ 11],some (11,true)⟩
def oI1_14:Oper:=⟨some 19,Op.binOp Go.BinOp.sub 2 (Operand.const (Value.int IntKind.i64 (-9223372036854775808))) (Operand.tmp 18) 2,2, "ref.go:84",#[ed_ 13,eg_ 11],some (11,true)⟩
def oI1_15:Oper:=⟨some 20,Op.binOp Go.BinOp.lss 2 (Operand.tmp 17) (Operand.tmp 19) 2,4, "ref.go:84",#[ed_ 12,ed_ 14,eg_ 11],some (11,true)⟩
def oI1_16:Oper:=⟨some 21,Op.pick (Operand.tmp 16) (Operand.tmp 20) (Operand.const (Value.bool false)),4, "ref.go:84",#[ed_ 11,ed_ 15,eg_ 8],some (8,false)⟩
def oI1_17:Oper:=⟨some 22,Op.pick (Operand.tmp 13) (Operand.const (Value.bool true)) (Operand.tmp 21),4, "ref.go:84",#[ed_ 8,ed_ 16],none⟩
def OI1:Array Oper:=List.toArray (oI1_0::oI1_1::oI1_2::oI1_3::oI1_4::oI1_5::oI1_6::oI1_7::oI1_8::oI1_9::oI1_10::oI1_11::oI1_12::oI1_13::oI1_14::oI1_15::oI1_16::oI1_17::[])
theorem gI1_0:OI1[0]? = some oI1_0:=rfl
theorem gI1_1:OI1[1]? = some oI1_1:=rfl
theorem gI1_2:OI1[2]? = some oI1_2:=rfl
theorem gI1_3:OI1[3]? = some oI1_3:=rfl
theorem gI1_4:OI1[4]? = some oI1_4:=rfl
theorem gI1_5:OI1[5]? = some oI1_5:=rfl
theorem gI1_6:OI1[6]? = some oI1_6:=rfl
theorem gI1_7:OI1[7]? = some oI1_7:=rfl
theorem gI1_8:OI1[8]? = some oI1_8:=rfl
theorem gI1_9:OI1[9]? = some oI1_9:=rfl
theorem gI1_10:OI1[10]? = some oI1_10:=rfl
theorem gI1_11:OI1[11]? = some oI1_11:=rfl
theorem gI1_12:OI1[12]? = some oI1_12:=rfl
theorem gI1_13:OI1[13]? = some oI1_13:=rfl
theorem gI1_14:OI1[14]? = some oI1_14:=rfl
theorem gI1_15:OI1[15]? = some oI1_15:=rfl
theorem gI1_16:OI1[16]? = some oI1_16:=rfl
theorem gI1_17:OI1[17]? = some oI1_17:=rfl
def cI4:Code:=Code.region 1 OI1 false
def oI2_0:Oper:=⟨some 23,Op.call { callee:=Callee.value (Operand.func 59),args:=#[Operand.const (Value.string { data:=#[105,110,116,95,111,118,101,114,102,108,111,119] })],argTypes:=#[9] },30, "ref.go:85",#[],none⟩
def oI2_1:Oper:=⟨none,Op.store 30 (Operand.tmp 4) (Operand.tmp 23),0, "ref.go:85",#[ed_ 0,ec_ 0,ep_ 0],none⟩
def OI2:Array Oper:=List.toArray (oI2_0::oI2_1::[])
theorem gI2_0:OI2[0]? = some oI2_0:=rfl
theorem gI2_1:OI2[1]? = some oI2_1:=rfl
def cI7:Code:=Code.region 2 OI2 false
def cI6:Code:=Code.seq cI7 Code.ret
def cI5:Code:=Code.cond (Operand.tmp 22) cI6 Code.skip
def cI3:Code:=Code.seq cI4 cI5
def oI3_0:Oper:=⟨some 24,Op.move (Operand.tmp 0),2, "ref.go:87",#[],none⟩
def oI3_1:Oper:=⟨some 25,Op.move (Operand.tmp 1),2, "ref.go:87",#[],none⟩
def oI3_2:Oper:=⟨some 26,Op.binOp Go.BinOp.add 2 (Operand.tmp 24) (Operand.tmp 25) 2,2, "ref.go:87",#[ed_ 0,ed_ 1],none⟩
def oI3_3:Oper:=⟨some 27,Op.call { callee:=Callee.value (Operand.func 31),args:=#[Operand.tmp 26],argTypes:=#[2] },30, "ref.go:87",#[ed_ 2],none⟩
def oI3_4:Oper:=⟨none,Op.store 30 (Operand.tmp 4) (Operand.tmp 27),0, "ref.go:87",#[ed_ 3,ec_ 3,ep_ 0,ep_ 1,ep_ 2,ep_ 3],none⟩
def OI3:Array Oper:=List.toArray (oI3_0::oI3_1::oI3_2::oI3_3::oI3_4::[])
theorem gI3_0:OI3[0]? = some oI3_0:=rfl
theorem gI3_1:OI3[1]? = some oI3_1:=rfl
theorem gI3_2:OI3[2]? = some oI3_2:=rfl
theorem gI3_3:OI3[3]? = some oI3_3:=rfl
theorem gI3_4:OI3[4]? = some oI3_4:=rfl
def cI11:Code:=Code.region 3 OI3 false
def cI10:Code:=Code.seq cI11 Code.ret
def cI2:Code:=Code.seq cI3 cI10
def cI0:Code:=Code.seq cI1 cI2
theorem enA44_31:Enters Try.prog 31:=enters_of Try.func31 (by kernel_rfl) rfl
theorem bodyA44:Try.f44.body=some cI0:=by kernel_rfl
set_option maxRecDepth 100000 in
set_option maxHeartbeats 4000000 in
theorem radd_w {W:World} {a b:Int} {f0:Act} {w0:World} (R:FrS 28 f0) (h0:f0.tmps[0]? = some (.int .i64 a)) (h1:f0.tmps[1]? = some (.int .i64 b)) (K1:Keep (fun g=>g < W.heap.size) W w0)  (HA:Hid (inR a)) (HB:Hid (inR b)):cI0.wp Try.prog (bodyPost Try.prog Try.f44 (fun e w'=>WA (resW (big (a + b))) W e w')) f0 w0:=by
 refine wp_seq (x:=cI1) (y:=cI2) ?_
 change (Code.region 0 OI0 false).wp _ _ _ _
 refine reg_in (l:=[0]) rfl ?_
 have F:=fe_ R;clear R
 have Y:(execOp f0.eval oI0_0).run Try.prog w0=.ok (.value (.pointer (some ⟨w0.heap.size,0,none⟩))) (w0.alloc (.cells #[.int .i64 0,.int .i64 0,.string (⟨#[]⟩),.int .i64 0,.slice none 0 0,.bool false] 30)):=by unfold oI0_0;go_simp
 have B1:=Blk.new w0 30 #[.int .i64 0,.int .i64 0,.string (⟨#[]⟩),.int .i64 0,.slice none 0 0,.bool false]
 obtain ⟨w2,hw⟩:∃ x,x=w0.alloc (.cells #[.int .i64 0,.int .i64 0,.string (⟨#[]⟩),.int .i64 0,.slice none 0 0,.bool false] 30):=⟨_,rfl⟩;rw [← hw] at Y B1
 obtain ⟨b1,hb⟩:∃ x,x=w0.heap.size:=⟨_,rfl⟩;rw [← hb] at Y B1
 have LK1_b1:=lk_ hb K1;replace K1:=ka_ hw K1;clear hw hb
 refine sw_ gI0_0 Y F fun a3 F h4=>?_;clear Y
 refine st_end ?_
 replace h0:=F.of h0;replace h1:=F.of h1;have R:=F.r;clear F
 change (cI2).wp _ _ _ _
 refine wp_seq (x:=cI3) (y:=cI10) ?_
 refine wp_seq (x:=cI4) (y:=cI5) ?_
 change (Code.region 1 OI1 false).wp _ _ _ _
 refine reg_in (l:=[0,1,2,3,4,5,6,7,8,9,10,11,12,13,14,15,16,17]) rfl ?_
 have F:=fe_ R;clear R
 refine sw_ gI1_0 (ym_ rfl (F.of h1)) F fun a4 F h5=>?_
 obtain ⟨b5,hb5⟩:∃ x,(decide ((0:Int) < (b:Int)))=x:=⟨_,rfl⟩
 have Y:(execOp a4.eval oI1_1).run Try.prog w2=.ok (.value (.bool b5)) w2:=by rw [← hb5];unfold oI1_1;go_simp
 refine sw_ gI1_1 Y F fun a6 F h6=>?_;clear Y h5
 refine sv_ gI1_2 (ym_ rfl h6) fun a7 e=>?_
 clear h6;have h7:=pt_ F e;replace F:=pu_ F e;clear e
 cases b5 with
 | false =>
  have fb5:=hb5;clear hb5
  simp only [dd_] at fb5
  refine st_not gI1_3 rfl (wanted_is (j:=2) (d:=7) rfl rfl h7 rfl) fun a8 e=>?_
  have h8:=pt_ F e;replace F:=pu_ F e;replace h7:=so_ e h7;clear e
  refine st_not gI1_4 rfl (wanted_is (j:=2) (d:=7) rfl rfl h7 rfl) fun a9 e=>?_
  have h9:=pt_ F e;replace F:=pu_ F e;replace h7:=so_ e h7;replace h8:=so_ e h8;clear e
  refine st_not gI1_5 rfl (wanted_is (j:=2) (d:=7) rfl rfl h7 rfl) fun a10 e=>?_
  clear h9;have h10:=pt_ F e;replace F:=pu_ F e;replace h7:=so_ e h7;replace h8:=so_ e h8;clear e
  refine st_not gI1_6 rfl (wanted_is (j:=2) (d:=7) rfl rfl h7 rfl) fun a11 e=>?_
  clear h8 h10;have h11:=pt_ F e;replace F:=pu_ F e;replace h7:=so_ e h7;clear e
  have Y:(execOp a11.eval oI1_7).run Try.prog w2=.ok (.value (.bool false)) w2:=by unfold oI1_7;go_simp
  refine sw_ gI1_7 Y F fun a12 F h12=>?_;clear Y h7 h11
  refine sv_ gI1_8 (ym_ rfl h12) fun a13 e=>?_
  clear h12;have h13:=pt_ F e;replace F:=pu_ F e;clear e
  refine st_val gI1_9 rfl (wanted_is (j:=8) (d:=13) rfl rfl h13 rfl) (ym_ rfl (F.of h1)) fun a14 e=>?_
  have h14:=pt_ F e;replace F:=pu_ F e;replace h13:=so_ e h13;clear e
  obtain ⟨b15,hb15⟩:∃ x,(decide ((b:Int) < (0:Int)))=x:=⟨_,rfl⟩
  have Y:(execOp a14.eval oI1_10).run Try.prog w2=.ok (.value (.bool b15)) w2:=by rw [← hb15];unfold oI1_10;go_simp
  refine st_val gI1_10 rfl (wanted_is (j:=8) (d:=13) rfl rfl h13 rfl) Y fun a16 e=>?_;clear Y
  clear h14;have h15:=pt_ F e;replace F:=pu_ F e;replace h13:=so_ e h13;clear e
  refine st_val gI1_11 rfl (wanted_is (j:=8) (d:=13) rfl rfl h13 rfl) (ym_ rfl h15) fun a17 e=>?_
  clear h15;have h16:=pt_ F e;replace F:=pu_ F e;replace h13:=so_ e h13;clear e
  cases b15 with
  | false =>
   have fb15:=hb15;clear hb15
   simp only [dd_] at fb15
   refine st_not gI1_12 rfl (wanted_is (j:=11) (d:=16) rfl rfl h16 rfl) fun a18 e=>?_
   have h17:=pt_ F e;replace F:=pu_ F e;replace h13:=so_ e h13;replace h16:=so_ e h16;clear e
   refine st_not gI1_13 rfl (wanted_is (j:=11) (d:=16) rfl rfl h16 rfl) fun a19 e=>?_
   have h18:=pt_ F e;replace F:=pu_ F e;replace h13:=so_ e h13;replace h16:=so_ e h16;replace h17:=so_ e h17;clear e
   refine st_not gI1_14 rfl (wanted_is (j:=11) (d:=16) rfl rfl h16 rfl) fun a20 e=>?_
   clear h18;have h19:=pt_ F e;replace F:=pu_ F e;replace h13:=so_ e h13;replace h16:=so_ e h16;replace h17:=so_ e h17;clear e
   refine st_not gI1_15 rfl (wanted_is (j:=11) (d:=16) rfl rfl h16 rfl) fun a21 e=>?_
   clear h17 h19;have h20:=pt_ F e;replace F:=pu_ F e;replace h13:=so_ e h13;replace h16:=so_ e h16;clear e
   have Y:(execOp a21.eval oI1_16).run Try.prog w2=.ok (.value (.bool false)) w2:=by unfold oI1_16;go_simp
   refine st_val gI1_16 rfl (wanted_is (j:=8) (d:=13) rfl rfl h13 rfl) Y fun a22 e=>?_;clear Y
   clear h16 h20;have h21:=pt_ F e;replace F:=pu_ F e;replace h13:=so_ e h13;clear e
   have Y:(execOp a22.eval oI1_17).run Try.prog w2=.ok (.value (.bool false)) w2:=by unfold oI1_17;go_simp
   refine sw_ gI1_17 Y F fun a23 F h22=>?_;clear Y h13 h21
   refine st_end ?_
   replace h0:=F.of h0;replace h1:=F.of h1;replace h4:=F.of h4;have R:=F.r;clear F
   change (cI5).wp _ _ _ _
   refine wp_cond_false (x:=cI6) (y:=Code.skip) (eval_slot h22) ?_
   refine wp_skip ?_
   change (cI10).wp _ _ _ _
   refine wp_seq (x:=cI11) (y:=Code.ret) ?_
   change (Code.region 3 OI3 false).wp _ _ _ _
   refine reg_in (l:=[0,1,2,3,4]) rfl ?_
   have F:=fe_ R;clear R
   refine sw_ gI3_0 (ym_ rfl (F.of h0)) F fun a24 F h24=>?_
   refine sv_ gI3_1 (ym_ rfl (F.of h1)) fun a25 e=>?_
   have h25:=pt_ F e;replace F:=pu_ F e;replace h24:=so_ e h24;clear e
   have Y:(execOp a25.eval oI3_2).run Try.prog w2=.ok (.value (.int .i64 (IntKind.i64.wrap (a + b)))) w2:=by unfold oI3_2;go_simp
   refine sw_ gI3_2 Y F fun a26 F h26=>?_;clear Y h24 h25
   refine st_call gI3_3 rfl (wanted_free rfl) (yc1_ enA44_31 rfl h26) ((of_any _ (IntKind.i64.wrap (a + b))).mono ?_)
   rintro e9 w27 ⟨rfl,kk⟩
   replace K1:=keep_onto K1 kk
   replace B1:=blk_on B1 kk
   clear kk
   refine ⟨_,rfl,fun a28 e=>?_⟩
   clear h26;have h27:=pt_ F e;replace F:=pu_ F e;clear e
   obtain ⟨w29,Y,hk,hB⟩:=ys6_ (o:=oI3_4) rfl (F.of h4) h27 B1
   replace K1:=kx_ hk K1 (Nat.not_lt.2 LK1_b1);clear B1;have B1:=hB;clear hB hk
   refine st_skip gI3_4 rfl (wanted_free rfl) Y ?_;clear Y
   refine st_end ?_
   clear h0;clear h1;replace h4:=F.of h4;clear h22;clear h27;have R:=F.r;clear F
   change (Code.ret).wp _ _ _ _
   refine wp_ret ?_
   change bodyPost Try.prog Try.f44 (fun e w'=>WA (resW (big (a + b))) W e w') .ret a28 w29
   refine ret_cell6 (fn:=Try.f44) rfl R h4 B1 ?_
   exact (show WA (resW (big (a + b))) W _ _ by rw [big_is (z:=a + b) (v:=IntKind.i64.wrap (a + b)) (by have ha:=HA.out;have hb:=HB.out;unfold inR at ha hb;try simp only [IntKind.wrap_i64] at *;omega) (by unfold inR;have ha:=HA.out;have hb:=HB.out;unfold inR at ha hb;try simp only [IntKind.wrap_i64] at *;omega),resW_n];exact ⟨none,0,rfl,own_zero,K1⟩)
  | true =>
   have fb15:=hb15;clear hb15
   simp only [dd_] at fb15
   refine st_val gI1_12 rfl (wanted_is (j:=11) (d:=16) rfl rfl h16 rfl) (ym_ rfl (F.of h0)) fun a30 e=>?_
   have h17:=pt_ F e;replace F:=pu_ F e;replace h13:=so_ e h13;replace h16:=so_ e h16;clear e
   refine st_val gI1_13 rfl (wanted_is (j:=11) (d:=16) rfl rfl h16 rfl) (ym_ rfl (F.of h1)) fun a31 e=>?_
   have h18:=pt_ F e;replace F:=pu_ F e;replace h13:=so_ e h13;replace h16:=so_ e h16;replace h17:=so_ e h17;clear e
   have Y:(execOp a31.eval oI1_14).run Try.prog w2=.ok (.value (.int .i64 (IntKind.i64.wrap ((-9223372036854775808) - b)))) w2:=by unfold oI1_14;go_simp
   refine st_val gI1_14 rfl (wanted_is (j:=11) (d:=16) rfl rfl h16 rfl) Y fun a32 e=>?_;clear Y
   clear h18;have h19:=pt_ F e;replace F:=pu_ F e;replace h13:=so_ e h13;replace h16:=so_ e h16;replace h17:=so_ e h17;clear e
   obtain ⟨b33,hb33⟩:∃ x,(decide ((a:Int) < (IntKind.i64.wrap ((-9223372036854775808) - b):Int)))=x:=⟨_,rfl⟩
   have Y:(execOp a32.eval oI1_15).run Try.prog w2=.ok (.value (.bool b33)) w2:=by rw [← hb33];unfold oI1_15;go_simp
   refine st_val gI1_15 rfl (wanted_is (j:=11) (d:=16) rfl rfl h16 rfl) Y fun a34 e=>?_;clear Y
   clear h17 h19;have h20:=pt_ F e;replace F:=pu_ F e;replace h13:=so_ e h13;replace h16:=so_ e h16;clear e
   have Y:(execOp a34.eval oI1_16).run Try.prog w2=.ok (.value (.bool b33)) w2:=by unfold oI1_16;go_simp
   refine st_val gI1_16 rfl (wanted_is (j:=8) (d:=13) rfl rfl h13 rfl) Y fun a35 e=>?_;clear Y
   clear h16 h20;have h21:=pt_ F e;replace F:=pu_ F e;replace h13:=so_ e h13;clear e
   have Y:(execOp a35.eval oI1_17).run Try.prog w2=.ok (.value (.bool b33)) w2:=by unfold oI1_17;go_simp
   refine sw_ gI1_17 Y F fun a36 F h22=>?_;clear Y h13 h21
   refine st_end ?_
   replace h0:=F.of h0;replace h1:=F.of h1;replace h4:=F.of h4;have R:=F.r;clear F
   change (cI5).wp _ _ _ _
   cases b33 with
   | false =>
    have fb33:=hb33;clear hb33
    simp only [dd_] at fb33
    refine wp_cond_false (x:=cI6) (y:=Code.skip) (eval_slot h22) ?_
    refine wp_skip ?_
    change (cI10).wp _ _ _ _
    refine wp_seq (x:=cI11) (y:=Code.ret) ?_
    change (Code.region 3 OI3 false).wp _ _ _ _
    refine reg_in (l:=[0,1,2,3,4]) rfl ?_
    have F:=fe_ R;clear R
    refine sw_ gI3_0 (ym_ rfl (F.of h0)) F fun a37 F h24=>?_
    refine sv_ gI3_1 (ym_ rfl (F.of h1)) fun a38 e=>?_
    have h25:=pt_ F e;replace F:=pu_ F e;replace h24:=so_ e h24;clear e
    have Y:(execOp a38.eval oI3_2).run Try.prog w2=.ok (.value (.int .i64 (IntKind.i64.wrap (a + b)))) w2:=by unfold oI3_2;go_simp
    refine sw_ gI3_2 Y F fun a39 F h26=>?_;clear Y h24 h25
    refine st_call gI3_3 rfl (wanted_free rfl) (yc1_ enA44_31 rfl h26) ((of_any _ (IntKind.i64.wrap (a + b))).mono ?_)
    rintro e9 w40 ⟨rfl,kk⟩
    replace K1:=keep_onto K1 kk
    replace B1:=blk_on B1 kk
    clear kk
    refine ⟨_,rfl,fun a41 e=>?_⟩
    clear h26;have h27:=pt_ F e;replace F:=pu_ F e;clear e
    obtain ⟨w42,Y,hk,hB⟩:=ys6_ (o:=oI3_4) rfl (F.of h4) h27 B1
    replace K1:=kx_ hk K1 (Nat.not_lt.2 LK1_b1);clear B1;have B1:=hB;clear hB hk
    refine st_skip gI3_4 rfl (wanted_free rfl) Y ?_;clear Y
    refine st_end ?_
    clear h0;clear h1;replace h4:=F.of h4;clear h22;clear h27;have R:=F.r;clear F
    change (Code.ret).wp _ _ _ _
    refine wp_ret ?_
    change bodyPost Try.prog Try.f44 (fun e w'=>WA (resW (big (a + b))) W e w') .ret a41 w42
    refine ret_cell6 (fn:=Try.f44) rfl R h4 B1 ?_
    exact (show WA (resW (big (a + b))) W _ _ by rw [big_is (z:=a + b) (v:=IntKind.i64.wrap (a + b)) (by have ha:=HA.out;have hb:=HB.out;unfold inR at ha hb;try simp only [IntKind.wrap_i64] at *;omega) (by unfold inR;have ha:=HA.out;have hb:=HB.out;unfold inR at ha hb;try simp only [IntKind.wrap_i64] at *;omega),resW_n];exact ⟨none,0,rfl,own_zero,K1⟩)
   | true =>
    have fb33:=hb33;clear hb33
    simp only [dd_] at fb33
    refine wp_cond_true (x:=cI6) (y:=Code.skip) (eval_slot h22) ?_
    refine wp_seq (x:=cI7) (y:=Code.ret) ?_
    change (Code.region 2 OI2 false).wp _ _ _ _
    refine reg_in (l:=[0,1]) rfl ?_
    have F:=fe_ R;clear R
    have Y:(execOp a36.eval oI2_0).run Try.prog w2=.ok (.enter 59 #[.string (⟨#[105,110,116,95,111,118,101,114,102,108,111,119]⟩)]) w2:=by unfold oI2_0;go_simp
    have hca:=fails_any (W:=w2) (s:=fOver) (by decide)
    have UKX_b1:=B1.lt
    have HWKX:W.heap.size ≤ w2.heap.size:=K1.size
    refine st_call gI2_0 rfl (wanted_free rfl) Y ((hca).mono ?_);clear Y
    rintro e9 w43 ⟨ax,cx,rfl,hx,kk⟩
    replace K1:=keep_onto K1 kk
    replace B1:=blk_on B1 kk
    clear kk
    clear hca
    have HX:=Lib.hid hx;clear hx
    have KX:=Keep.refl (fun g=>w2.heap.size ≤ g∧g < w43.heap.size) w43
    refine ⟨_,rfl,fun a44 e=>?_⟩
    have h23:=pt_ F e;replace F:=pu_ F e;clear e
    obtain ⟨w45,Y,hk,hB⟩:=ys6_ (o:=oI2_1) rfl (F.of h4) h23 B1
    replace K1:=kx_ hk K1 (Nat.not_lt.2 LK1_b1);replace KX:=kx_ hk KX (fun hx=>absurd hx.1 (Nat.not_le.2 UKX_b1));clear B1;have B1:=hB;clear hB hk
    refine st_skip gI2_1 rfl (wanted_free rfl) Y ?_;clear Y
    refine st_end ?_
    replace h0:=F.of h0;replace h1:=F.of h1;replace h4:=F.of h4;clear h22;clear h23;have R:=F.r;clear F
    change (Code.ret).wp _ _ _ _
    refine wp_ret ?_
    change bodyPost Try.prog Try.f44 (fun e w'=>WA (resW (big (a + b))) W e w') .ret a44 w45
    refine ret_cell6 (fn:=Try.f44) rfl R h4 B1 ?_
    exact (show WA (resW (big (a + b))) W _ _ by rw [big_not (z:=a + b) (by unfold inR;have ha:=HA.out;have hb:=HB.out;unfold inR at ha hb;try simp only [IntKind.wrap_i64] at *;omega),resW_o];exact ⟨ax,cx,rfl,(HX.out.on KX).up HWKX,K1⟩)
 | true =>
  have fb5:=hb5;clear hb5
  simp only [dd_] at fb5
  refine st_val gI1_3 rfl (wanted_is (j:=2) (d:=7) rfl rfl h7 rfl) (ym_ rfl (F.of h0)) fun a46 e=>?_
  have h8:=pt_ F e;replace F:=pu_ F e;replace h7:=so_ e h7;clear e
  refine st_val gI1_4 rfl (wanted_is (j:=2) (d:=7) rfl rfl h7 rfl) (ym_ rfl (F.of h1)) fun a47 e=>?_
  have h9:=pt_ F e;replace F:=pu_ F e;replace h7:=so_ e h7;replace h8:=so_ e h8;clear e
  have Y:(execOp a47.eval oI1_5).run Try.prog w2=.ok (.value (.int .i64 (IntKind.i64.wrap (9223372036854775807 - b)))) w2:=by unfold oI1_5;go_simp
  refine st_val gI1_5 rfl (wanted_is (j:=2) (d:=7) rfl rfl h7 rfl) Y fun a48 e=>?_;clear Y
  clear h9;have h10:=pt_ F e;replace F:=pu_ F e;replace h7:=so_ e h7;replace h8:=so_ e h8;clear e
  obtain ⟨b49,hb49⟩:∃ x,(decide ((IntKind.i64.wrap (9223372036854775807 - b):Int) < (a:Int)))=x:=⟨_,rfl⟩
  have Y:(execOp a48.eval oI1_6).run Try.prog w2=.ok (.value (.bool b49)) w2:=by rw [← hb49];unfold oI1_6;go_simp
  refine st_val gI1_6 rfl (wanted_is (j:=2) (d:=7) rfl rfl h7 rfl) Y fun a50 e=>?_;clear Y
  clear h8 h10;have h11:=pt_ F e;replace F:=pu_ F e;replace h7:=so_ e h7;clear e
  have Y:(execOp a50.eval oI1_7).run Try.prog w2=.ok (.value (.bool b49)) w2:=by unfold oI1_7;go_simp
  refine sw_ gI1_7 Y F fun a51 F h12=>?_;clear Y h7 h11
  refine sv_ gI1_8 (ym_ rfl h12) fun a52 e=>?_
  clear h12;have h13:=pt_ F e;replace F:=pu_ F e;clear e
  cases b49 with
  | false =>
   have fb49:=hb49;clear hb49
   simp only [dd_] at fb49
   refine st_val gI1_9 rfl (wanted_is (j:=8) (d:=13) rfl rfl h13 rfl) (ym_ rfl (F.of h1)) fun a53 e=>?_
   have h14:=pt_ F e;replace F:=pu_ F e;replace h13:=so_ e h13;clear e
   obtain ⟨b54,hb54⟩:∃ x,(decide ((b:Int) < (0:Int)))=x:=⟨_,rfl⟩
   have Y:(execOp a53.eval oI1_10).run Try.prog w2=.ok (.value (.bool b54)) w2:=by rw [← hb54];unfold oI1_10;go_simp
   refine st_val gI1_10 rfl (wanted_is (j:=8) (d:=13) rfl rfl h13 rfl) Y fun a55 e=>?_;clear Y
   clear h14;have h15:=pt_ F e;replace F:=pu_ F e;replace h13:=so_ e h13;clear e
   refine st_val gI1_11 rfl (wanted_is (j:=8) (d:=13) rfl rfl h13 rfl) (ym_ rfl h15) fun a56 e=>?_
   clear h15;have h16:=pt_ F e;replace F:=pu_ F e;replace h13:=so_ e h13;clear e
   cases b54 with
   | false =>
    have fb54:=hb54;clear hb54
    simp only [dd_] at fb54
    refine st_not gI1_12 rfl (wanted_is (j:=11) (d:=16) rfl rfl h16 rfl) fun a57 e=>?_
    have h17:=pt_ F e;replace F:=pu_ F e;replace h13:=so_ e h13;replace h16:=so_ e h16;clear e
    refine st_not gI1_13 rfl (wanted_is (j:=11) (d:=16) rfl rfl h16 rfl) fun a58 e=>?_
    have h18:=pt_ F e;replace F:=pu_ F e;replace h13:=so_ e h13;replace h16:=so_ e h16;replace h17:=so_ e h17;clear e
    refine st_not gI1_14 rfl (wanted_is (j:=11) (d:=16) rfl rfl h16 rfl) fun a59 e=>?_
    clear h18;have h19:=pt_ F e;replace F:=pu_ F e;replace h13:=so_ e h13;replace h16:=so_ e h16;replace h17:=so_ e h17;clear e
    refine st_not gI1_15 rfl (wanted_is (j:=11) (d:=16) rfl rfl h16 rfl) fun a60 e=>?_
    clear h17 h19;have h20:=pt_ F e;replace F:=pu_ F e;replace h13:=so_ e h13;replace h16:=so_ e h16;clear e
    have Y:(execOp a60.eval oI1_16).run Try.prog w2=.ok (.value (.bool false)) w2:=by unfold oI1_16;go_simp
    refine st_val gI1_16 rfl (wanted_is (j:=8) (d:=13) rfl rfl h13 rfl) Y fun a61 e=>?_;clear Y
    clear h16 h20;have h21:=pt_ F e;replace F:=pu_ F e;replace h13:=so_ e h13;clear e
    have Y:(execOp a61.eval oI1_17).run Try.prog w2=.ok (.value (.bool false)) w2:=by unfold oI1_17;go_simp
    refine sw_ gI1_17 Y F fun a62 F h22=>?_;clear Y h13 h21
    refine st_end ?_
    replace h0:=F.of h0;replace h1:=F.of h1;replace h4:=F.of h4;have R:=F.r;clear F
    change (cI5).wp _ _ _ _
    refine wp_cond_false (x:=cI6) (y:=Code.skip) (eval_slot h22) ?_
    refine wp_skip ?_
    change (cI10).wp _ _ _ _
    refine wp_seq (x:=cI11) (y:=Code.ret) ?_
    change (Code.region 3 OI3 false).wp _ _ _ _
    refine reg_in (l:=[0,1,2,3,4]) rfl ?_
    have F:=fe_ R;clear R
    refine sw_ gI3_0 (ym_ rfl (F.of h0)) F fun a63 F h24=>?_
    refine sv_ gI3_1 (ym_ rfl (F.of h1)) fun a64 e=>?_
    have h25:=pt_ F e;replace F:=pu_ F e;replace h24:=so_ e h24;clear e
    have Y:(execOp a64.eval oI3_2).run Try.prog w2=.ok (.value (.int .i64 (IntKind.i64.wrap (a + b)))) w2:=by unfold oI3_2;go_simp
    refine sw_ gI3_2 Y F fun a65 F h26=>?_;clear Y h24 h25
    refine st_call gI3_3 rfl (wanted_free rfl) (yc1_ enA44_31 rfl h26) ((of_any _ (IntKind.i64.wrap (a + b))).mono ?_)
    rintro e9 w66 ⟨rfl,kk⟩
    replace K1:=keep_onto K1 kk
    replace B1:=blk_on B1 kk
    clear kk
    refine ⟨_,rfl,fun a67 e=>?_⟩
    clear h26;have h27:=pt_ F e;replace F:=pu_ F e;clear e
    obtain ⟨w68,Y,hk,hB⟩:=ys6_ (o:=oI3_4) rfl (F.of h4) h27 B1
    replace K1:=kx_ hk K1 (Nat.not_lt.2 LK1_b1);clear B1;have B1:=hB;clear hB hk
    refine st_skip gI3_4 rfl (wanted_free rfl) Y ?_;clear Y
    refine st_end ?_
    clear h0;clear h1;replace h4:=F.of h4;clear h22;clear h27;have R:=F.r;clear F
    change (Code.ret).wp _ _ _ _
    refine wp_ret ?_
    change bodyPost Try.prog Try.f44 (fun e w'=>WA (resW (big (a + b))) W e w') .ret a67 w68
    refine ret_cell6 (fn:=Try.f44) rfl R h4 B1 ?_
    exact (show WA (resW (big (a + b))) W _ _ by rw [big_is (z:=a + b) (v:=IntKind.i64.wrap (a + b)) (by have ha:=HA.out;have hb:=HB.out;unfold inR at ha hb;try simp only [IntKind.wrap_i64] at *;omega) (by unfold inR;have ha:=HA.out;have hb:=HB.out;unfold inR at ha hb;try simp only [IntKind.wrap_i64] at *;omega),resW_n];exact ⟨none,0,rfl,own_zero,K1⟩)
   | true =>
    have fb54:=hb54;clear hb54
    simp only [dd_] at fb54
    refine st_val gI1_12 rfl (wanted_is (j:=11) (d:=16) rfl rfl h16 rfl) (ym_ rfl (F.of h0)) fun a69 e=>?_
    have h17:=pt_ F e;replace F:=pu_ F e;replace h13:=so_ e h13;replace h16:=so_ e h16;clear e
    refine st_val gI1_13 rfl (wanted_is (j:=11) (d:=16) rfl rfl h16 rfl) (ym_ rfl (F.of h1)) fun a70 e=>?_
    have h18:=pt_ F e;replace F:=pu_ F e;replace h13:=so_ e h13;replace h16:=so_ e h16;replace h17:=so_ e h17;clear e
    have Y:(execOp a70.eval oI1_14).run Try.prog w2=.ok (.value (.int .i64 (IntKind.i64.wrap ((-9223372036854775808) - b)))) w2:=by unfold oI1_14;go_simp
    refine st_val gI1_14 rfl (wanted_is (j:=11) (d:=16) rfl rfl h16 rfl) Y fun a71 e=>?_;clear Y
    clear h18;have h19:=pt_ F e;replace F:=pu_ F e;replace h13:=so_ e h13;replace h16:=so_ e h16;replace h17:=so_ e h17;clear e
    obtain ⟨b72,hb72⟩:∃ x,(decide ((a:Int) < (IntKind.i64.wrap ((-9223372036854775808) - b):Int)))=x:=⟨_,rfl⟩
    have Y:(execOp a71.eval oI1_15).run Try.prog w2=.ok (.value (.bool b72)) w2:=by rw [← hb72];unfold oI1_15;go_simp
    refine st_val gI1_15 rfl (wanted_is (j:=11) (d:=16) rfl rfl h16 rfl) Y fun a73 e=>?_;clear Y
    clear h17 h19;have h20:=pt_ F e;replace F:=pu_ F e;replace h13:=so_ e h13;replace h16:=so_ e h16;clear e
    have Y:(execOp a73.eval oI1_16).run Try.prog w2=.ok (.value (.bool b72)) w2:=by unfold oI1_16;go_simp
    refine st_val gI1_16 rfl (wanted_is (j:=8) (d:=13) rfl rfl h13 rfl) Y fun a74 e=>?_;clear Y
    clear h16 h20;have h21:=pt_ F e;replace F:=pu_ F e;replace h13:=so_ e h13;clear e
    have Y:(execOp a74.eval oI1_17).run Try.prog w2=.ok (.value (.bool b72)) w2:=by unfold oI1_17;go_simp
    refine sw_ gI1_17 Y F fun a75 F h22=>?_;clear Y h13 h21
    refine st_end ?_
    replace h0:=F.of h0;replace h1:=F.of h1;replace h4:=F.of h4;have R:=F.r;clear F
    change (cI5).wp _ _ _ _
    cases b72 with
    | false =>
     have fb72:=hb72;clear hb72
     simp only [dd_] at fb72
     refine wp_cond_false (x:=cI6) (y:=Code.skip) (eval_slot h22) ?_
     refine wp_skip ?_
     change (cI10).wp _ _ _ _
     refine wp_seq (x:=cI11) (y:=Code.ret) ?_
     change (Code.region 3 OI3 false).wp _ _ _ _
     refine reg_in (l:=[0,1,2,3,4]) rfl ?_
     have F:=fe_ R;clear R
     refine sw_ gI3_0 (ym_ rfl (F.of h0)) F fun a76 F h24=>?_
     refine sv_ gI3_1 (ym_ rfl (F.of h1)) fun a77 e=>?_
     have h25:=pt_ F e;replace F:=pu_ F e;replace h24:=so_ e h24;clear e
     have Y:(execOp a77.eval oI3_2).run Try.prog w2=.ok (.value (.int .i64 (IntKind.i64.wrap (a + b)))) w2:=by unfold oI3_2;go_simp
     refine sw_ gI3_2 Y F fun a78 F h26=>?_;clear Y h24 h25
     refine st_call gI3_3 rfl (wanted_free rfl) (yc1_ enA44_31 rfl h26) ((of_any _ (IntKind.i64.wrap (a + b))).mono ?_)
     rintro e9 w79 ⟨rfl,kk⟩
     replace K1:=keep_onto K1 kk
     replace B1:=blk_on B1 kk
     clear kk
     refine ⟨_,rfl,fun a80 e=>?_⟩
     clear h26;have h27:=pt_ F e;replace F:=pu_ F e;clear e
     obtain ⟨w81,Y,hk,hB⟩:=ys6_ (o:=oI3_4) rfl (F.of h4) h27 B1
     replace K1:=kx_ hk K1 (Nat.not_lt.2 LK1_b1);clear B1;have B1:=hB;clear hB hk
     refine st_skip gI3_4 rfl (wanted_free rfl) Y ?_;clear Y
     refine st_end ?_
     clear h0;clear h1;replace h4:=F.of h4;clear h22;clear h27;have R:=F.r;clear F
     change (Code.ret).wp _ _ _ _
     refine wp_ret ?_
     change bodyPost Try.prog Try.f44 (fun e w'=>WA (resW (big (a + b))) W e w') .ret a80 w81
     refine ret_cell6 (fn:=Try.f44) rfl R h4 B1 ?_
     exact (show WA (resW (big (a + b))) W _ _ by rw [big_is (z:=a + b) (v:=IntKind.i64.wrap (a + b)) (by have ha:=HA.out;have hb:=HB.out;unfold inR at ha hb;try simp only [IntKind.wrap_i64] at *;omega) (by unfold inR;have ha:=HA.out;have hb:=HB.out;unfold inR at ha hb;try simp only [IntKind.wrap_i64] at *;omega),resW_n];exact ⟨none,0,rfl,own_zero,K1⟩)
    | true =>
     have fb72:=hb72;clear hb72
     simp only [dd_] at fb72
     refine wp_cond_true (x:=cI6) (y:=Code.skip) (eval_slot h22) ?_
     refine wp_seq (x:=cI7) (y:=Code.ret) ?_
     change (Code.region 2 OI2 false).wp _ _ _ _
     refine reg_in (l:=[0,1]) rfl ?_
     have F:=fe_ R;clear R
     have Y:(execOp a75.eval oI2_0).run Try.prog w2=.ok (.enter 59 #[.string (⟨#[105,110,116,95,111,118,101,114,102,108,111,119]⟩)]) w2:=by unfold oI2_0;go_simp
     have hca:=fails_any (W:=w2) (s:=fOver) (by decide)
     have UKX_b1:=B1.lt
     have HWKX:W.heap.size ≤ w2.heap.size:=K1.size
     refine st_call gI2_0 rfl (wanted_free rfl) Y ((hca).mono ?_);clear Y
     rintro e9 w82 ⟨ax,cx,rfl,hx,kk⟩
     replace K1:=keep_onto K1 kk
     replace B1:=blk_on B1 kk
     clear kk
     clear hca
     have HX:=Lib.hid hx;clear hx
     have KX:=Keep.refl (fun g=>w2.heap.size ≤ g∧g < w82.heap.size) w82
     refine ⟨_,rfl,fun a83 e=>?_⟩
     have h23:=pt_ F e;replace F:=pu_ F e;clear e
     obtain ⟨w84,Y,hk,hB⟩:=ys6_ (o:=oI2_1) rfl (F.of h4) h23 B1
     replace K1:=kx_ hk K1 (Nat.not_lt.2 LK1_b1);replace KX:=kx_ hk KX (fun hx=>absurd hx.1 (Nat.not_le.2 UKX_b1));clear B1;have B1:=hB;clear hB hk
     refine st_skip gI2_1 rfl (wanted_free rfl) Y ?_;clear Y
     refine st_end ?_
     replace h0:=F.of h0;replace h1:=F.of h1;replace h4:=F.of h4;clear h22;clear h23;have R:=F.r;clear F
     change (Code.ret).wp _ _ _ _
     refine wp_ret ?_
     change bodyPost Try.prog Try.f44 (fun e w'=>WA (resW (big (a + b))) W e w') .ret a83 w84
     refine ret_cell6 (fn:=Try.f44) rfl R h4 B1 ?_
     exact (show WA (resW (big (a + b))) W _ _ by rw [big_not (z:=a + b) (by unfold inR;have ha:=HA.out;have hb:=HB.out;unfold inR at ha hb;try simp only [IntKind.wrap_i64] at *;omega),resW_o];exact ⟨ax,cx,rfl,(HX.out.on KX).up HWKX,K1⟩)
  | true =>
   have fb49:=hb49;clear hb49
   simp only [dd_] at fb49
   refine st_not gI1_9 rfl (wanted_is (j:=8) (d:=13) rfl rfl h13 rfl) fun a85 e=>?_
   have h14:=pt_ F e;replace F:=pu_ F e;replace h13:=so_ e h13;clear e
   refine st_not gI1_10 rfl (wanted_is (j:=8) (d:=13) rfl rfl h13 rfl) fun a86 e=>?_
   clear h14;have h15:=pt_ F e;replace F:=pu_ F e;replace h13:=so_ e h13;clear e
   refine st_not gI1_11 rfl (wanted_is (j:=8) (d:=13) rfl rfl h13 rfl) fun a87 e=>?_
   clear h15;have h16:=pt_ F e;replace F:=pu_ F e;replace h13:=so_ e h13;clear e
   refine st_not gI1_12 rfl (wanted_un (j:=11) (d:=16) rfl rfl h16) fun a88 e=>?_
   have h17:=pt_ F e;replace F:=pu_ F e;replace h13:=so_ e h13;replace h16:=so_ e h16;clear e
   refine st_not gI1_13 rfl (wanted_un (j:=11) (d:=16) rfl rfl h16) fun a89 e=>?_
   have h18:=pt_ F e;replace F:=pu_ F e;replace h13:=so_ e h13;replace h16:=so_ e h16;replace h17:=so_ e h17;clear e
   refine st_not gI1_14 rfl (wanted_un (j:=11) (d:=16) rfl rfl h16) fun a90 e=>?_
   clear h18;have h19:=pt_ F e;replace F:=pu_ F e;replace h13:=so_ e h13;replace h16:=so_ e h16;replace h17:=so_ e h17;clear e
   refine st_not gI1_15 rfl (wanted_un (j:=11) (d:=16) rfl rfl h16) fun a91 e=>?_
   clear h17 h19;have h20:=pt_ F e;replace F:=pu_ F e;replace h13:=so_ e h13;replace h16:=so_ e h16;clear e
   refine st_not gI1_16 rfl (wanted_is (j:=8) (d:=13) rfl rfl h13 rfl) fun a92 e=>?_
   clear h16 h20;have h21:=pt_ F e;replace F:=pu_ F e;replace h13:=so_ e h13;clear e
   have Y:(execOp a92.eval oI1_17).run Try.prog w2=.ok (.value (.bool true)) w2:=by unfold oI1_17;go_simp
   refine sw_ gI1_17 Y F fun a93 F h22=>?_;clear Y h13 h21
   refine st_end ?_
   replace h0:=F.of h0;replace h1:=F.of h1;replace h4:=F.of h4;have R:=F.r;clear F
   change (cI5).wp _ _ _ _
   refine wp_cond_true (x:=cI6) (y:=Code.skip) (eval_slot h22) ?_
   refine wp_seq (x:=cI7) (y:=Code.ret) ?_
   change (Code.region 2 OI2 false).wp _ _ _ _
   refine reg_in (l:=[0,1]) rfl ?_
   have F:=fe_ R;clear R
   have Y:(execOp a93.eval oI2_0).run Try.prog w2=.ok (.enter 59 #[.string (⟨#[105,110,116,95,111,118,101,114,102,108,111,119]⟩)]) w2:=by unfold oI2_0;go_simp
   have hca:=fails_any (W:=w2) (s:=fOver) (by decide)
   have UKX_b1:=B1.lt
   have HWKX:W.heap.size ≤ w2.heap.size:=K1.size
   refine st_call gI2_0 rfl (wanted_free rfl) Y ((hca).mono ?_);clear Y
   rintro e9 w94 ⟨ax,cx,rfl,hx,kk⟩
   replace K1:=keep_onto K1 kk
   replace B1:=blk_on B1 kk
   clear kk
   clear hca
   have HX:=Lib.hid hx;clear hx
   have KX:=Keep.refl (fun g=>w2.heap.size ≤ g∧g < w94.heap.size) w94
   refine ⟨_,rfl,fun a95 e=>?_⟩
   have h23:=pt_ F e;replace F:=pu_ F e;clear e
   obtain ⟨w96,Y,hk,hB⟩:=ys6_ (o:=oI2_1) rfl (F.of h4) h23 B1
   replace K1:=kx_ hk K1 (Nat.not_lt.2 LK1_b1);replace KX:=kx_ hk KX (fun hx=>absurd hx.1 (Nat.not_le.2 UKX_b1));clear B1;have B1:=hB;clear hB hk
   refine st_skip gI2_1 rfl (wanted_free rfl) Y ?_;clear Y
   refine st_end ?_
   replace h0:=F.of h0;replace h1:=F.of h1;replace h4:=F.of h4;clear h22;clear h23;have R:=F.r;clear F
   change (Code.ret).wp _ _ _ _
   refine wp_ret ?_
   change bodyPost Try.prog Try.f44 (fun e w'=>WA (resW (big (a + b))) W e w') .ret a95 w96
   refine ret_cell6 (fn:=Try.f44) rfl R h4 B1 ?_
   exact (show WA (resW (big (a + b))) W _ _ by rw [big_not (z:=a + b) (by unfold inR;have ha:=HA.out;have hb:=HB.out;unfold inR at ha hb;try simp only [IntKind.wrap_i64] at *;omega),resW_o];exact ⟨ax,cx,rfl,(HX.out.on KX).up HWKX,K1⟩)
theorem radd_any (W:World) {a b:Int} (ha:inR a) (hb:inR b):Calls Try.prog 44 #[.int .i64 a,.int .i64 b] W fun e w'=>WA (resW (big (a + b))) W e w':=by
  refine enter_sx Try.func44 bodyA44 rfl (by show (2:Nat) ≤ 28;decide) fun f0 R hs=>?_
  exact radd_w R (hs 0 _ rfl) (hs 1 _ rfl) (Keep.refl _ W) (Lib.hid ha) (Lib.hid hb)
def oJ0_0:Oper:=⟨some 4,Op.alloc 30,0, "ref.go:90",#[],none⟩
def OJ0:Array Oper:=List.toArray (oJ0_0::[])
theorem gJ0_0:OJ0[0]? = some oJ0_0:=rfl
def cJ1:Code:=Code.region 0 OJ0 false
def oJ1_0:Oper:=⟨some 5,Op.move (Operand.tmp 1),2, "ref.go:91",#[],none⟩
def oJ1_1:Oper:=⟨some 6,Op.binOp Go.BinOp.gtr 2 (Operand.tmp 5) (Operand.const (Value.int IntKind.i64 0)) 2,4, "ref.go:91",#[ed_ 0],none⟩
def oJ1_2:Oper:=⟨some 7,Op.move (Operand.tmp 6),4, "ref.go:91",#[ed_ 1],none⟩
def oJ1_3:Oper:=⟨some 8,Op.move (Operand.tmp 0),2, "ref.go:91",#[eg_ 2],some (2,true)⟩
def oJ1_4:Oper:=⟨some 9,Op.move (Operand.tmp 1),2, "ref.go:91",#[eg_ 2],some (2,true)⟩
def oJ1_5:Oper:=⟨some 10,Op.binOp Go.BinOp.add 2 (Operand.const (Value.int IntKind.i64 (-9223372036854775808))) (Operand.tmp 9) 2,2, "ref.go:91",#[ed_ 4,eg_ 2],some (2,true)⟩
def oJ1_6:Oper:=⟨some 11,Op.binOp Go.BinOp.lss 2 (Operand.tmp 8) (Operand.tmp 10) 2,4, "ref.go:91",#[ed_ 3,ed_ 5,eg_ 2],some (2,true)⟩
def oJ1_7:Oper:=⟨some 12,Op.pick (Operand.tmp 7) (Operand.tmp 11) (Operand.const (Value.bool false)),4, "ref.go:91",#[ed_ 2,ed_ 6],none⟩
def oJ1_8:Oper:=⟨some 13,Op.move (Operand.tmp 12),4, "ref.go:91",#[ed_ 7,ec_ 2],none⟩
def oJ1_9:Oper:=⟨some 14,Op.move (Operand.tmp 1),2, "ref.go:91",#[eg_ 8],some (8,false)⟩
def oJ1_10:Oper:=⟨some 15,Op.binOp Go.BinOp.lss 2 (Operand.tmp 14) (Operand.const (Value.int IntKind.i64 0)) 2,4, "ref.go:91",#[ed_ 9,eg_ 8],some (8,false)⟩
def oJ1_11:Oper:=⟨some 16,Op.move (Operand.tmp 15),4, "ref.go:91",#[ed_ 10,ec_ 8,eg_ 8],some (8,false)⟩
def oJ1_12:Oper:=⟨some 17,Op.move (Operand.tmp 0),2, "ref.go:91",#[eg_ 11],some (11,true)⟩
def oJ1_13:Oper:=⟨some 18,Op.move (Operand.tmp 1),2, "ref.go:91",#[eg_ 11],some (11,true)⟩
def oJ1_14:Oper:=⟨some 19,Op.binOp Go.BinOp.add 2 (Operand.const (Value.int IntKind.i64 9223372036854775807)) (Operand.tmp 18) 2,2, "ref.go:91",#[ed_ 13,eg_ 11],some (11,true)⟩
def oJ1_15:Oper:=⟨some 20,Op.binOp Go.BinOp.gtr 2 (Operand.tmp 17) (Operand.tmp 19) 2,4, "ref.go:91",#[ed_ 12,ed_ 14,eg_ 11],some (11,true)⟩
def oJ1_16:Oper:=⟨some 21,Op.pick (Operand.tmp 16) (Operand.tmp 20) (Operand.const (Value.bool false)),4, "ref.go:91",#[ed_ 11,ed_ 15,eg_ 8],some (8,false)⟩
def oJ1_17:Oper:=⟨some 22,Op.pick (Operand.tmp 13) (Operand.const (Value.bool true)) (Operand.tmp 21),4, "ref.go:91",#[ed_ 8,ed_ 16],none⟩
def OJ1:Array Oper:=List.toArray (oJ1_0::oJ1_1::oJ1_2::oJ1_3::oJ1_4::oJ1_5::oJ1_6::oJ1_7::oJ1_8::oJ1_9::oJ1_10::oJ1_11::oJ1_12::oJ1_13::oJ1_14::oJ1_15::oJ1_16::oJ1_17::[])
theorem gJ1_0:OJ1[0]? = some oJ1_0:=rfl
theorem gJ1_1:OJ1[1]? = some oJ1_1:=rfl
theorem gJ1_2:OJ1[2]? = some oJ1_2:=rfl
theorem gJ1_3:OJ1[3]? = some oJ1_3:=rfl
theorem gJ1_4:OJ1[4]? = some oJ1_4:=rfl
theorem gJ1_5:OJ1[5]? = some oJ1_5:=rfl
theorem gJ1_6:OJ1[6]? = some oJ1_6:=rfl
theorem gJ1_7:OJ1[7]? = some oJ1_7:=rfl
theorem gJ1_8:OJ1[8]? = some oJ1_8:=rfl
theorem gJ1_9:OJ1[9]? = some oJ1_9:=rfl
theorem gJ1_10:OJ1[10]? = some oJ1_10:=rfl
theorem gJ1_11:OJ1[11]? = some oJ1_11:=rfl
theorem gJ1_12:OJ1[12]? = some oJ1_12:=rfl
theorem gJ1_13:OJ1[13]? = some oJ1_13:=rfl
theorem gJ1_14:OJ1[14]? = some oJ1_14:=rfl
theorem gJ1_15:OJ1[15]? = some oJ1_15:=rfl
theorem gJ1_16:OJ1[16]? = some oJ1_16:=rfl
theorem gJ1_17:OJ1[17]? = some oJ1_17:=rfl
def cJ4:Code:=Code.region 1 OJ1 false
def oJ2_0:Oper:=⟨some 23,Op.call { callee:=Callee.value (Operand.func 59),args:=#[Operand.const (Value.string { data:=#[105,110,116,95,111,118,101,114,102,108,111,119] })],argTypes:=#[9] },30, "ref.go:92",#[],none⟩
def oJ2_1:Oper:=⟨none,Op.store 30 (Operand.tmp 4) (Operand.tmp 23),0, "ref.go:92",#[ed_ 0,ec_ 0,ep_ 0],none⟩
def OJ2:Array Oper:=List.toArray (oJ2_0::oJ2_1::[])
theorem gJ2_0:OJ2[0]? = some oJ2_0:=rfl
theorem gJ2_1:OJ2[1]? = some oJ2_1:=rfl
def cJ7:Code:=Code.region 2 OJ2 false
def cJ6:Code:=Code.seq cJ7 Code.ret
def cJ5:Code:=Code.cond (Operand.tmp 22) cJ6 Code.skip
def cJ3:Code:=Code.seq cJ4 cJ5
def oJ3_0:Oper:=⟨some 24,Op.move (Operand.tmp 0),2, "ref.go:94",#[],none⟩
def oJ3_1:Oper:=⟨some 25,Op.move (Operand.tmp 1),2, "ref.go:94",#[],none⟩
def oJ3_2:Oper:=⟨some 26,Op.binOp Go.BinOp.sub 2 (Operand.tmp 24) (Operand.tmp 25) 2,2, "ref.go:94",#[ed_ 0,ed_ 1],none⟩
def oJ3_3:Oper:=⟨some 27,Op.call { callee:=Callee.value (Operand.func 31),args:=#[Operand.tmp 26],argTypes:=#[2] },30, "ref.go:94",#[ed_ 2],none⟩
def oJ3_4:Oper:=⟨none,Op.store 30 (Operand.tmp 4) (Operand.tmp 27),0, "ref.go:94",#[ed_ 3,ec_ 3,ep_ 0,ep_ 1,ep_ 2,ep_ 3],none⟩
def OJ3:Array Oper:=List.toArray (oJ3_0::oJ3_1::oJ3_2::oJ3_3::oJ3_4::[])
theorem gJ3_0:OJ3[0]? = some oJ3_0:=rfl
theorem gJ3_1:OJ3[1]? = some oJ3_1:=rfl
theorem gJ3_2:OJ3[2]? = some oJ3_2:=rfl
theorem gJ3_3:OJ3[3]? = some oJ3_3:=rfl
theorem gJ3_4:OJ3[4]? = some oJ3_4:=rfl
def cJ11:Code:=Code.region 3 OJ3 false
def cJ10:Code:=Code.seq cJ11 Code.ret
def cJ2:Code:=Code.seq cJ3 cJ10
def cJ0:Code:=Code.seq cJ1 cJ2
theorem enA43_31:Enters Try.prog 31:=enters_of Try.func31 (by kernel_rfl) rfl
theorem bodyA43:Try.f43.body=some cJ0:=by kernel_rfl
set_option maxRecDepth 100000 in
set_option maxHeartbeats 4000000 in
theorem rsub_w {W:World} {a b:Int} {f0:Act} {w0:World} (R:FrS 28 f0) (h0:f0.tmps[0]? = some (.int .i64 a)) (h1:f0.tmps[1]? = some (.int .i64 b)) (K1:Keep (fun g=>g < W.heap.size) W w0)  (HA:Hid (inR a)) (HB:Hid (inR b)):cJ0.wp Try.prog (bodyPost Try.prog Try.f43 (fun e w'=>WA (resW (big (a - b))) W e w')) f0 w0:=by
 refine wp_seq (x:=cJ1) (y:=cJ2) ?_
 change (Code.region 0 OJ0 false).wp _ _ _ _
 refine reg_in (l:=[0]) rfl ?_
 have F:=fe_ R;clear R
 have Y:(execOp f0.eval oJ0_0).run Try.prog w0=.ok (.value (.pointer (some ⟨w0.heap.size,0,none⟩))) (w0.alloc (.cells #[.int .i64 0,.int .i64 0,.string (⟨#[]⟩),.int .i64 0,.slice none 0 0,.bool false] 30)):=by unfold oJ0_0;go_simp
 have B1:=Blk.new w0 30 #[.int .i64 0,.int .i64 0,.string (⟨#[]⟩),.int .i64 0,.slice none 0 0,.bool false]
 obtain ⟨w2,hw⟩:∃ x,x=w0.alloc (.cells #[.int .i64 0,.int .i64 0,.string (⟨#[]⟩),.int .i64 0,.slice none 0 0,.bool false] 30):=⟨_,rfl⟩;rw [← hw] at Y B1
 obtain ⟨b1,hb⟩:∃ x,x=w0.heap.size:=⟨_,rfl⟩;rw [← hb] at Y B1
 have LK1_b1:=lk_ hb K1;replace K1:=ka_ hw K1;clear hw hb
 refine sw_ gJ0_0 Y F fun a3 F h4=>?_;clear Y
 refine st_end ?_
 replace h0:=F.of h0;replace h1:=F.of h1;have R:=F.r;clear F
 change (cJ2).wp _ _ _ _
 refine wp_seq (x:=cJ3) (y:=cJ10) ?_
 refine wp_seq (x:=cJ4) (y:=cJ5) ?_
 change (Code.region 1 OJ1 false).wp _ _ _ _
 refine reg_in (l:=[0,1,2,3,4,5,6,7,8,9,10,11,12,13,14,15,16,17]) rfl ?_
 have F:=fe_ R;clear R
 refine sw_ gJ1_0 (ym_ rfl (F.of h1)) F fun a4 F h5=>?_
 obtain ⟨b5,hb5⟩:∃ x,(decide ((0:Int) < (b:Int)))=x:=⟨_,rfl⟩
 have Y:(execOp a4.eval oJ1_1).run Try.prog w2=.ok (.value (.bool b5)) w2:=by rw [← hb5];unfold oJ1_1;go_simp
 refine sw_ gJ1_1 Y F fun a6 F h6=>?_;clear Y h5
 refine sv_ gJ1_2 (ym_ rfl h6) fun a7 e=>?_
 clear h6;have h7:=pt_ F e;replace F:=pu_ F e;clear e
 cases b5 with
 | false =>
  have fb5:=hb5;clear hb5
  simp only [dd_] at fb5
  refine st_not gJ1_3 rfl (wanted_is (j:=2) (d:=7) rfl rfl h7 rfl) fun a8 e=>?_
  have h8:=pt_ F e;replace F:=pu_ F e;replace h7:=so_ e h7;clear e
  refine st_not gJ1_4 rfl (wanted_is (j:=2) (d:=7) rfl rfl h7 rfl) fun a9 e=>?_
  have h9:=pt_ F e;replace F:=pu_ F e;replace h7:=so_ e h7;replace h8:=so_ e h8;clear e
  refine st_not gJ1_5 rfl (wanted_is (j:=2) (d:=7) rfl rfl h7 rfl) fun a10 e=>?_
  clear h9;have h10:=pt_ F e;replace F:=pu_ F e;replace h7:=so_ e h7;replace h8:=so_ e h8;clear e
  refine st_not gJ1_6 rfl (wanted_is (j:=2) (d:=7) rfl rfl h7 rfl) fun a11 e=>?_
  clear h8 h10;have h11:=pt_ F e;replace F:=pu_ F e;replace h7:=so_ e h7;clear e
  have Y:(execOp a11.eval oJ1_7).run Try.prog w2=.ok (.value (.bool false)) w2:=by unfold oJ1_7;go_simp
  refine sw_ gJ1_7 Y F fun a12 F h12=>?_;clear Y h7 h11
  refine sv_ gJ1_8 (ym_ rfl h12) fun a13 e=>?_
  clear h12;have h13:=pt_ F e;replace F:=pu_ F e;clear e
  refine st_val gJ1_9 rfl (wanted_is (j:=8) (d:=13) rfl rfl h13 rfl) (ym_ rfl (F.of h1)) fun a14 e=>?_
  have h14:=pt_ F e;replace F:=pu_ F e;replace h13:=so_ e h13;clear e
  obtain ⟨b15,hb15⟩:∃ x,(decide ((b:Int) < (0:Int)))=x:=⟨_,rfl⟩
  have Y:(execOp a14.eval oJ1_10).run Try.prog w2=.ok (.value (.bool b15)) w2:=by rw [← hb15];unfold oJ1_10;go_simp
  refine st_val gJ1_10 rfl (wanted_is (j:=8) (d:=13) rfl rfl h13 rfl) Y fun a16 e=>?_;clear Y
  clear h14;have h15:=pt_ F e;replace F:=pu_ F e;replace h13:=so_ e h13;clear e
  refine st_val gJ1_11 rfl (wanted_is (j:=8) (d:=13) rfl rfl h13 rfl) (ym_ rfl h15) fun a17 e=>?_
  clear h15;have h16:=pt_ F e;replace F:=pu_ F e;replace h13:=so_ e h13;clear e
  cases b15 with
  | false =>
   have fb15:=hb15;clear hb15
   simp only [dd_] at fb15
   refine st_not gJ1_12 rfl (wanted_is (j:=11) (d:=16) rfl rfl h16 rfl) fun a18 e=>?_
   have h17:=pt_ F e;replace F:=pu_ F e;replace h13:=so_ e h13;replace h16:=so_ e h16;clear e
   refine st_not gJ1_13 rfl (wanted_is (j:=11) (d:=16) rfl rfl h16 rfl) fun a19 e=>?_
   have h18:=pt_ F e;replace F:=pu_ F e;replace h13:=so_ e h13;replace h16:=so_ e h16;replace h17:=so_ e h17;clear e
   refine st_not gJ1_14 rfl (wanted_is (j:=11) (d:=16) rfl rfl h16 rfl) fun a20 e=>?_
   clear h18;have h19:=pt_ F e;replace F:=pu_ F e;replace h13:=so_ e h13;replace h16:=so_ e h16;replace h17:=so_ e h17;clear e
   refine st_not gJ1_15 rfl (wanted_is (j:=11) (d:=16) rfl rfl h16 rfl) fun a21 e=>?_
   clear h17 h19;have h20:=pt_ F e;replace F:=pu_ F e;replace h13:=so_ e h13;replace h16:=so_ e h16;clear e
   have Y:(execOp a21.eval oJ1_16).run Try.prog w2=.ok (.value (.bool false)) w2:=by unfold oJ1_16;go_simp
   refine st_val gJ1_16 rfl (wanted_is (j:=8) (d:=13) rfl rfl h13 rfl) Y fun a22 e=>?_;clear Y
   clear h16 h20;have h21:=pt_ F e;replace F:=pu_ F e;replace h13:=so_ e h13;clear e
   have Y:(execOp a22.eval oJ1_17).run Try.prog w2=.ok (.value (.bool false)) w2:=by unfold oJ1_17;go_simp
   refine sw_ gJ1_17 Y F fun a23 F h22=>?_;clear Y h13 h21
   refine st_end ?_
   replace h0:=F.of h0;replace h1:=F.of h1;replace h4:=F.of h4;have R:=F.r;clear F
   change (cJ5).wp _ _ _ _
   refine wp_cond_false (x:=cJ6) (y:=Code.skip) (eval_slot h22) ?_
   refine wp_skip ?_
   change (cJ10).wp _ _ _ _
   refine wp_seq (x:=cJ11) (y:=Code.ret) ?_
   change (Code.region 3 OJ3 false).wp _ _ _ _
   refine reg_in (l:=[0,1,2,3,4]) rfl ?_
   have F:=fe_ R;clear R
   refine sw_ gJ3_0 (ym_ rfl (F.of h0)) F fun a24 F h24=>?_
   refine sv_ gJ3_1 (ym_ rfl (F.of h1)) fun a25 e=>?_
   have h25:=pt_ F e;replace F:=pu_ F e;replace h24:=so_ e h24;clear e
   have Y:(execOp a25.eval oJ3_2).run Try.prog w2=.ok (.value (.int .i64 (IntKind.i64.wrap (a - b)))) w2:=by unfold oJ3_2;go_simp
   refine sw_ gJ3_2 Y F fun a26 F h26=>?_;clear Y h24 h25
   refine st_call gJ3_3 rfl (wanted_free rfl) (yc1_ enA43_31 rfl h26) ((of_any _ (IntKind.i64.wrap (a - b))).mono ?_)
   rintro e9 w27 ⟨rfl,kk⟩
   replace K1:=keep_onto K1 kk
   replace B1:=blk_on B1 kk
   clear kk
   refine ⟨_,rfl,fun a28 e=>?_⟩
   clear h26;have h27:=pt_ F e;replace F:=pu_ F e;clear e
   obtain ⟨w29,Y,hk,hB⟩:=ys6_ (o:=oJ3_4) rfl (F.of h4) h27 B1
   replace K1:=kx_ hk K1 (Nat.not_lt.2 LK1_b1);clear B1;have B1:=hB;clear hB hk
   refine st_skip gJ3_4 rfl (wanted_free rfl) Y ?_;clear Y
   refine st_end ?_
   clear h0;clear h1;replace h4:=F.of h4;clear h22;clear h27;have R:=F.r;clear F
   change (Code.ret).wp _ _ _ _
   refine wp_ret ?_
   change bodyPost Try.prog Try.f43 (fun e w'=>WA (resW (big (a - b))) W e w') .ret a28 w29
   refine ret_cell6 (fn:=Try.f43) rfl R h4 B1 ?_
   exact (show WA (resW (big (a - b))) W _ _ by rw [big_is (z:=a - b) (v:=IntKind.i64.wrap (a - b)) (by have ha:=HA.out;have hb:=HB.out;unfold inR at ha hb;try simp only [IntKind.wrap_i64] at *;omega) (by unfold inR;have ha:=HA.out;have hb:=HB.out;unfold inR at ha hb;try simp only [IntKind.wrap_i64] at *;omega),resW_n];exact ⟨none,0,rfl,own_zero,K1⟩)
  | true =>
   have fb15:=hb15;clear hb15
   simp only [dd_] at fb15
   refine st_val gJ1_12 rfl (wanted_is (j:=11) (d:=16) rfl rfl h16 rfl) (ym_ rfl (F.of h0)) fun a30 e=>?_
   have h17:=pt_ F e;replace F:=pu_ F e;replace h13:=so_ e h13;replace h16:=so_ e h16;clear e
   refine st_val gJ1_13 rfl (wanted_is (j:=11) (d:=16) rfl rfl h16 rfl) (ym_ rfl (F.of h1)) fun a31 e=>?_
   have h18:=pt_ F e;replace F:=pu_ F e;replace h13:=so_ e h13;replace h16:=so_ e h16;replace h17:=so_ e h17;clear e
   have Y:(execOp a31.eval oJ1_14).run Try.prog w2=.ok (.value (.int .i64 (IntKind.i64.wrap (9223372036854775807 + b)))) w2:=by unfold oJ1_14;go_simp
   refine st_val gJ1_14 rfl (wanted_is (j:=11) (d:=16) rfl rfl h16 rfl) Y fun a32 e=>?_;clear Y
   clear h18;have h19:=pt_ F e;replace F:=pu_ F e;replace h13:=so_ e h13;replace h16:=so_ e h16;replace h17:=so_ e h17;clear e
   obtain ⟨b33,hb33⟩:∃ x,(decide ((IntKind.i64.wrap (9223372036854775807 + b):Int) < (a:Int)))=x:=⟨_,rfl⟩
   have Y:(execOp a32.eval oJ1_15).run Try.prog w2=.ok (.value (.bool b33)) w2:=by rw [← hb33];unfold oJ1_15;go_simp
   refine st_val gJ1_15 rfl (wanted_is (j:=11) (d:=16) rfl rfl h16 rfl) Y fun a34 e=>?_;clear Y
   clear h17 h19;have h20:=pt_ F e;replace F:=pu_ F e;replace h13:=so_ e h13;replace h16:=so_ e h16;clear e
   have Y:(execOp a34.eval oJ1_16).run Try.prog w2=.ok (.value (.bool b33)) w2:=by unfold oJ1_16;go_simp
   refine st_val gJ1_16 rfl (wanted_is (j:=8) (d:=13) rfl rfl h13 rfl) Y fun a35 e=>?_;clear Y
   clear h16 h20;have h21:=pt_ F e;replace F:=pu_ F e;replace h13:=so_ e h13;clear e
   have Y:(execOp a35.eval oJ1_17).run Try.prog w2=.ok (.value (.bool b33)) w2:=by unfold oJ1_17;go_simp
   refine sw_ gJ1_17 Y F fun a36 F h22=>?_;clear Y h13 h21
   refine st_end ?_
   replace h0:=F.of h0;replace h1:=F.of h1;replace h4:=F.of h4;have R:=F.r;clear F
   change (cJ5).wp _ _ _ _
   cases b33 with
   | false =>
    have fb33:=hb33;clear hb33
    simp only [dd_] at fb33
    refine wp_cond_false (x:=cJ6) (y:=Code.skip) (eval_slot h22) ?_
    refine wp_skip ?_
    change (cJ10).wp _ _ _ _
    refine wp_seq (x:=cJ11) (y:=Code.ret) ?_
    change (Code.region 3 OJ3 false).wp _ _ _ _
    refine reg_in (l:=[0,1,2,3,4]) rfl ?_
    have F:=fe_ R;clear R
    refine sw_ gJ3_0 (ym_ rfl (F.of h0)) F fun a37 F h24=>?_
    refine sv_ gJ3_1 (ym_ rfl (F.of h1)) fun a38 e=>?_
    have h25:=pt_ F e;replace F:=pu_ F e;replace h24:=so_ e h24;clear e
    have Y:(execOp a38.eval oJ3_2).run Try.prog w2=.ok (.value (.int .i64 (IntKind.i64.wrap (a - b)))) w2:=by unfold oJ3_2;go_simp
    refine sw_ gJ3_2 Y F fun a39 F h26=>?_;clear Y h24 h25
    refine st_call gJ3_3 rfl (wanted_free rfl) (yc1_ enA43_31 rfl h26) ((of_any _ (IntKind.i64.wrap (a - b))).mono ?_)
    rintro e9 w40 ⟨rfl,kk⟩
    replace K1:=keep_onto K1 kk
    replace B1:=blk_on B1 kk
    clear kk
    refine ⟨_,rfl,fun a41 e=>?_⟩
    clear h26;have h27:=pt_ F e;replace F:=pu_ F e;clear e
    obtain ⟨w42,Y,hk,hB⟩:=ys6_ (o:=oJ3_4) rfl (F.of h4) h27 B1
    replace K1:=kx_ hk K1 (Nat.not_lt.2 LK1_b1);clear B1;have B1:=hB;clear hB hk
    refine st_skip gJ3_4 rfl (wanted_free rfl) Y ?_;clear Y
    refine st_end ?_
    clear h0;clear h1;replace h4:=F.of h4;clear h22;clear h27;have R:=F.r;clear F
    change (Code.ret).wp _ _ _ _
    refine wp_ret ?_
    change bodyPost Try.prog Try.f43 (fun e w'=>WA (resW (big (a - b))) W e w') .ret a41 w42
    refine ret_cell6 (fn:=Try.f43) rfl R h4 B1 ?_
    exact (show WA (resW (big (a - b))) W _ _ by rw [big_is (z:=a - b) (v:=IntKind.i64.wrap (a - b)) (by have ha:=HA.out;have hb:=HB.out;unfold inR at ha hb;try simp only [IntKind.wrap_i64] at *;omega) (by unfold inR;have ha:=HA.out;have hb:=HB.out;unfold inR at ha hb;try simp only [IntKind.wrap_i64] at *;omega),resW_n];exact ⟨none,0,rfl,own_zero,K1⟩)
   | true =>
    have fb33:=hb33;clear hb33
    simp only [dd_] at fb33
    refine wp_cond_true (x:=cJ6) (y:=Code.skip) (eval_slot h22) ?_
    refine wp_seq (x:=cJ7) (y:=Code.ret) ?_
    change (Code.region 2 OJ2 false).wp _ _ _ _
    refine reg_in (l:=[0,1]) rfl ?_
    have F:=fe_ R;clear R
    have Y:(execOp a36.eval oJ2_0).run Try.prog w2=.ok (.enter 59 #[.string (⟨#[105,110,116,95,111,118,101,114,102,108,111,119]⟩)]) w2:=by unfold oJ2_0;go_simp
    have hca:=fails_any (W:=w2) (s:=fOver) (by decide)
    have UKX_b1:=B1.lt
    have HWKX:W.heap.size ≤ w2.heap.size:=K1.size
    refine st_call gJ2_0 rfl (wanted_free rfl) Y ((hca).mono ?_);clear Y
    rintro e9 w43 ⟨ax,cx,rfl,hx,kk⟩
    replace K1:=keep_onto K1 kk
    replace B1:=blk_on B1 kk
    clear kk
    clear hca
    have HX:=Lib.hid hx;clear hx
    have KX:=Keep.refl (fun g=>w2.heap.size ≤ g∧g < w43.heap.size) w43
    refine ⟨_,rfl,fun a44 e=>?_⟩
    have h23:=pt_ F e;replace F:=pu_ F e;clear e
    obtain ⟨w45,Y,hk,hB⟩:=ys6_ (o:=oJ2_1) rfl (F.of h4) h23 B1
    replace K1:=kx_ hk K1 (Nat.not_lt.2 LK1_b1);replace KX:=kx_ hk KX (fun hx=>absurd hx.1 (Nat.not_le.2 UKX_b1));clear B1;have B1:=hB;clear hB hk
    refine st_skip gJ2_1 rfl (wanted_free rfl) Y ?_;clear Y
    refine st_end ?_
    replace h0:=F.of h0;replace h1:=F.of h1;replace h4:=F.of h4;clear h22;clear h23;have R:=F.r;clear F
    change (Code.ret).wp _ _ _ _
    refine wp_ret ?_
    change bodyPost Try.prog Try.f43 (fun e w'=>WA (resW (big (a - b))) W e w') .ret a44 w45
    refine ret_cell6 (fn:=Try.f43) rfl R h4 B1 ?_
    exact (show WA (resW (big (a - b))) W _ _ by rw [big_not (z:=a - b) (by unfold inR;have ha:=HA.out;have hb:=HB.out;unfold inR at ha hb;try simp only [IntKind.wrap_i64] at *;omega),resW_o];exact ⟨ax,cx,rfl,(HX.out.on KX).up HWKX,K1⟩)
 | true =>
  have fb5:=hb5;clear hb5
  simp only [dd_] at fb5
  refine st_val gJ1_3 rfl (wanted_is (j:=2) (d:=7) rfl rfl h7 rfl) (ym_ rfl (F.of h0)) fun a46 e=>?_
  have h8:=pt_ F e;replace F:=pu_ F e;replace h7:=so_ e h7;clear e
  refine st_val gJ1_4 rfl (wanted_is (j:=2) (d:=7) rfl rfl h7 rfl) (ym_ rfl (F.of h1)) fun a47 e=>?_
  have h9:=pt_ F e;replace F:=pu_ F e;replace h7:=so_ e h7;replace h8:=so_ e h8;clear e
  have Y:(execOp a47.eval oJ1_5).run Try.prog w2=.ok (.value (.int .i64 (IntKind.i64.wrap ((-9223372036854775808) + b)))) w2:=by unfold oJ1_5;go_simp
  refine st_val gJ1_5 rfl (wanted_is (j:=2) (d:=7) rfl rfl h7 rfl) Y fun a48 e=>?_;clear Y
  clear h9;have h10:=pt_ F e;replace F:=pu_ F e;replace h7:=so_ e h7;replace h8:=so_ e h8;clear e
  obtain ⟨b49,hb49⟩:∃ x,(decide ((a:Int) < (IntKind.i64.wrap ((-9223372036854775808) + b):Int)))=x:=⟨_,rfl⟩
  have Y:(execOp a48.eval oJ1_6).run Try.prog w2=.ok (.value (.bool b49)) w2:=by rw [← hb49];unfold oJ1_6;go_simp
  refine st_val gJ1_6 rfl (wanted_is (j:=2) (d:=7) rfl rfl h7 rfl) Y fun a50 e=>?_;clear Y
  clear h8 h10;have h11:=pt_ F e;replace F:=pu_ F e;replace h7:=so_ e h7;clear e
  have Y:(execOp a50.eval oJ1_7).run Try.prog w2=.ok (.value (.bool b49)) w2:=by unfold oJ1_7;go_simp
  refine sw_ gJ1_7 Y F fun a51 F h12=>?_;clear Y h7 h11
  refine sv_ gJ1_8 (ym_ rfl h12) fun a52 e=>?_
  clear h12;have h13:=pt_ F e;replace F:=pu_ F e;clear e
  cases b49 with
  | false =>
   have fb49:=hb49;clear hb49
   simp only [dd_] at fb49
   refine st_val gJ1_9 rfl (wanted_is (j:=8) (d:=13) rfl rfl h13 rfl) (ym_ rfl (F.of h1)) fun a53 e=>?_
   have h14:=pt_ F e;replace F:=pu_ F e;replace h13:=so_ e h13;clear e
   obtain ⟨b54,hb54⟩:∃ x,(decide ((b:Int) < (0:Int)))=x:=⟨_,rfl⟩
   have Y:(execOp a53.eval oJ1_10).run Try.prog w2=.ok (.value (.bool b54)) w2:=by rw [← hb54];unfold oJ1_10;go_simp
   refine st_val gJ1_10 rfl (wanted_is (j:=8) (d:=13) rfl rfl h13 rfl) Y fun a55 e=>?_;clear Y
   clear h14;have h15:=pt_ F e;replace F:=pu_ F e;replace h13:=so_ e h13;clear e
   refine st_val gJ1_11 rfl (wanted_is (j:=8) (d:=13) rfl rfl h13 rfl) (ym_ rfl h15) fun a56 e=>?_
   clear h15;have h16:=pt_ F e;replace F:=pu_ F e;replace h13:=so_ e h13;clear e
   cases b54 with
   | false =>
    have fb54:=hb54;clear hb54
    simp only [dd_] at fb54
    refine st_not gJ1_12 rfl (wanted_is (j:=11) (d:=16) rfl rfl h16 rfl) fun a57 e=>?_
    have h17:=pt_ F e;replace F:=pu_ F e;replace h13:=so_ e h13;replace h16:=so_ e h16;clear e
    refine st_not gJ1_13 rfl (wanted_is (j:=11) (d:=16) rfl rfl h16 rfl) fun a58 e=>?_
    have h18:=pt_ F e;replace F:=pu_ F e;replace h13:=so_ e h13;replace h16:=so_ e h16;replace h17:=so_ e h17;clear e
    refine st_not gJ1_14 rfl (wanted_is (j:=11) (d:=16) rfl rfl h16 rfl) fun a59 e=>?_
    clear h18;have h19:=pt_ F e;replace F:=pu_ F e;replace h13:=so_ e h13;replace h16:=so_ e h16;replace h17:=so_ e h17;clear e
    refine st_not gJ1_15 rfl (wanted_is (j:=11) (d:=16) rfl rfl h16 rfl) fun a60 e=>?_
    clear h17 h19;have h20:=pt_ F e;replace F:=pu_ F e;replace h13:=so_ e h13;replace h16:=so_ e h16;clear e
    have Y:(execOp a60.eval oJ1_16).run Try.prog w2=.ok (.value (.bool false)) w2:=by unfold oJ1_16;go_simp
    refine st_val gJ1_16 rfl (wanted_is (j:=8) (d:=13) rfl rfl h13 rfl) Y fun a61 e=>?_;clear Y
    clear h16 h20;have h21:=pt_ F e;replace F:=pu_ F e;replace h13:=so_ e h13;clear e
    have Y:(execOp a61.eval oJ1_17).run Try.prog w2=.ok (.value (.bool false)) w2:=by unfold oJ1_17;go_simp
    refine sw_ gJ1_17 Y F fun a62 F h22=>?_;clear Y h13 h21
    refine st_end ?_
    replace h0:=F.of h0;replace h1:=F.of h1;replace h4:=F.of h4;have R:=F.r;clear F
    change (cJ5).wp _ _ _ _
    refine wp_cond_false (x:=cJ6) (y:=Code.skip) (eval_slot h22) ?_
    refine wp_skip ?_
    change (cJ10).wp _ _ _ _
    refine wp_seq (x:=cJ11) (y:=Code.ret) ?_
    change (Code.region 3 OJ3 false).wp _ _ _ _
    refine reg_in (l:=[0,1,2,3,4]) rfl ?_
    have F:=fe_ R;clear R
    refine sw_ gJ3_0 (ym_ rfl (F.of h0)) F fun a63 F h24=>?_
    refine sv_ gJ3_1 (ym_ rfl (F.of h1)) fun a64 e=>?_
    have h25:=pt_ F e;replace F:=pu_ F e;replace h24:=so_ e h24;clear e
    have Y:(execOp a64.eval oJ3_2).run Try.prog w2=.ok (.value (.int .i64 (IntKind.i64.wrap (a - b)))) w2:=by unfold oJ3_2;go_simp
    refine sw_ gJ3_2 Y F fun a65 F h26=>?_;clear Y h24 h25
    refine st_call gJ3_3 rfl (wanted_free rfl) (yc1_ enA43_31 rfl h26) ((of_any _ (IntKind.i64.wrap (a - b))).mono ?_)
    rintro e9 w66 ⟨rfl,kk⟩
    replace K1:=keep_onto K1 kk
    replace B1:=blk_on B1 kk
    clear kk
    refine ⟨_,rfl,fun a67 e=>?_⟩
    clear h26;have h27:=pt_ F e;replace F:=pu_ F e;clear e
    obtain ⟨w68,Y,hk,hB⟩:=ys6_ (o:=oJ3_4) rfl (F.of h4) h27 B1
    replace K1:=kx_ hk K1 (Nat.not_lt.2 LK1_b1);clear B1;have B1:=hB;clear hB hk
    refine st_skip gJ3_4 rfl (wanted_free rfl) Y ?_;clear Y
    refine st_end ?_
    clear h0;clear h1;replace h4:=F.of h4;clear h22;clear h27;have R:=F.r;clear F
    change (Code.ret).wp _ _ _ _
    refine wp_ret ?_
    change bodyPost Try.prog Try.f43 (fun e w'=>WA (resW (big (a - b))) W e w') .ret a67 w68
    refine ret_cell6 (fn:=Try.f43) rfl R h4 B1 ?_
    exact (show WA (resW (big (a - b))) W _ _ by rw [big_is (z:=a - b) (v:=IntKind.i64.wrap (a - b)) (by have ha:=HA.out;have hb:=HB.out;unfold inR at ha hb;try simp only [IntKind.wrap_i64] at *;omega) (by unfold inR;have ha:=HA.out;have hb:=HB.out;unfold inR at ha hb;try simp only [IntKind.wrap_i64] at *;omega),resW_n];exact ⟨none,0,rfl,own_zero,K1⟩)
   | true =>
    have fb54:=hb54;clear hb54
    simp only [dd_] at fb54
    refine st_val gJ1_12 rfl (wanted_is (j:=11) (d:=16) rfl rfl h16 rfl) (ym_ rfl (F.of h0)) fun a69 e=>?_
    have h17:=pt_ F e;replace F:=pu_ F e;replace h13:=so_ e h13;replace h16:=so_ e h16;clear e
    refine st_val gJ1_13 rfl (wanted_is (j:=11) (d:=16) rfl rfl h16 rfl) (ym_ rfl (F.of h1)) fun a70 e=>?_
    have h18:=pt_ F e;replace F:=pu_ F e;replace h13:=so_ e h13;replace h16:=so_ e h16;replace h17:=so_ e h17;clear e
    have Y:(execOp a70.eval oJ1_14).run Try.prog w2=.ok (.value (.int .i64 (IntKind.i64.wrap (9223372036854775807 + b)))) w2:=by unfold oJ1_14;go_simp
    refine st_val gJ1_14 rfl (wanted_is (j:=11) (d:=16) rfl rfl h16 rfl) Y fun a71 e=>?_;clear Y
    clear h18;have h19:=pt_ F e;replace F:=pu_ F e;replace h13:=so_ e h13;replace h16:=so_ e h16;replace h17:=so_ e h17;clear e
    obtain ⟨b72,hb72⟩:∃ x,(decide ((IntKind.i64.wrap (9223372036854775807 + b):Int) < (a:Int)))=x:=⟨_,rfl⟩
    have Y:(execOp a71.eval oJ1_15).run Try.prog w2=.ok (.value (.bool b72)) w2:=by rw [← hb72];unfold oJ1_15;go_simp
    refine st_val gJ1_15 rfl (wanted_is (j:=11) (d:=16) rfl rfl h16 rfl) Y fun a73 e=>?_;clear Y
    clear h17 h19;have h20:=pt_ F e;replace F:=pu_ F e;replace h13:=so_ e h13;replace h16:=so_ e h16;clear e
    have Y:(execOp a73.eval oJ1_16).run Try.prog w2=.ok (.value (.bool b72)) w2:=by unfold oJ1_16;go_simp
    refine st_val gJ1_16 rfl (wanted_is (j:=8) (d:=13) rfl rfl h13 rfl) Y fun a74 e=>?_;clear Y
    clear h16 h20;have h21:=pt_ F e;replace F:=pu_ F e;replace h13:=so_ e h13;clear e
    have Y:(execOp a74.eval oJ1_17).run Try.prog w2=.ok (.value (.bool b72)) w2:=by unfold oJ1_17;go_simp
    refine sw_ gJ1_17 Y F fun a75 F h22=>?_;clear Y h13 h21
    refine st_end ?_
    replace h0:=F.of h0;replace h1:=F.of h1;replace h4:=F.of h4;have R:=F.r;clear F
    change (cJ5).wp _ _ _ _
    cases b72 with
    | false =>
     have fb72:=hb72;clear hb72
     simp only [dd_] at fb72
     refine wp_cond_false (x:=cJ6) (y:=Code.skip) (eval_slot h22) ?_
     refine wp_skip ?_
     change (cJ10).wp _ _ _ _
     refine wp_seq (x:=cJ11) (y:=Code.ret) ?_
     change (Code.region 3 OJ3 false).wp _ _ _ _
     refine reg_in (l:=[0,1,2,3,4]) rfl ?_
     have F:=fe_ R;clear R
     refine sw_ gJ3_0 (ym_ rfl (F.of h0)) F fun a76 F h24=>?_
     refine sv_ gJ3_1 (ym_ rfl (F.of h1)) fun a77 e=>?_
     have h25:=pt_ F e;replace F:=pu_ F e;replace h24:=so_ e h24;clear e
     have Y:(execOp a77.eval oJ3_2).run Try.prog w2=.ok (.value (.int .i64 (IntKind.i64.wrap (a - b)))) w2:=by unfold oJ3_2;go_simp
     refine sw_ gJ3_2 Y F fun a78 F h26=>?_;clear Y h24 h25
     refine st_call gJ3_3 rfl (wanted_free rfl) (yc1_ enA43_31 rfl h26) ((of_any _ (IntKind.i64.wrap (a - b))).mono ?_)
     rintro e9 w79 ⟨rfl,kk⟩
     replace K1:=keep_onto K1 kk
     replace B1:=blk_on B1 kk
     clear kk
     refine ⟨_,rfl,fun a80 e=>?_⟩
     clear h26;have h27:=pt_ F e;replace F:=pu_ F e;clear e
     obtain ⟨w81,Y,hk,hB⟩:=ys6_ (o:=oJ3_4) rfl (F.of h4) h27 B1
     replace K1:=kx_ hk K1 (Nat.not_lt.2 LK1_b1);clear B1;have B1:=hB;clear hB hk
     refine st_skip gJ3_4 rfl (wanted_free rfl) Y ?_;clear Y
     refine st_end ?_
     clear h0;clear h1;replace h4:=F.of h4;clear h22;clear h27;have R:=F.r;clear F
     change (Code.ret).wp _ _ _ _
     refine wp_ret ?_
     change bodyPost Try.prog Try.f43 (fun e w'=>WA (resW (big (a - b))) W e w') .ret a80 w81
     refine ret_cell6 (fn:=Try.f43) rfl R h4 B1 ?_
     exact (show WA (resW (big (a - b))) W _ _ by rw [big_is (z:=a - b) (v:=IntKind.i64.wrap (a - b)) (by have ha:=HA.out;have hb:=HB.out;unfold inR at ha hb;try simp only [IntKind.wrap_i64] at *;omega) (by unfold inR;have ha:=HA.out;have hb:=HB.out;unfold inR at ha hb;try simp only [IntKind.wrap_i64] at *;omega),resW_n];exact ⟨none,0,rfl,own_zero,K1⟩)
    | true =>
     have fb72:=hb72;clear hb72
     simp only [dd_] at fb72
     refine wp_cond_true (x:=cJ6) (y:=Code.skip) (eval_slot h22) ?_
     refine wp_seq (x:=cJ7) (y:=Code.ret) ?_
     change (Code.region 2 OJ2 false).wp _ _ _ _
     refine reg_in (l:=[0,1]) rfl ?_
     have F:=fe_ R;clear R
     have Y:(execOp a75.eval oJ2_0).run Try.prog w2=.ok (.enter 59 #[.string (⟨#[105,110,116,95,111,118,101,114,102,108,111,119]⟩)]) w2:=by unfold oJ2_0;go_simp
     have hca:=fails_any (W:=w2) (s:=fOver) (by decide)
     have UKX_b1:=B1.lt
     have HWKX:W.heap.size ≤ w2.heap.size:=K1.size
     refine st_call gJ2_0 rfl (wanted_free rfl) Y ((hca).mono ?_);clear Y
     rintro e9 w82 ⟨ax,cx,rfl,hx,kk⟩
     replace K1:=keep_onto K1 kk
     replace B1:=blk_on B1 kk
     clear kk
     clear hca
     have HX:=Lib.hid hx;clear hx
     have KX:=Keep.refl (fun g=>w2.heap.size ≤ g∧g < w82.heap.size) w82
     refine ⟨_,rfl,fun a83 e=>?_⟩
     have h23:=pt_ F e;replace F:=pu_ F e;clear e
     obtain ⟨w84,Y,hk,hB⟩:=ys6_ (o:=oJ2_1) rfl (F.of h4) h23 B1
     replace K1:=kx_ hk K1 (Nat.not_lt.2 LK1_b1);replace KX:=kx_ hk KX (fun hx=>absurd hx.1 (Nat.not_le.2 UKX_b1));clear B1;have B1:=hB;clear hB hk
     refine st_skip gJ2_1 rfl (wanted_free rfl) Y ?_;clear Y
     refine st_end ?_
     replace h0:=F.of h0;replace h1:=F.of h1;replace h4:=F.of h4;clear h22;clear h23;have R:=F.r;clear F
     change (Code.ret).wp _ _ _ _
     refine wp_ret ?_
     change bodyPost Try.prog Try.f43 (fun e w'=>WA (resW (big (a - b))) W e w') .ret a83 w84
     refine ret_cell6 (fn:=Try.f43) rfl R h4 B1 ?_
     exact (show WA (resW (big (a - b))) W _ _ by rw [big_not (z:=a - b) (by unfold inR;have ha:=HA.out;have hb:=HB.out;unfold inR at ha hb;try simp only [IntKind.wrap_i64] at *;omega),resW_o];exact ⟨ax,cx,rfl,(HX.out.on KX).up HWKX,K1⟩)
  | true =>
   have fb49:=hb49;clear hb49
   simp only [dd_] at fb49
   refine st_not gJ1_9 rfl (wanted_is (j:=8) (d:=13) rfl rfl h13 rfl) fun a85 e=>?_
   have h14:=pt_ F e;replace F:=pu_ F e;replace h13:=so_ e h13;clear e
   refine st_not gJ1_10 rfl (wanted_is (j:=8) (d:=13) rfl rfl h13 rfl) fun a86 e=>?_
   clear h14;have h15:=pt_ F e;replace F:=pu_ F e;replace h13:=so_ e h13;clear e
   refine st_not gJ1_11 rfl (wanted_is (j:=8) (d:=13) rfl rfl h13 rfl) fun a87 e=>?_
   clear h15;have h16:=pt_ F e;replace F:=pu_ F e;replace h13:=so_ e h13;clear e
   refine st_not gJ1_12 rfl (wanted_un (j:=11) (d:=16) rfl rfl h16) fun a88 e=>?_
   have h17:=pt_ F e;replace F:=pu_ F e;replace h13:=so_ e h13;replace h16:=so_ e h16;clear e
   refine st_not gJ1_13 rfl (wanted_un (j:=11) (d:=16) rfl rfl h16) fun a89 e=>?_
   have h18:=pt_ F e;replace F:=pu_ F e;replace h13:=so_ e h13;replace h16:=so_ e h16;replace h17:=so_ e h17;clear e
   refine st_not gJ1_14 rfl (wanted_un (j:=11) (d:=16) rfl rfl h16) fun a90 e=>?_
   clear h18;have h19:=pt_ F e;replace F:=pu_ F e;replace h13:=so_ e h13;replace h16:=so_ e h16;replace h17:=so_ e h17;clear e
   refine st_not gJ1_15 rfl (wanted_un (j:=11) (d:=16) rfl rfl h16) fun a91 e=>?_
   clear h17 h19;have h20:=pt_ F e;replace F:=pu_ F e;replace h13:=so_ e h13;replace h16:=so_ e h16;clear e
   refine st_not gJ1_16 rfl (wanted_is (j:=8) (d:=13) rfl rfl h13 rfl) fun a92 e=>?_
   clear h16 h20;have h21:=pt_ F e;replace F:=pu_ F e;replace h13:=so_ e h13;clear e
   have Y:(execOp a92.eval oJ1_17).run Try.prog w2=.ok (.value (.bool true)) w2:=by unfold oJ1_17;go_simp
   refine sw_ gJ1_17 Y F fun a93 F h22=>?_;clear Y h13 h21
   refine st_end ?_
   replace h0:=F.of h0;replace h1:=F.of h1;replace h4:=F.of h4;have R:=F.r;clear F
   change (cJ5).wp _ _ _ _
   refine wp_cond_true (x:=cJ6) (y:=Code.skip) (eval_slot h22) ?_
   refine wp_seq (x:=cJ7) (y:=Code.ret) ?_
   change (Code.region 2 OJ2 false).wp _ _ _ _
   refine reg_in (l:=[0,1]) rfl ?_
   have F:=fe_ R;clear R
   have Y:(execOp a93.eval oJ2_0).run Try.prog w2=.ok (.enter 59 #[.string (⟨#[105,110,116,95,111,118,101,114,102,108,111,119]⟩)]) w2:=by unfold oJ2_0;go_simp
   have hca:=fails_any (W:=w2) (s:=fOver) (by decide)
   have UKX_b1:=B1.lt
   have HWKX:W.heap.size ≤ w2.heap.size:=K1.size
   refine st_call gJ2_0 rfl (wanted_free rfl) Y ((hca).mono ?_);clear Y
   rintro e9 w94 ⟨ax,cx,rfl,hx,kk⟩
   replace K1:=keep_onto K1 kk
   replace B1:=blk_on B1 kk
   clear kk
   clear hca
   have HX:=Lib.hid hx;clear hx
   have KX:=Keep.refl (fun g=>w2.heap.size ≤ g∧g < w94.heap.size) w94
   refine ⟨_,rfl,fun a95 e=>?_⟩
   have h23:=pt_ F e;replace F:=pu_ F e;clear e
   obtain ⟨w96,Y,hk,hB⟩:=ys6_ (o:=oJ2_1) rfl (F.of h4) h23 B1
   replace K1:=kx_ hk K1 (Nat.not_lt.2 LK1_b1);replace KX:=kx_ hk KX (fun hx=>absurd hx.1 (Nat.not_le.2 UKX_b1));clear B1;have B1:=hB;clear hB hk
   refine st_skip gJ2_1 rfl (wanted_free rfl) Y ?_;clear Y
   refine st_end ?_
   replace h0:=F.of h0;replace h1:=F.of h1;replace h4:=F.of h4;clear h22;clear h23;have R:=F.r;clear F
   change (Code.ret).wp _ _ _ _
   refine wp_ret ?_
   change bodyPost Try.prog Try.f43 (fun e w'=>WA (resW (big (a - b))) W e w') .ret a95 w96
   refine ret_cell6 (fn:=Try.f43) rfl R h4 B1 ?_
   exact (show WA (resW (big (a - b))) W _ _ by rw [big_not (z:=a - b) (by unfold inR;have ha:=HA.out;have hb:=HB.out;unfold inR at ha hb;try simp only [IntKind.wrap_i64] at *;omega),resW_o];exact ⟨ax,cx,rfl,(HX.out.on KX).up HWKX,K1⟩)
theorem rsub_any (W:World) {a b:Int} (ha:inR a) (hb:inR b):Calls Try.prog 43 #[.int .i64 a,.int .i64 b] W fun e w'=>WA (resW (big (a - b))) W e w':=by
  refine enter_sx Try.func43 bodyA43 rfl (by show (2:Nat) ≤ 28;decide) fun f0 R hs=>?_
  exact rsub_w R (hs 0 _ rfl) (hs 1 _ rfl) (Keep.refl _ W) (Lib.hid ha) (Lib.hid hb)
end Go.Proofs.Ytmgephleogiaoaa
