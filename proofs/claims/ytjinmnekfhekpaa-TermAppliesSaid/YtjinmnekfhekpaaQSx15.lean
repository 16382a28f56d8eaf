/-
  The document's Like and SameAll, of terms that are alike: walked with letter frames. No condition but where the terms lie.
-/
import Derived.Test.YtjinmnekfhekpaaQSx7
import Derived.Test.YtjinmnekfhekpaaQSx5
namespace Go.Proofs.Ytjinmnekfhekpaa
open Go.RowKit Go.Maps
set_option linter.unusedVariables false
set_option linter.unusedSimpArgs false
def o36_0_0:Oper:=⟨some 2,.box 24 (.tmp 0),0, "ref.go:413",#[],none⟩
def o36_0_1:Oper:=⟨some 3,.box 24 (.tmp 1),0, "ref.go:413",#[],none⟩
def o36_0_2:Oper:=⟨some 4,.assign (.const (.bool false)),4, "ref.go:413",#[],none⟩
def O36_0:Array Oper:=#[o36_0_0,o36_0_1,o36_0_2]
def c36_1:Code:=.region 0 O36_0 false
def o36_1_0:Oper:=⟨some 5,.fieldAddr 24 (.tmp 2) 0,0, "ref.go:414",#[],none⟩
def o36_1_1:Oper:=⟨some 6,.load 3 (.tmp 5),3, "ref.go:414",#[ed_ 0],none⟩
def o36_1_2:Oper:=⟨some 7,.binOp .eql 3 (.tmp 6) (.const (.int .i64 0)) 3,4, "ref.go:414",#[ed_ 1],none⟩
def o36_1_3:Oper:=⟨some 8,.move (.tmp 7),4, "ref.go:414",#[ed_ 2],none⟩
def o36_1_4:Oper:=⟨some 9,.fieldAddr 24 (.tmp 3) 0,0, "ref.go:414",#[eg_ 3],some (3,false)⟩
def o36_1_5:Oper:=⟨some 10,.load 3 (.tmp 9),3, "ref.go:414",#[ed_ 4,eg_ 3],some (3,false)⟩
def o36_1_6:Oper:=⟨some 11,.binOp .eql 3 (.tmp 10) (.const (.int .i64 0)) 3,4, "ref.go:414",#[ed_ 5,eg_ 3],some (3,false)⟩
def o36_1_7:Oper:=⟨some 12,.pick (.tmp 8) (.const (.bool true)) (.tmp 11),4, "ref.go:414",#[ed_ 3,ed_ 6],none⟩
def O36_1:Array Oper:=#[o36_1_0,o36_1_1,o36_1_2,o36_1_3,o36_1_4,o36_1_5,o36_1_6,o36_1_7]
def c36_4:Code:=.region 1 O36_1 false
def o36_2_0:Oper:=⟨some 13,.fieldAddr 24 (.tmp 2) 0,0, "ref.go:415",#[],none⟩
def o36_2_1:Oper:=⟨some 14,.load 3 (.tmp 13),3, "ref.go:415",#[ed_ 0],none⟩
def o36_2_2:Oper:=⟨some 15,.fieldAddr 24 (.tmp 3) 0,0, "ref.go:415",#[],none⟩
def o36_2_3:Oper:=⟨some 16,.load 3 (.tmp 15),3, "ref.go:415",#[ed_ 2],none⟩
def o36_2_4:Oper:=⟨some 17,.binOp .eql 3 (.tmp 14) (.tmp 16) 3,4, "ref.go:415",#[ed_ 1,ed_ 3],none⟩
def o36_2_5:Oper:=⟨some 4,.assign (.tmp 17),4, "ref.go:415",#[ed_ 4,ep_ 0,ep_ 1,ep_ 2,ep_ 3,ep_ 4],none⟩
def O36_2:Array Oper:=#[o36_2_0,o36_2_1,o36_2_2,o36_2_3,o36_2_4,o36_2_5]
def c36_7:Code:=.region 2 O36_2 false
def c36_6:Code:=.seq c36_7 Code.ret
def c36_5:Code:=.cond (Operand.tmp 12) c36_6 Code.skip
def c36_3:Code:=.seq c36_4 c36_5
def o36_3_0:Oper:=⟨some 18,.load 24 (.tmp 2),24, "ref.go:417",#[],none⟩
def o36_3_1:Oper:=⟨some 19,.load 24 (.tmp 3),24, "ref.go:417",#[],none⟩
def o36_3_2:Oper:=⟨some 20,.call { callee:=.value (.func 15),args:=#[.tmp 18,.tmp 19],argTypes:=#[24,24] },4, "ref.go:417",#[ed_ 0,ed_ 1],none⟩
def o36_3_3:Oper:=⟨some 4,.assign (.tmp 20),4, "ref.go:417",#[ed_ 2,ec_ 2,ep_ 0,ep_ 1,ep_ 2],none⟩
def O36_3:Array Oper:=#[o36_3_0,o36_3_1,o36_3_2,o36_3_3]
def c36_11:Code:=.region 3 O36_3 false
def c36_10:Code:=.seq c36_11 Code.ret
def c36_2:Code:=.seq c36_3 c36_10
def c36_0:Code:=.seq c36_1 c36_2
theorem en36_38:Enters Try.prog 15:=enters_of Try.func15 (by kernel_rfl) rfl
theorem body36:Try.f11.body=some c36_0:=by kernel_rfl
set_option maxRecDepth 100000 in
set_option maxHeartbeats 4000000 in
theorem like_z {W:World} {t u:Tm} {a b:Option Addr} {c d:Nat} {f0:Act} {w0:World} (R:FrS 21 f0) (h0:f0.tmps[0]? = some (.agg #[.int .i64 t.k,.string (str t.nm),.int .i64 t.i,.slice a t.args.length c])) (h1:f0.tmps[1]? = some (.agg #[.int .i64 u.k,.string (str u.nm),.int .i64 u.i,.slice b u.args.length d])) (K1:Keep (fun g=>g < W.heap.size) W w0)  (HZ:Hid (t.k=0∧u.k=0)):c36_0.wp Try.prog (bodyPost Try.prog Try.f11 (fun e w'=>e=.returned (.bool true)∧Keep (fun g=>g < W.heap.size) W w')) f0 w0:=by
 refine wp_seq (x:=c36_1) (y:=c36_2) ?_;refine reg_in (l:=[0,1,2]) rfl ?_;have F:=fe_ R;clear R;have Y:(execOp f0.eval o36_0_0).run Try.prog w0=.ok (.value (.pointer (some ⟨w0.heap.size,0,none⟩))) (w0.alloc (.cells #[.int .i64 t.k,.string (str t.nm),.int .i64 t.i,.slice a t.args.length c] 24)):=by have r0:=F.of h0;unfold o36_0_0;go_simp
 have B1:=Blk.new w0 24 #[.int .i64 t.k,.string (str t.nm),.int .i64 t.i,.slice a t.args.length c];obtain ⟨w2,hw⟩:∃ x,x=w0.alloc (.cells #[.int .i64 t.k,.string (str t.nm),.int .i64 t.i,.slice a t.args.length c] 24):=⟨_,rfl⟩;rw [← hw] at Y B1;obtain ⟨b1,hb⟩:∃ x,x=w0.heap.size:=⟨_,rfl⟩;rw [← hb] at Y B1;have LK1_b1:=lk_ hb K1;replace K1:=ka_ hw K1;clear hw hb;refine sw_ rfl Y F fun a3 F h2=>?_;clear Y;have Y:(execOp a3.eval o36_0_1).run Try.prog w2=.ok (.value (.pointer (some ⟨w2.heap.size,0,none⟩))) (w2.alloc (.cells #[.int .i64 u.k,.string (str u.nm),.int .i64 u.i,.slice b u.args.length d] 24)):=by have r1:=F.of h1;unfold o36_0_1;go_simp
 have B4:=Blk.new w2 24 #[.int .i64 u.k,.string (str u.nm),.int .i64 u.i,.slice b u.args.length d];obtain ⟨w5,hw⟩:∃ x,x=w2.alloc (.cells #[.int .i64 u.k,.string (str u.nm),.int .i64 u.i,.slice b u.args.length d] 24):=⟨_,rfl⟩;rw [← hw] at Y B4;obtain ⟨b4,hb⟩:∃ x,x=w2.heap.size:=⟨_,rfl⟩;rw [← hb] at Y B4;have Nb1_b4:=nb_ hb B1;replace B1:=ba_ hw B1;have LK1_b4:=lk_ hb K1;replace K1:=ka_ hw K1;clear hw hb;refine swe_ rfl Y F fun a6 e F h3=>?_;clear Y;replace h2:=so_ e h2;clear e;have Y:Yv a6 o36_0_2 w5 (.bool false):=by unfold Yv o36_0_2;go_simp
 refine swe_ rfl Y F fun a7 e F h4=>?_;clear Y;have⟨h2,h3⟩:=s2_ e h2 h3;clear e;refine st_end ?_;clear h0;clear h1;have R:=F.r;clear F;refine wp_seq (x:=c36_3) (y:=c36_10) ?_;refine wp_seq (x:=c36_4) (y:=c36_5) ?_;refine reg_in (l:=[0,1,2,3,4,5,6,7]) rfl ?_;have F:=fe_ R;clear R;refine sw_ rfl (yf0_ rfl (F.of h2)) F fun a8 F h5=>?_;refine sw_ rfl (yk0_ rfl h5 B1) F fun a9 F h6=>?_;clear h5;have Y:Yv a9 o36_1_2 w5 (.bool true):=by have hk:=HZ.out.1;unfold Yv o36_1_2;go_simp
 refine sw_ rfl Y F fun a10 F h7=>?_;clear Y h6;refine sw_ rfl (ym_ rfl h7) F fun a11 F h8=>?_;clear h7;refine st_not rfl rfl (wanted_is (j:=3) (d:=8) rfl rfl h8 rfl) fun a12 e=>?_;have h9:=pt_ F e;replace F:=pu_ F e;replace h8:=so_ e h8;clear e;refine st_not rfl rfl (wanted_is (j:=3) (d:=8) rfl rfl h8 rfl) fun a13 e=>?_;clear h9;have h10:=pt_ F e;replace F:=pu_ F e;replace h8:=so_ e h8;clear e;refine st_not rfl rfl (wanted_is (j:=3) (d:=8) rfl rfl h8 rfl) fun a14 e=>?_;clear h10;have h11:=pt_ F e;replace F:=pu_ F e;replace h8:=so_ e h8;clear e;have Y:Yv a14 o36_1_7 w5 (.bool true):=by unfold Yv o36_1_7;go_simp
 refine sw_ rfl Y F fun a15 F h12=>?_;clear Y h8 h11;refine st_end ?_;have⟨h2,h3,h4⟩:=F.o3 h2 h3 h4;have R:=F.r;clear F;refine wp_cond_true (x:=c36_6) (y:=Code.skip) (eval_slot h12) ?_;refine wp_seq (x:=c36_7) (y:=Code.ret) ?_;refine reg_in (l:=[0,1,2,3,4,5]) rfl ?_;have F:=fe_ R;clear R;refine sw_ rfl (yf0_ rfl (F.of h2)) F fun a16 F h13=>?_;refine sw_ rfl (yk0_ rfl h13 B1) F fun a17 F h14=>?_;clear h13;refine swe_ rfl (yf0_ rfl (F.of h3)) F fun a18 e F h15=>?_;replace h14:=so_ e h14;clear e;refine swe_ rfl (yk0_ rfl h15 B4) F fun a19 e F h16=>?_;clear h15;replace h14:=so_ e h14;clear e;have Y:Yv a19 o36_2_4 w5 (.bool true):=by have hk1:=HZ.out.1;have hk2:=HZ.out.2;unfold Yv o36_2_4;go_simp
 refine sw_ rfl Y F fun a20 F h17=>?_;clear Y h14 h16;refine sw_ rfl (ya_ rfl h17) F fun a21 F h4=>?_;clear h17;refine st_end ?_;have⟨h2,h3⟩:=F.o2 h2 h3;clear h12;have R:=F.r;clear F;refine wp_ret ?_;change bodyPost Try.prog Try.f11 (fun e w'=>e=.returned (.bool true)∧Keep (fun g=>g < W.heap.size) W w') .ret a21 w5;refine ret_one rfl R h4 ?_;exact ⟨rfl,K1⟩
set_option maxRecDepth 100000 in
set_option maxHeartbeats 4000000 in
theorem like_r {W:World} {t u:Tm} {a b:Option Addr} {c d:Nat} {f0:Act} {w0:World} (R:FrS 21 f0) (h0:f0.tmps[0]? = some (.agg #[.int .i64 t.k,.string (str t.nm),.int .i64 t.i,.slice a t.args.length c])) (h1:f0.tmps[1]? = some (.agg #[.int .i64 u.k,.string (str u.nm),.int .i64 u.i,.slice b u.args.length d])) (K1:Keep (fun g=>g < W.heap.size) W w0)  (HZ:Hid (¬ t.k=0∧¬ u.k=0)) (HT:Hid (TmAt W.heap.size W t a c)) (HU:Hid (TmAt W.heap.size W u b d)) (HR:Hid (t.right=true∧u.right=true∧t.tree=u.tree)):c36_0.wp Try.prog (bodyPost Try.prog Try.f11 (fun e w'=>e=.returned (.bool true)∧Keep (fun g=>g < W.heap.size) W w')) f0 w0:=by
 refine wp_seq (x:=c36_1) (y:=c36_2) ?_;refine reg_in (l:=[0,1,2]) rfl ?_;have F:=fe_ R;clear R;have Y:(execOp f0.eval o36_0_0).run Try.prog w0=.ok (.value (.pointer (some ⟨w0.heap.size,0,none⟩))) (w0.alloc (.cells #[.int .i64 t.k,.string (str t.nm),.int .i64 t.i,.slice a t.args.length c] 24)):=by have r0:=F.of h0;unfold o36_0_0;go_simp
 have B22:=Blk.new w0 24 #[.int .i64 t.k,.string (str t.nm),.int .i64 t.i,.slice a t.args.length c];obtain ⟨w23,hw⟩:∃ x,x=w0.alloc (.cells #[.int .i64 t.k,.string (str t.nm),.int .i64 t.i,.slice a t.args.length c] 24):=⟨_,rfl⟩;rw [← hw] at Y B22;obtain ⟨b22,hb⟩:∃ x,x=w0.heap.size:=⟨_,rfl⟩;rw [← hb] at Y B22;have LK1_b22:=lk_ hb K1;replace K1:=ka_ hw K1;clear hw hb;refine sw_ rfl Y F fun a24 F h2=>?_;clear Y;have Y:(execOp a24.eval o36_0_1).run Try.prog w23=.ok (.value (.pointer (some ⟨w23.heap.size,0,none⟩))) (w23.alloc (.cells #[.int .i64 u.k,.string (str u.nm),.int .i64 u.i,.slice b u.args.length d] 24)):=by have r1:=F.of h1;unfold o36_0_1;go_simp
 have B25:=Blk.new w23 24 #[.int .i64 u.k,.string (str u.nm),.int .i64 u.i,.slice b u.args.length d];obtain ⟨w26,hw⟩:∃ x,x=w23.alloc (.cells #[.int .i64 u.k,.string (str u.nm),.int .i64 u.i,.slice b u.args.length d] 24):=⟨_,rfl⟩;rw [← hw] at Y B25;obtain ⟨b25,hb⟩:∃ x,x=w23.heap.size:=⟨_,rfl⟩;rw [← hb] at Y B25;have Nb22_b25:=nb_ hb B22;replace B22:=ba_ hw B22;have LK1_b25:=lk_ hb K1;replace K1:=ka_ hw K1;clear hw hb;refine swe_ rfl Y F fun a27 e F h3=>?_;clear Y;replace h2:=so_ e h2;clear e;have Y:Yv a27 o36_0_2 w26 (.bool false):=by unfold Yv o36_0_2;go_simp
 refine swe_ rfl Y F fun a28 e F h4=>?_;clear Y;have⟨h2,h3⟩:=s2_ e h2 h3;clear e;refine st_end ?_;clear h0;clear h1;have R:=F.r;clear F;refine wp_seq (x:=c36_3) (y:=c36_10) ?_;refine wp_seq (x:=c36_4) (y:=c36_5) ?_;refine reg_in (l:=[0,1,2,3,4,5,6,7]) rfl ?_;have F:=fe_ R;clear R;refine sw_ rfl (yf0_ rfl (F.of h2)) F fun a29 F h5=>?_;refine sw_ rfl (yk0_ rfl h5 B22) F fun a30 F h6=>?_;clear h5;have Y:Yv a30 o36_1_2 w26 (.bool false):=by have hk:=HZ.out.1;unfold Yv o36_1_2;go_simp
 refine sw_ rfl Y F fun a31 F h7=>?_;clear Y h6;refine sw_ rfl (ym_ rfl h7) F fun a32 F h8=>?_;clear h7;refine st_val rfl rfl (wanted_is (j:=3) (d:=8) rfl rfl h8 rfl) (yf0_ rfl (F.of h3)) fun a33 e=>?_;have h9:=pt_ F e;replace F:=pu_ F e;replace h8:=so_ e h8;clear e;refine st_val rfl rfl (wanted_is (j:=3) (d:=8) rfl rfl h8 rfl) (yk0_ rfl h9 B25) fun a34 e=>?_;clear h9;have h10:=pt_ F e;replace F:=pu_ F e;replace h8:=so_ e h8;clear e;have Y:Yv a34 o36_1_6 w26 (.bool false):=by have hk:=HZ.out.2;unfold Yv o36_1_6;go_simp
 refine st_val rfl rfl (wanted_is (j:=3) (d:=8) rfl rfl h8 rfl) Y fun a35 e=>?_;clear Y;clear h10;have h11:=pt_ F e;replace F:=pu_ F e;replace h8:=so_ e h8;clear e;have Y:Yv a35 o36_1_7 w26 (.bool false):=by unfold Yv o36_1_7;go_simp
 refine sw_ rfl Y F fun a36 F h12=>?_;clear Y h8 h11;refine st_end ?_;have⟨h2,h3,h4⟩:=F.o3 h2 h3 h4;have R:=F.r;clear F;refine wp_cond_false (x:=c36_6) (y:=Code.skip) (eval_slot h12) ?_;refine wp_skip ?_;refine wp_seq (x:=c36_11) (y:=Code.ret) ?_;refine reg_in (l:=[0,1,2,3]) rfl ?_;have F:=fe_ R;clear R;refine sw_ rfl (yl4_ rfl (F.of h2) B22) F fun a37 F h18=>?_;refine swe_ rfl (yl4_ rfl (F.of h3) B25) F fun a38 e F h19=>?_;replace h18:=so_ e h18;clear e;refine st_call rfl rfl (wanted_free rfl) (yc2_ en36_38 rfl h18 h19) ((refsame_sx (HT.out.on K1) (HU.out.on K1) HR.out.1 HR.out.2.1 HR.out.2.2).mono ?_);rintro e9 w39 ⟨rfl,kk⟩;replace K1:=keep_onto K1 kk;replace B22:=blk_on B22 kk;replace B25:=blk_on B25 kk;clear kk;refine ⟨_,rfl,fun a40 e=>?_⟩;clear h18 h19;have h20:=pt_ F e;replace F:=pu_ F e;clear e;refine sw_ rfl (ya_ rfl h20) F fun a41 F h4=>?_;clear h20;refine st_end ?_;clear h2;clear h3;clear h12;have R:=F.r;clear F;refine wp_ret ?_;change bodyPost Try.prog Try.f11 (fun e w'=>e=.returned (.bool true)∧Keep (fun g=>g < W.heap.size) W w') .ret a41 w39;refine ret_one rfl R h4 ?_;exact ⟨rfl,K1⟩
theorem right_kind {t:Tm} (h:t.right=true):¬ t.k=0:=fun e=>by
  rcases Tm.ok_kind (right_of.1 h).1 with h | h | h | h <;> omega
theorem refLike_any {W:World} {t u:Tm} {a b:Option Addr} {c d:Nat} (hT:TmAt W.heap.size W t a c) (hU:TmAt W.heap.size W u b d) (h:(t.k=0∧u.k=0)∨(t.right=true∧u.right=true∧t.tree=u.tree)):Calls Try.prog 11 #[tv t a c,tv u b d] W fun e w'=>e=.returned (.bool true)∧Keep (fun g=>g < W.heap.size) W w':=by
  refine enter_sx Try.func11 body36 rfl (by show (2:Nat) ≤ 21;decide) fun f0 R hs=>?_;rcases h with h | h
  · exact like_z R (hs 0 _ rfl) (hs 1 _ rfl) (Keep.refl _ W) (Lib.hid h)
  · exact like_r R (hs 0 _ rfl) (hs 1 _ rfl) (Keep.refl _ W) (Lib.hid ⟨right_kind h.1,right_kind h.2.1⟩) (Lib.hid hT) (Lib.hid hU) (Lib.hid h)
def o43_0_0:Oper:=⟨some 4,.assign (.const (.bool false)),4, "ref.go:131",#[],none⟩
def O43_0:Array Oper:=#[o43_0_0]
def c43_1:Code:=.region 0 O43_0 false
def o43_1_0:Oper:=⟨some 6,.move (.tmp 0),22, "ref.go:132",#[],none⟩
def o43_1_1:Oper:=⟨some 7,.call { callee:=.builtin .len,args:=#[.tmp 6],argTypes:=#[22] },3, "ref.go:132",#[ed_ 0],none⟩
def o43_1_2:Oper:=⟨some 8,.move (.tmp 1),22, "ref.go:132",#[],none⟩
def o43_1_3:Oper:=⟨some 9,.call { callee:=.builtin .len,args:=#[.tmp 8],argTypes:=#[22] },3, "ref.go:132",#[ed_ 2],none⟩
def o43_1_4:Oper:=⟨some 10,.binOp .neq 3 (.tmp 7) (.tmp 9) 3,4, "ref.go:132",#[ed_ 1,ed_ 3],none⟩
def O43_1:Array Oper:=#[o43_1_0,o43_1_1,o43_1_2,o43_1_3,o43_1_4]
def c43_4:Code:=.region 1 O43_1 false
def o43_2_0:Oper:=⟨some 4,.assign (.const (.bool false)),4, "ref.go:133",#[],none⟩
def O43_2:Array Oper:=#[o43_2_0]
def c43_7:Code:=.region 2 O43_2 false
def c43_6:Code:=.seq c43_7 Code.ret
def c43_5:Code:=.cond (Operand.tmp 10) c43_6 Code.skip
def c43_3:Code:=.seq c43_4 c43_5
def o43_3_0:Oper:=⟨some 5,.assign (.const (.int .i64 0)),3, "ref.go:135",#[],none⟩
def O43_3:Array Oper:=#[o43_3_0]
def c43_12:Code:=.region 3 O43_3 false
def o43_4_0:Oper:=⟨some 11,.move (.tmp 5),3, "ref.go:135",#[],none⟩
def o43_4_1:Oper:=⟨some 12,.move (.tmp 0),22, "ref.go:135",#[],none⟩
def o43_4_2:Oper:=⟨some 13,.call { callee:=.builtin .len,args:=#[.tmp 12],argTypes:=#[22] },3, "ref.go:135",#[ed_ 1],none⟩
def o43_4_3:Oper:=⟨some 14,.binOp .lss 3 (.tmp 11) (.tmp 13) 3,4, "ref.go:135",#[ed_ 0,ed_ 2],none⟩
def O43_4:Array Oper:=#[o43_4_0,o43_4_1,o43_4_2,o43_4_3]
def c43_17:Code:=.region 4 O43_4 false
def c43_20:Code:=.exit 0
def c43_18:Code:=.cond (Operand.tmp 14) Code.skip c43_20
def c43_16:Code:=.seq c43_17 c43_18
def o43_6_0:Oper:=⟨some 17,.move (.tmp 0),22, "ref.go:136",#[],none⟩
def o43_6_1:Oper:=⟨some 18,.move (.tmp 5),3, "ref.go:136",#[],none⟩
def o43_6_2:Oper:=⟨some 19,.indexAddr 22 (.tmp 17) (.tmp 18),0, "ref.go:136",#[ed_ 0,ed_ 1],none⟩
def o43_6_3:Oper:=⟨some 20,.load 24 (.tmp 19),24, "ref.go:136",#[ed_ 2],none⟩
def o43_6_4:Oper:=⟨some 21,.move (.tmp 1),22, "ref.go:136",#[],none⟩
def o43_6_5:Oper:=⟨some 22,.move (.tmp 5),3, "ref.go:136",#[],none⟩
def o43_6_6:Oper:=⟨some 23,.indexAddr 22 (.tmp 21) (.tmp 22),0, "ref.go:136",#[ed_ 4,ed_ 5],none⟩
def o43_6_7:Oper:=⟨some 24,.load 24 (.tmp 23),24, "ref.go:136",#[ed_ 6],none⟩
def o43_6_8:Oper:=⟨some 25,.call { callee:=.value (.func 15),args:=#[.tmp 20,.tmp 24],argTypes:=#[24,24] },4, "ref.go:136",#[ed_ 3,ed_ 7],none⟩
def o43_6_9:Oper:=⟨some 26,.unOp .not 4 (.tmp 25),4, "ref.go:136",#[ed_ 8],none⟩
def O43_6:Array Oper:=#[o43_6_0,o43_6_1,o43_6_2,o43_6_3,o43_6_4,o43_6_5,o43_6_6,o43_6_7,o43_6_8,o43_6_9]
theorem ns43_6:Region.noSelect O43_6=true:=by kernel_rfl
def c43_24:Code:=.region 6 O43_6 true
def o43_7_0:Oper:=⟨some 4,.assign (.const (.bool false)),4, "ref.go:137",#[],none⟩
def O43_7:Array Oper:=#[o43_7_0]
def c43_27:Code:=.region 7 O43_7 false
def c43_26:Code:=.seq c43_27 Code.ret
def c43_25:Code:=.cond (Operand.tmp 26) c43_26 Code.skip
def c43_23:Code:=.seq c43_24 c43_25
def c43_22:Code:=.block 1 c43_23
def o43_5_0:Oper:=⟨some 15,.move (.tmp 5),3, "ref.go:135",#[],none⟩
def o43_5_1:Oper:=⟨some 16,.binOp .add 3 (.tmp 15) (.const (.int .i64 1)) 3,3, "ref.go:135",#[ed_ 0],none⟩
def o43_5_2:Oper:=⟨some 5,.assign (.tmp 16),3, "ref.go:135",#[ed_ 1,ep_ 0,ep_ 1],none⟩
def O43_5:Array Oper:=#[o43_5_0,o43_5_1,o43_5_2]
def c43_30:Code:=.region 5 O43_5 false
def c43_21:Code:=.seq c43_22 c43_30
def c43_15:Code:=.seq c43_16 c43_21
def c43_14:Code:=.loop c43_15
def c43_13:Code:=.block 0 c43_14
def c43_11:Code:=.seq c43_12 c43_13
def o43_8_0:Oper:=⟨some 4,.assign (.const (.bool true)),4, "ref.go:140",#[],none⟩
def O43_8:Array Oper:=#[o43_8_0]
def c43_32:Code:=.region 8 O43_8 false
def c43_31:Code:=.seq c43_32 Code.ret
def c43_10:Code:=.seq c43_11 c43_31
def c43_2:Code:=.seq c43_3 c43_10
def c43_0:Code:=.seq c43_1 c43_2
theorem en43_38:Enters Try.prog 15:=enters_of Try.func15 (by kernel_rfl) rfl
theorem body43:Try.f20.body=some c43_0:=by kernel_rfl
set_option maxRecDepth 100000 in
set_option maxHeartbeats 4000000 in
theorem sall_w {W:World} {sa sb:Option Addr} {sc sd:Nat} {ps qs:List TP} {f0:Act} {w0:World} (R:FrS 27 f0) (h0:f0.tmps[0]? = some (.slice sa ps.length sc)) (h1:f0.tmps[1]? = some (.slice sb qs.length sd)) (K1:Keep (fun g=>g < W.heap.size) W w0)  (HS:Hid (TmSl W.heap.size W sa ps)) (HC:Hid (TmSl W.heap.size W sb qs)) (HL:Hid (ps.length=qs.length)) (HLN:Hid (ps.length ≤ 1000000)) (HA:Hid (∀ (j:Nat) (p q:TP),ps[j]? = some p→qs[j]? = some q→p.1.right=true∧q.1.right=true∧p.1.tree=q.1.tree)):c43_0.wp Try.prog (bodyPost Try.prog Try.f20 (fun e w'=>e=.returned (.bool true)∧Keep (fun g=>g < W.heap.size) W w')) f0 w0:=by
 refine wp_seq (x:=c43_1) (y:=c43_2) ?_;refine reg_in (l:=[0]) rfl ?_;have F:=fe_ R;clear R;have Y:Yv f0 o43_0_0 w0 (.bool false):=by unfold Yv o43_0_0;go_simp
 refine sw_ rfl Y F fun a1 F h4=>?_;clear Y;refine st_end ?_;have⟨h0,h1⟩:=F.o2 h0 h1;have R:=F.r;clear F;refine wp_seq (x:=c43_3) (y:=c43_10) ?_;refine wp_seq (x:=c43_4) (y:=c43_5) ?_;refine reg_in (l:=[0,1,2,3,4]) rfl ?_;have F:=fe_ R;clear R;refine sw_ rfl (ym_ rfl (F.of h0)) F fun a2 F h6=>?_;have Y:Yv a2 o43_1_1 w0 (.int .i64 ps.length):=by unfold Yv o43_1_1;go_simp
 refine sw_ rfl Y F fun a3 F h7=>?_;clear Y h6;refine swe_ rfl (ym_ rfl (F.of h1)) F fun a4 e F h8=>?_;replace h7:=so_ e h7;clear e;have Y:Yv a4 o43_1_3 w0 (.int .i64 qs.length):=by unfold Yv o43_1_3;go_simp
 refine swe_ rfl Y F fun a5 e F h9=>?_;clear Y h8;replace h7:=so_ e h7;clear e;have Y:Yv a5 o43_1_4 w0 (.bool false):=by have hl:=HL.out;unfold Yv o43_1_4;go_simp
 refine sw_ rfl Y F fun a6 F h10=>?_;clear Y h7 h9;refine st_end ?_;have⟨h0,h1,h4⟩:=F.o3 h0 h1 h4;have R:=F.r;clear F;refine wp_cond_false (x:=c43_6) (y:=Code.skip) (eval_slot h10) ?_;refine wp_skip ?_;refine wp_seq (x:=c43_11) (y:=c43_31) ?_;refine wp_seq (x:=c43_12) (y:=c43_13) ?_;refine reg_in (l:=[0]) rfl ?_;have F:=fe_ R;clear R;have Y:Yv a6 o43_3_0 w0 (.int .i64 0):=by unfold Yv o43_3_0;go_simp
 refine sw_ rfl Y F fun a7 F h5=>?_;clear Y;refine st_end ?_;have⟨h0,h1,h4⟩:=F.o3 h0 h1 h4;clear h10;have R:=F.r;clear F;refine wp_block (id:=0) (c:=c43_14) ?_;refine wp_loop_ghost (c:=c43_15) (fun n fX wX=>∃ j:Nat,n=ps.length - j∧FrS 27 fX∧fX.tmps[0]? = some (.slice sa ps.length sc)∧fX.tmps[1]? = some (.slice sb qs.length sd)∧fX.tmps[4]? = some (.bool false)∧fX.tmps[5]? = some (.int .i64 (j:Int))∧Keep (fun g=>g < W.heap.size) W wX∧j ≤ ps.length) (ps.length - 0) ⟨0,rfl,R,h0,h1,h4,h5,K1,Nat.zero_le _⟩ ?_;clear R h0 h1 h4 h5 K1;rintro n10 a8 w9 ⟨j,rfl,R,h0,h1,h4,h5,K1,hj⟩;have hn:=HLN.out;refine wp_seq (x:=c43_16) (y:=c43_21) ?_;refine wp_seq (x:=c43_17) (y:=c43_18) ?_;refine reg_in (l:=[0,1,2,3]) rfl ?_;have F:=fe_ R;clear R;refine sw_ rfl (ym_ rfl (F.of h5)) F fun a11 F h11=>?_;refine swe_ rfl (ym_ rfl (F.of h0)) F fun a12 e F h12=>?_;replace h11:=so_ e h11;clear e;have Y:Yv a12 o43_4_2 w9 (.int .i64 ps.length):=by unfold Yv o43_4_2;go_simp
 refine swe_ rfl Y F fun a13 e F h13=>?_;clear Y;have⟨h11,h12⟩:=s2_ e h11 h12;clear e;obtain ⟨b14,hb14⟩:∃ x,(decide ((j:Int) < (ps.length:Int)))=x:=⟨_,rfl⟩;have Y:Yv a13 o43_4_3 w9 (.bool b14):=by rw [← hb14];unfold Yv o43_4_3;go_simp
 refine swe_ rfl Y F fun a15 e F h14=>?_;clear Y;have⟨h11,h12,h13⟩:=s3_ e h11 h12 h13;clear e;refine st_end ?_;have⟨h0,h1,h4,h5⟩:=F.o4 h0 h1 h4 h5;have R:=F.r;clear F;cases b14 with
 | false =>
  have fb14:=hb14;clear hb14;simp only [dd_] at fb14;refine wp_cond_false (x:=Code.skip) (y:=c43_20) (eval_slot h14) ?_;refine wp_exit ?_;refine wp_seq (x:=c43_32) (y:=Code.ret) ?_;refine reg_in (l:=[0]) rfl ?_;have F:=fe_ R;clear R;have Y:Yv a15 o43_8_0 w9 (.bool true):=by unfold Yv o43_8_0;go_simp
  refine sw_ rfl Y F fun a16 F h4=>?_;clear Y;refine st_end ?_;have⟨h0,h1,h5,h11,h12,h13⟩:=F.o6 h0 h1 h5 h11 h12 h13;replace h14:=F.of h14;have R:=F.r;clear F;refine wp_ret ?_;change bodyPost Try.prog Try.f20 (fun e w'=>e=.returned (.bool true)∧Keep (fun g=>g < W.heap.size) W w') .ret a16 w9;refine ret_one rfl R h4 ?_;exact ⟨rfl,K1⟩
 | true =>
  have fb14:=hb14;clear hb14;simp only [dd_] at fb14;refine wp_cond_true (x:=Code.skip) (y:=c43_20) (eval_slot h14) ?_;refine wp_skip ?_;refine wp_seq (x:=c43_22) (y:=c43_30) ?_;refine wp_block (id:=1) (c:=c43_23) ?_;refine wp_seq (x:=c43_24) (y:=c43_25) ?_;change (Code.region 6 O43_6 true).wp _ _ _ _;have K17:=(Keep.refl (fun g=>g < w9.heap.size) w9).drew;have EK1:=K1;refine dr_in (S:=(fun W=>Keep (fun g=>g < w9.heap.size) w9 W)) (n:=10) (l:=lb_ 10 0) (by kernel_rfl) K17 rfl (by kernel_rfl) ?_;replace K1:=K1.drew;generalize w9.drew=w18 at K17 K1 ⊢;have F:=fe_ R;clear R;refine dt_ (i:=0) (l':=(lb_ 10 1)) rfl rfl ns43_6 (wanted_free rfl) K17 (fun _ _=>(ym_ rfl (F.of h0))) fun a19 e=>?_;have h17:=pt_ F e;replace F:=pu_ F e;clear e;refine dt_ (i:=1) (l':=(lb_ 10 3)) rfl rfl ns43_6 (wanted_free rfl) K17 (fun _ _=>(ym_ rfl (F.of h5))) fun a20 e=>?_;have h18:=pt_ F e;replace F:=pu_ F e;replace h17:=so_ e h17;clear e;refine dt_ (i:=4) (l':=(lb_ 10 19)) rfl rfl ns43_6 (wanted_free rfl) K17 (fun _ _=>(ym_ rfl (F.of h1))) fun a21 e=>?_;have h21:=pt_ F e;replace F:=pu_ F e;have⟨h17,h18⟩:=s2_ e h17 h18;clear e;refine dt_ (i:=5) (l':=(lb_ 10 51)) rfl rfl ns43_6 (wanted_free rfl) K17 (fun _ _=>(ym_ rfl (F.of h5))) fun a22 e=>?_;have h22:=pt_ F e;replace F:=pu_ F e;have⟨h17,h18,h21⟩:=s3_ e h17 h18 h21;clear e;refine dr_two (i:=2) (k:=6) (fuel:=5) (by kernel_rfl) ?_ ?_
  ·
   obtain ⟨p,hp⟩:∃ p,ps[j]? = some p:=⟨_,List.getElem?_eq_getElem (by omega)⟩;have hjc:j < qs.length:=by rw [← HL.out];omega
   obtain ⟨q,hq⟩:∃ q,qs[j]? = some q:=⟨_,List.getElem?_eq_getElem hjc⟩;obtain ⟨bA,oA,hsA,-⟩:=tmsl_addr HS.out (show j < ps.length by omega);obtain ⟨bB,oB,hsB,-⟩:=tmsl_addr HC.out hjc;have hltA:(j:Int) < (ps.length:Int):=by omega
   have hltB:(j:Int) < (qs.length:Int):=by omega
   have HP:=Lib.hid hp;clear hp;have HQ:=Lib.hid hq;clear hq;have HSA:=Lib.hid hsA;clear hsA;have HSB:=Lib.hid hsB;clear hsB;have Y:Yv a22 o43_6_2 w18 (.pointer (some ⟨bA,oA + j * 4,none⟩)):=by have hA:=HSA.out;unfold Yv o43_6_2;go_simp
   refine dr_val (l':=(lb_ 10 55)) rfl rfl (by kernel_rfl) (wanted_free rfl) Y K17 fun a23 e=>?_;clear Y;have h19:=pt_ F e;replace F:=pu_ F e;have⟨h17,h18,h21,h22⟩:=s4_ e h17 h18 h21 h22;clear e;have Y:∀ W,Keep (fun g=>g < w9.heap.size) w9 W→(execOp a23.eval o43_6_3).run Try.prog W=.ok (.value (.agg #[.int .i64 p.1.k,.string (str p.1.nm),.int .i64 p.1.i,.slice p.2.1 p.1.args.length p.2.2])) W:=by intro W7 hS;obtain ⟨⟨c0,c1,c2,c3⟩,-⟩:=tmsl_at (tmsl_on HS.out (keep_onto EK1 hS)) HSA.out HP.out;unfold o43_6_3;go_simp
   refine dt_ (i:=3) (l':=(lb_ 10 63)) rfl rfl ns43_6 (wanted_free rfl) K17 Y fun a24 e=>?_;clear Y;have h20:=pt_ F e;replace F:=pu_ F e;have⟨h17,h18,h19,h21⟩:=s4_ e h17 h18 h19 h21;replace h22:=so_ e h22;clear e;refine dr_only (i:=6) (fuel:=3) (by kernel_rfl) ?_;have Y:Yv a24 o43_6_6 w18 (.pointer (some ⟨bB,oB + j * 4,none⟩)):=by have hA:=HSB.out;unfold Yv o43_6_6;go_simp
   refine dr_val (l':=(lb_ 10 127)) rfl rfl (by kernel_rfl) (wanted_free rfl) Y K17 fun a25 e=>?_;clear Y;have h23:=pt_ F e;replace F:=pu_ F e;have⟨h17,h18,h19,h20,h21,h22⟩:=s6_ e h17 h18 h19 h20 h21 h22;clear e;have Y:∀ W,Keep (fun g=>g < w9.heap.size) w9 W→(execOp a25.eval o43_6_7).run Try.prog W=.ok (.value (.agg #[.int .i64 q.1.k,.string (str q.1.nm),.int .i64 q.1.i,.slice q.2.1 q.1.args.length q.2.2])) W:=by intro W7 hS;obtain ⟨⟨c0,c1,c2,c3⟩,-⟩:=tmsl_at (tmsl_on HC.out (keep_onto EK1 hS)) HSB.out HQ.out;unfold o43_6_7;go_simp
   refine dt_ (i:=7) (l':=(lb_ 10 255)) rfl rfl ns43_6 (wanted_free rfl) K17 Y fun a26 e=>?_;clear Y;have h24:=pt_ F e;replace F:=pu_ F e;have⟨h17,h18,h19,h20,h21,h22⟩:=s6_ e h17 h18 h19 h20 h21 h22;replace h23:=so_ e h23;clear e;refine dr_only (i:=8) (fuel:=1) (by kernel_rfl) ?_;refine dr_call (l':=(lb_ 10 511)) rfl rfl (by kernel_rfl) (wanted_free rfl) (yc2_ en43_38 rfl h20 h24) ((refsame_sx (tmsl_at (tmsl_on HS.out K1) HSA.out HP.out).2 (tmsl_at (tmsl_on HC.out K1) HSB.out HQ.out).2 (HA.out j p q HP.out HQ.out).1 (HA.out j p q HP.out HQ.out).2.1 (HA.out j p q HP.out HQ.out).2.2).mono ?_);rintro e9 w27 ⟨rfl,kk⟩;replace K1:=keep_onto K1 kk;replace K17:=keep_onto K17 kk;clear kk;refine ⟨_,rfl,K17,fun a28 e=>?_⟩;have h25:=pt_ F e;replace F:=pu_ F e;have⟨h17,h18,h19,h20,h21,h22,h23,h24⟩:=s8_ e h17 h18 h19 h20 h21 h22 h23 h24;clear e;have Y:∀ W,Keep (fun g=>g < w9.heap.size) w9 W→(execOp a28.eval o43_6_9).run Try.prog W=.ok (.value (.bool false)) W:=by intro W7 hS;unfold o43_6_9;go_simp
   refine dt_ (i:=9) (l':=(lb_ 10 1023)) rfl rfl ns43_6 (wanted_free rfl) K17 Y fun a29 e=>?_;clear Y;have h26:=pt_ F e;replace F:=pu_ F e;have⟨h17,h18,h19,h20,h21,h22,h23,h24⟩:=s8_ e h17 h18 h19 h20 h21 h22 h23 h24;replace h25:=so_ e h25;clear e;refine dr_end (by kernel_rfl) ?_;have⟨h0,h1,h4,h5,h11,h12,h13,h14⟩:=F.o8 h0 h1 h4 h5 h11 h12 h13 h14;have R:=F.r;clear F;clear K17 EK1;refine wp_cond_false (x:=c43_26) (y:=Code.skip) (eval_slot h26) ?_;refine wp_skip ?_;change (c43_30).wp _ _ _ _;refine reg_in (l:=[0,1,2]) rfl ?_;have F:=fe_ R;clear R;refine sw_ rfl (ym_ rfl (F.of h5)) F fun a30 F h15=>?_;have Y:Yv a30 o43_5_1 w27 (.int .i64 ((j:Int) + 1)):=by have hwj:IntKind.i64.wrap ((j:Int) + 1)=(j:Int) + 1:=(by rw [IntKind.wrap_i64];omega);unfold Yv o43_5_1;go_simp
   refine swe_ rfl Y F fun a31 e F h16=>?_;clear Y;replace h15:=so_ e h15;clear e;refine swe_ rfl (ya_ rfl h16) F fun a32 e F h5=>?_;have⟨h15,h16⟩:=s2_ e h15 h16;clear e;refine st_end ?_;have⟨h0,h1,h4,h11,h12,h13,h14,h17⟩:=F.o8 h0 h1 h4 h11 h12 h13 h14 h17;have⟨h18,h19,h20,h21,h22,h23,h24,h25⟩:=F.o8 h18 h19 h20 h21 h22 h23 h24 h25;replace h26:=F.of h26;have R:=F.r;clear F;exact ⟨_,by omega,j + 1,rfl,R,h0,h1,h4,h5,K1,(by omega)⟩
  ·
   obtain ⟨p,hp⟩:∃ p,ps[j]? = some p:=⟨_,List.getElem?_eq_getElem (by omega)⟩;have hjc:j < qs.length:=by rw [← HL.out];omega
   obtain ⟨q,hq⟩:∃ q,qs[j]? = some q:=⟨_,List.getElem?_eq_getElem hjc⟩;obtain ⟨bA,oA,hsA,-⟩:=tmsl_addr HS.out (show j < ps.length by omega);obtain ⟨bB,oB,hsB,-⟩:=tmsl_addr HC.out hjc;have hltA:(j:Int) < (ps.length:Int):=by omega
   have hltB:(j:Int) < (qs.length:Int):=by omega
   have HP:=Lib.hid hp;clear hp;have HQ:=Lib.hid hq;clear hq;have HSA:=Lib.hid hsA;clear hsA;have HSB:=Lib.hid hsB;clear hsB;have Y:Yv a22 o43_6_6 w18 (.pointer (some ⟨bB,oB + j * 4,none⟩)):=by have hA:=HSB.out;unfold Yv o43_6_6;go_simp
   refine dr_val (l':=(lb_ 10 115)) rfl rfl (by kernel_rfl) (wanted_free rfl) Y K17 fun a33 e=>?_;clear Y;have h23:=pt_ F e;replace F:=pu_ F e;have⟨h17,h18,h21,h22⟩:=s4_ e h17 h18 h21 h22;clear e;have Y:∀ W,Keep (fun g=>g < w9.heap.size) w9 W→(execOp a33.eval o43_6_7).run Try.prog W=.ok (.value (.agg #[.int .i64 q.1.k,.string (str q.1.nm),.int .i64 q.1.i,.slice q.2.1 q.1.args.length q.2.2])) W:=by intro W7 hS;obtain ⟨⟨c0,c1,c2,c3⟩,-⟩:=tmsl_at (tmsl_on HC.out (keep_onto EK1 hS)) HSB.out HQ.out;unfold o43_6_7;go_simp
   refine dt_ (i:=7) (l':=(lb_ 10 243)) rfl rfl ns43_6 (wanted_free rfl) K17 Y fun a34 e=>?_;clear Y;have h24:=pt_ F e;replace F:=pu_ F e;have⟨h17,h18,h21,h22⟩:=s4_ e h17 h18 h21 h22;replace h23:=so_ e h23;clear e;refine dr_only (i:=2) (fuel:=3) (by kernel_rfl) ?_;have Y:Yv a34 o43_6_2 w18 (.pointer (some ⟨bA,oA + j * 4,none⟩)):=by have hA:=HSA.out;unfold Yv o43_6_2;go_simp
   refine dr_val (l':=(lb_ 10 247)) rfl rfl (by kernel_rfl) (wanted_free rfl) Y K17 fun a35 e=>?_;clear Y;have h19:=pt_ F e;replace F:=pu_ F e;have⟨h17,h18,h21,h22,h23,h24⟩:=s6_ e h17 h18 h21 h22 h23 h24;clear e;have Y:∀ W,Keep (fun g=>g < w9.heap.size) w9 W→(execOp a35.eval o43_6_3).run Try.prog W=.ok (.value (.agg #[.int .i64 p.1.k,.string (str p.1.nm),.int .i64 p.1.i,.slice p.2.1 p.1.args.length p.2.2])) W:=by intro W7 hS;obtain ⟨⟨c0,c1,c2,c3⟩,-⟩:=tmsl_at (tmsl_on HS.out (keep_onto EK1 hS)) HSA.out HP.out;unfold o43_6_3;go_simp
   refine dt_ (i:=3) (l':=(lb_ 10 255)) rfl rfl ns43_6 (wanted_free rfl) K17 Y fun a36 e=>?_;clear Y;have h20:=pt_ F e;replace F:=pu_ F e;have⟨h17,h18,h19,h21,h22,h23⟩:=s6_ e h17 h18 h19 h21 h22 h23;replace h24:=so_ e h24;clear e;refine dr_only (i:=8) (fuel:=1) (by kernel_rfl) ?_;refine dr_call (l':=(lb_ 10 511)) rfl rfl (by kernel_rfl) (wanted_free rfl) (yc2_ en43_38 rfl h20 h24) ((refsame_sx (tmsl_at (tmsl_on HS.out K1) HSA.out HP.out).2 (tmsl_at (tmsl_on HC.out K1) HSB.out HQ.out).2 (HA.out j p q HP.out HQ.out).1 (HA.out j p q HP.out HQ.out).2.1 (HA.out j p q HP.out HQ.out).2.2).mono ?_);rintro e9 w37 ⟨rfl,kk⟩;replace K1:=keep_onto K1 kk;replace K17:=keep_onto K17 kk;clear kk;refine ⟨_,rfl,K17,fun a38 e=>?_⟩;have h25:=pt_ F e;replace F:=pu_ F e;have⟨h17,h18,h19,h20,h21,h22,h23,h24⟩:=s8_ e h17 h18 h19 h20 h21 h22 h23 h24;clear e;have Y:∀ W,Keep (fun g=>g < w9.heap.size) w9 W→(execOp a38.eval o43_6_9).run Try.prog W=.ok (.value (.bool false)) W:=by intro W7 hS;unfold o43_6_9;go_simp
   refine dt_ (i:=9) (l':=(lb_ 10 1023)) rfl rfl ns43_6 (wanted_free rfl) K17 Y fun a39 e=>?_;clear Y;have h26:=pt_ F e;replace F:=pu_ F e;have⟨h17,h18,h19,h20,h21,h22,h23,h24⟩:=s8_ e h17 h18 h19 h20 h21 h22 h23 h24;replace h25:=so_ e h25;clear e;refine dr_end (by kernel_rfl) ?_;have⟨h0,h1,h4,h5,h11,h12,h13,h14⟩:=F.o8 h0 h1 h4 h5 h11 h12 h13 h14;have R:=F.r;clear F;clear K17 EK1;refine wp_cond_false (x:=c43_26) (y:=Code.skip) (eval_slot h26) ?_;refine wp_skip ?_;change (c43_30).wp _ _ _ _;refine reg_in (l:=[0,1,2]) rfl ?_;have F:=fe_ R;clear R;refine sw_ rfl (ym_ rfl (F.of h5)) F fun a40 F h15=>?_;have Y:Yv a40 o43_5_1 w37 (.int .i64 ((j:Int) + 1)):=by have hwj:IntKind.i64.wrap ((j:Int) + 1)=(j:Int) + 1:=(by rw [IntKind.wrap_i64];omega);unfold Yv o43_5_1;go_simp
   refine swe_ rfl Y F fun a41 e F h16=>?_;clear Y;replace h15:=so_ e h15;clear e;refine swe_ rfl (ya_ rfl h16) F fun a42 e F h5=>?_;have⟨h15,h16⟩:=s2_ e h15 h16;clear e;refine st_end ?_;have⟨h0,h1,h4,h11,h12,h13,h14,h17⟩:=F.o8 h0 h1 h4 h11 h12 h13 h14 h17;have⟨h18,h19,h20,h21,h22,h23,h24,h25⟩:=F.o8 h18 h19 h20 h21 h22 h23 h24 h25;replace h26:=F.of h26;have R:=F.r;clear F;exact ⟨_,by omega,j + 1,rfl,R,h0,h1,h4,h5,K1,(by omega)⟩
theorem refSameAll_any {W:World} {sa sb:Option Addr} {sc sd:Nat} {ps qs:List TP} (hS:TmSl W.heap.size W sa ps) (hC:TmSl W.heap.size W sb qs) (hl:ps.length=qs.length) (hn:ps.length ≤ 1000000) (hA:∀ (j:Nat) (p q:TP),ps[j]? = some p→qs[j]? = some q→p.1.right=true∧q.1.right=true∧p.1.tree=q.1.tree):Calls Try.prog 20 #[.slice sa ps.length sc,.slice sb qs.length sd] W fun e w'=>e=.returned (.bool true)∧Keep (fun g=>g < W.heap.size) W w':=by
  refine enter_sx Try.func20 body43 rfl (by show (2:Nat) ≤ 27;decide) fun f0 R hs=>?_;exact sall_w R (hs 0 _ rfl) (hs 1 _ rfl) (Keep.refl _ W) (Lib.hid hS) (Lib.hid hC) (Lib.hid hl) (Lib.hid hn) (Lib.hid hA)
end Go.Proofs.Ytjinmnekfhekpaa
