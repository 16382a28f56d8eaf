/-
  The document's Rename and Variant: walked with letter frames. No condition but where the terms lie.
-/
import Derived.Test.YtjinmnekfhekpaaQTp9
import Derived.Test.YtjinmnekfhekpaaQSx12
import Derived.Test.YtjinmnekfhekpaaQSx6
namespace Go.Proofs.Ytjinmnekfhekpaa
open Go.RowKit Go.Maps
set_option linter.unusedVariables false
set_option linter.unusedSimpArgs false
theorem push_bd {w w':World} {B b2 c2:Nat} {v:Value} {ms:List BP} {q:BP} {ty:TypeId} (h:w.ownsRow B 29 5 v ms.length (ms.flatMap bcells)) (hB:B ≤ w.heap.size) (k:Keep (fun g=>g < w.heap.size) w w') (hb:Blk w' b2 29 (bcells q).toArray) (hn:ms.length < 100000) :
    ∃ va vc w3,(Builtin.append_ #[25,25] ty #[v,.slice (some ⟨b2,0,none⟩) 1 c2]).run Try.prog w'=.ok (.slice va (ms ++ [q]).length vc) w3∧w3.ownsRow B 29 5 (.slice va (ms ++ [q]).length vc) (ms ++ [q]).length ((ms ++ [q]).flatMap bcells)∧Keep (fun g=>g < B) w' w3:=by
  obtain ⟨v',w3,ha,hr,hk⟩:=append_bd (ty:=ty) (c2:=c2) (row_kept h k) hb (by omega) (Nat.le_trans hB k.size);rcases hr.2 with ⟨_,h0⟩ | ⟨g,cap,cur,e,_⟩
  · exact absurd h0 (by simp)
  · subst e;exact ⟨_,_,w3,ha,hr,hk⟩
theorem bdK_wf {w:World} {B:Nat} {m:Int} {l:List Int} {n:Nat} (h1:1 ≤ m) (h2:m ≤ 4611686018427387904) (hn:n ≤ 4000) (hl:∀ k,k < n→(ik (l.getD k 0)).wf=true):∀ q ∈ bdK m l n,(ik q.1).wf=true∧TmAt B w q.2.1 q.2.2.1 q.2.2.2:=fun q hq=>by
  obtain ⟨k,hk,rfl⟩:=List.mem_map.1 hq;have hk:=List.mem_range.1 hk;exact ⟨hl k hk,tm_leaf (by decide) (ik_wf (by omega) (by omega)) (by simp)⟩
theorem vars_wf {w:World} {t:Tm} {a:Option Addr} {c B:Nat} (hT:TmAt B w t a c) (hr:t.right=true):∀ k,k < t.tree.vars.length→(ik (t.tree.vars.getD k 0)).wf=true:=fun k hk=>by
  refine var_wf (w:=w) (B:=B) ⟨a,c,hT⟩ hr ?_;rw [List.getD_eq_getElem?_getD,List.getElem?_eq_getElem hk];exact List.getElem_mem hk
def o37_0_0:Oper:=⟨some 2,.box 24 (.tmp 0),0, "ref.go:387",#[],none⟩
def o37_0_1:Oper:=⟨some 4,.alloc 24,0, "ref.go:387",#[],none⟩
def o37_0_2:Oper:=⟨some 5,.assign (.const (.int .i64 0)),2, "ref.go:387",#[],none⟩
def O37_0:Array Oper:=#[o37_0_0,o37_0_1,o37_0_2]
def c37_1:Code:=.region 0 O37_0 false
def o37_1_0:Oper:=⟨some 9,.load 24 (.tmp 2),24, "ref.go:388",#[],none⟩
def o37_1_1:Oper:=⟨some 10,.call { callee:=.value (.func 50),args:=#[.tmp 9],argTypes:=#[24] },56, "ref.go:388",#[ed_ 0],none⟩
def o37_1_2:Oper:=⟨some 6,.assign (.tmp 10),56, "ref.go:388",#[ed_ 1,ec_ 1,ep_ 0,ep_ 1],none⟩
def O37_1:Array Oper:=#[o37_1_0,o37_1_1,o37_1_2]
def c37_3:Code:=.region 1 O37_1 false
def o37_2_0:Oper:=⟨some 11,.buildSlice 25 0 #[],25, "ref.go:389",#[],none⟩
def o37_2_1:Oper:=⟨some 7,.assign (.tmp 11),25, "ref.go:389",#[ed_ 0,ep_ 0],none⟩
def O37_2:Array Oper:=#[o37_2_0,o37_2_1]
def c37_5:Code:=.region 2 O37_2 false
def o37_3_0:Oper:=⟨some 8,.assign (.const (.int .i64 0)),3, "ref.go:390",#[],none⟩
def O37_3:Array Oper:=#[o37_3_0]
def c37_8:Code:=.region 3 O37_3 false
def o37_4_0:Oper:=⟨some 12,.move (.tmp 8),3, "ref.go:390",#[],none⟩
def o37_4_1:Oper:=⟨some 13,.move (.tmp 6),56, "ref.go:390",#[],none⟩
def o37_4_2:Oper:=⟨some 14,.call { callee:=.builtin .len,args:=#[.tmp 13],argTypes:=#[56] },3, "ref.go:390",#[ed_ 1],none⟩
def o37_4_3:Oper:=⟨some 15,.binOp .lss 3 (.tmp 12) (.tmp 14) 3,4, "ref.go:390",#[ed_ 0,ed_ 2],none⟩
def O37_4:Array Oper:=#[o37_4_0,o37_4_1,o37_4_2,o37_4_3]
def c37_13:Code:=.region 4 O37_4 false
def c37_16:Code:=.exit 0
def c37_14:Code:=.cond (Operand.tmp 15) Code.skip c37_16
def c37_12:Code:=.seq c37_13 c37_14
def o37_6_0:Oper:=⟨some 18,.move (.tmp 7),25, "ref.go:391",#[],none⟩
def o37_6_1:Oper:=⟨some 19,.move (.tmp 6),56, "ref.go:391",#[],none⟩
def o37_6_2:Oper:=⟨some 20,.move (.tmp 8),3, "ref.go:391",#[],none⟩
def o37_6_3:Oper:=⟨some 21,.indexAddr 56 (.tmp 19) (.tmp 20),0, "ref.go:391",#[ed_ 1,ed_ 2],none⟩
def o37_6_4:Oper:=⟨some 22,.load 2 (.tmp 21),2, "ref.go:391",#[ed_ 3],none⟩
def o37_6_5:Oper:=⟨some 23,.move (.tmp 1),2, "ref.go:391",#[],none⟩
def o37_6_6:Oper:=⟨some 24,.move (.tmp 8),3, "ref.go:391",#[],none⟩
def o37_6_7:Oper:=⟨some 25,.binOp .add 2 (.tmp 23) (.tmp 24) 2,2, "ref.go:391",#[ed_ 5,ed_ 6],none⟩
def o37_6_8:Oper:=⟨some 26,.build 24 #[(0,.const (.int .i64 1)),(2,.tmp 25)],24, "ref.go:391",#[ed_ 7],none⟩
def o37_6_9:Oper:=⟨some 27,.build 29 #[(0,.tmp 22),(1,.tmp 26)],29, "ref.go:391",#[ed_ 4,ed_ 8],none⟩
def o37_6_10:Oper:=⟨some 28,.buildSlice 25 1 #[(0,.tmp 27)],25, "ref.go:391",#[ed_ 9],none⟩
def o37_6_11:Oper:=⟨some 29,.call { callee:=.builtin .append,args:=#[.tmp 18,.tmp 28],argTypes:=#[25,25] },25, "ref.go:391",#[ed_ 0,ed_ 10],none⟩
def o37_6_12:Oper:=⟨some 7,.assign (.tmp 29),25, "ref.go:391",#[ed_ 11,ec_ 11,ep_ 0,ep_ 1,ep_ 2,ep_ 3,ep_ 4,ep_ 5,ep_ 6,ep_ 7,ep_ 8,ep_ 9,ep_ 10,ep_ 11],none⟩
def O37_6:Array Oper:=#[o37_6_0,o37_6_1,o37_6_2,o37_6_3,o37_6_4,o37_6_5,o37_6_6,o37_6_7,o37_6_8,o37_6_9,o37_6_10,o37_6_11,o37_6_12]
def c37_19:Code:=.region 6 O37_6 false
def c37_18:Code:=.block 1 c37_19
def o37_5_0:Oper:=⟨some 16,.move (.tmp 8),3, "ref.go:390",#[],none⟩
def o37_5_1:Oper:=⟨some 17,.binOp .add 3 (.tmp 16) (.const (.int .i64 1)) 3,3, "ref.go:390",#[ed_ 0],none⟩
def o37_5_2:Oper:=⟨some 8,.assign (.tmp 17),3, "ref.go:390",#[ed_ 1,ep_ 0,ep_ 1],none⟩
def O37_5:Array Oper:=#[o37_5_0,o37_5_1,o37_5_2]
def c37_20:Code:=.region 5 O37_5 false
def c37_17:Code:=.seq c37_18 c37_20
def c37_11:Code:=.seq c37_12 c37_17
def c37_10:Code:=.loop c37_11
def c37_9:Code:=.block 0 c37_10
def c37_7:Code:=.seq c37_8 c37_9
def o37_7_0:Oper:=⟨some 30,.load 24 (.tmp 2),24, "ref.go:393",#[],none⟩
def o37_7_1:Oper:=⟨some 31,.move (.tmp 7),25, "ref.go:393",#[],none⟩
def o37_7_2:Oper:=⟨some 32,.call { callee:=.value (.func 52),args:=#[.tmp 30,.tmp 31],argTypes:=#[24,25] },24, "ref.go:393",#[ed_ 0,ed_ 1],none⟩
def o37_7_3:Oper:=⟨some 33,.move (.tmp 1),2, "ref.go:393",#[{ on:=7,ground:=Go.Ground.gcOnly Go.Departure.lateStores }],none⟩
def o37_7_4:Oper:=⟨some 34,.move (.tmp 6),56, "ref.go:393",#[],none⟩
def o37_7_5:Oper:=⟨some 35,.call { callee:=.builtin .len,args:=#[.tmp 34],argTypes:=#[56] },3, "ref.go:393",#[ed_ 4],none⟩
def o37_7_6:Oper:=⟨some 36,.binOp .add 2 (.tmp 33) (.tmp 35) 2,2, "ref.go:393",#[ed_ 3,ed_ 5,{ on:=7,ground:=Go.Ground.gcOnly Go.Departure.lateStores }],none⟩
def o37_7_7:Oper:=⟨none,.store 24 (.tmp 4) (.tmp 32),0, "ref.go:393",#[ed_ 2,ec_ 2,ep_ 0,ep_ 1,ep_ 2,{ on:=3,ground:=Go.Ground.textOnly Go.Departure.lateStores },{ on:=4,ground:=Go.Ground.textOnly Go.Departure.lateStores },{ on:=5,ground:=Go.Ground.textOnly Go.Departure.lateStoresUnsure },{ on:=6,ground:=Go.Ground.textOnly Go.Departure.lateStores }],none⟩
def o37_7_8:Oper:=⟨some 5,.assign (.tmp 36),2, "ref.go:393",#[ed_ 6,ec_ 7,ep_ 0,ep_ 1,ep_ 2,ep_ 3,ep_ 4,ep_ 5,ep_ 6,ep_ 7],none⟩
def O37_7:Array Oper:=#[o37_7_0,o37_7_1,o37_7_2,o37_7_3,o37_7_4,o37_7_5,o37_7_6,o37_7_7,o37_7_8]
def c37_22:Code:=.region 7 O37_7 false
def c37_21:Code:=.seq c37_22 Code.ret
def c37_6:Code:=.seq c37_7 c37_21
def c37_4:Code:=.seq c37_5 c37_6
def c37_2:Code:=.seq c37_3 c37_4
def c37_0:Code:=.seq c37_1 c37_2
theorem en37_25:Enters Try.prog 50:=enters_of Try.func50 (by kernel_rfl) rfl
theorem en37_70:Enters Try.prog 52:=enters_of Try.func52 (by kernel_rfl) rfl
theorem body37:Try.f14.body=some c37_0:=by kernel_rfl
set_option maxRecDepth 100000 in
set_option maxHeartbeats 4000000 in
theorem rren_w {W:World} {t:Tm} {a:Option Addr} {c:Nat} {m:Int} {f0:Act} {w0:World} (R:FrS 37 f0) (h0:f0.tmps[0]? = some (.agg #[.int .i64 t.k,.string (str t.nm),.int .i64 t.i,.slice a t.args.length c])) (h1:f0.tmps[1]? = some (.int .i64 m)) (K1:Keep (fun g=>g < W.heap.size) W w0)  (HT:Hid (TmAt W.heap.size W t a c)) (HR:Hid (t.right=true)) (HM:Hid (1 ≤ m∧m ≤ 4611686018427387904)):c37_0.wp Try.prog (bodyPost Try.prog Try.f14 (fun e w'=>∃ a' c',e=.returned (.tuple #[tv (t.tree.ren m).tm a' c',.int .i64 (m + (t.tree.vars.length:Int))])∧Fr 0 (fun _=>False) w' W.heap.size w'.heap.size (t.tree.ren m).tm a' c'∧Keep (fun g=>g < W.heap.size) W w')) f0 w0:=by
 refine wp_seq (x:=c37_1) (y:=c37_2) ?_;refine reg_in (l:=[0,1,2]) rfl ?_;have F:=fe_ R;clear R;have Y:(execOp f0.eval o37_0_0).run Try.prog w0=.ok (.value (.pointer (some ⟨w0.heap.size,0,none⟩))) (w0.alloc (.cells #[.int .i64 t.k,.string (str t.nm),.int .i64 t.i,.slice a t.args.length c] 24)):=by have r0:=F.of h0;unfold o37_0_0;go_simp
 have B1:=Blk.new w0 24 #[.int .i64 t.k,.string (str t.nm),.int .i64 t.i,.slice a t.args.length c];obtain ⟨w2,hw⟩:∃ x,x=w0.alloc (.cells #[.int .i64 t.k,.string (str t.nm),.int .i64 t.i,.slice a t.args.length c] 24):=⟨_,rfl⟩;rw [← hw] at Y B1;obtain ⟨b1,hb⟩:∃ x,x=w0.heap.size:=⟨_,rfl⟩;rw [← hb] at Y B1;have LK1_b1:=lk_ hb K1;replace K1:=ka_ hw K1;clear hw hb;refine sw_ rfl Y F fun a3 F h2=>?_;clear Y;have Y:(execOp a3.eval o37_0_1).run Try.prog w2=.ok (.value (.pointer (some ⟨w2.heap.size,0,none⟩))) (w2.alloc (.cells #[.int .i64 0,.string (⟨#[]⟩),.int .i64 0,.slice none 0 0] 24)):=by unfold o37_0_1;go_simp
 have B4:=Blk.new w2 24 #[.int .i64 0,.string (⟨#[]⟩),.int .i64 0,.slice none 0 0];obtain ⟨w5,hw⟩:∃ x,x=w2.alloc (.cells #[.int .i64 0,.string (⟨#[]⟩),.int .i64 0,.slice none 0 0] 24):=⟨_,rfl⟩;rw [← hw] at Y B4;obtain ⟨b4,hb⟩:∃ x,x=w2.heap.size:=⟨_,rfl⟩;rw [← hb] at Y B4;have Nb1_b4:=nb_ hb B1;replace B1:=ba_ hw B1;have LK1_b4:=lk_ hb K1;replace K1:=ka_ hw K1;clear hw hb;refine swe_ rfl Y F fun a6 e F h4=>?_;clear Y;replace h2:=so_ e h2;clear e;have Y:Yv a6 o37_0_2 w5 (.int .i64 0):=by unfold Yv o37_0_2;go_simp
 refine swe_ rfl Y F fun a7 e F h5=>?_;clear Y;have⟨h2,h4⟩:=s2_ e h2 h4;clear e;refine st_end ?_;clear h0;replace h1:=F.of h1;have R:=F.r;clear F;refine wp_seq (x:=c37_3) (y:=c37_4) ?_;refine reg_in (l:=[0,1,2]) rfl ?_;have F:=fe_ R;clear R;refine sw_ rfl (yl4_ rfl (F.of h2) B1) F fun a8 F h9=>?_;have hVB:=K1.size;refine st_call rfl rfl (wanted_free rfl) (yc1_ en37_25 rfl h9) ((refVars_any (HT.out.on K1) (right_of.1 HR.out).1 (by have:=(right_of.1 HR.out).2.1;omega)).mono ?_);rintro e9 w9 ⟨ua,uc,rfl,hrow,kk⟩;replace K1:=keep_onto K1 kk;replace B1:=blk_on B1 kk;replace B4:=blk_on B4 kk;clear kk;obtain ⟨ua',uc',he9,hlg⟩:=row_longs hrow;injection he9 with e1 e2 e3;subst e1;subst e3;clear hrow e2 hVB
 have HLG:=Lib.hid hlg;clear hlg;have KV:=Keep.refl (fun g=>g < w9.heap.size) w9;refine ⟨_,rfl,fun a10 e=>?_⟩;clear h9;have h10:=pt_ F e;replace F:=pu_ F e;clear e;refine sw_ rfl (ya_ rfl h10) F fun a11 F h6=>?_;clear h10;refine st_end ?_;have⟨h1,h2,h4,h5⟩:=F.o4 h1 h2 h4 h5;have R:=F.r;clear F;refine wp_seq (x:=c37_5) (y:=c37_6) ?_;refine reg_in (l:=[0,1]) rfl ?_;have F:=fe_ R;clear R;have Y:(execOp a11.eval o37_2_0).run Try.prog w9=.ok (.value (.slice (some ⟨w9.heap.size,0,none⟩) 0 0)) (w9.alloc (.cells #[] 29)):=by unfold o37_2_0;go_simp
 have Gb1:b1 < w9.heap.size:=B1.lt;have Gb4:b4 < w9.heap.size:=B4.lt;have B12:=Blk.new w9 29 #[];have hbz:∃ q,q=w9.heap.size:=⟨_,rfl⟩;clear hbz;obtain ⟨w13,hw⟩:∃ x,x=w9.alloc (.cells #[] 29):=⟨_,rfl⟩;rw [← hw] at Y B12;obtain ⟨b12,hb⟩:∃ x,x=w9.heap.size:=⟨_,rfl⟩;rw [← hb] at Y B12 Gb1 Gb4;have Nb1_b12:=nb_ hb B1;replace B1:=ba_ hw B1;have HLT_b1:=Gb1;clear Gb1;have Nb4_b12:=nb_ hb B4;replace B4:=ba_ hw B4;have HLT_b4:=Gb4;clear Gb4;have LK1_b12:=lk_ hb K1;replace K1:=ka_ hw K1;have LKV_b12:=lk_ hb KV;replace KV:=ka_ hw KV;clear hw hb;refine sw_ rfl Y F fun a14 F h11=>?_;clear Y;refine sw_ rfl (ya_ rfl h11) F fun a15 F h7=>?_;clear h11;refine st_end ?_;have⟨h1,h2,h4,h5⟩:=F.o4 h1 h2 h4 h5;replace h6:=F.of h6;have R:=F.r;clear F;refine wp_seq (x:=c37_7) (y:=c37_21) ?_;refine wp_seq (x:=c37_8) (y:=c37_9) ?_;refine reg_in (l:=[0]) rfl ?_;have F:=fe_ R;clear R;have Y:Yv a15 o37_3_0 w13 (.int .i64 0):=by unfold Yv o37_3_0;go_simp
 refine sw_ rfl Y F fun a16 F h8=>?_;clear Y;refine st_end ?_;have⟨h1,h2,h4,h5,h6,h7⟩:=F.o6 h1 h2 h4 h5 h6 h7;have R:=F.r;clear F;refine wp_block (id:=0) (c:=c37_10) ?_;have HBR:Hid (w13.ownsRow b12 29 5 (.slice (some ⟨b12,0,none⟩) (bdK m t.tree.vars 0).length 0) (bdK m t.tree.vars 0).length ((bdK m t.tree.vars 0).flatMap bcells)):=Lib.hid (row_made0 B12 (Nat.le_refl _));have HLN:Hid (t.tree.vars.length ≤ 2000):=Lib.hid (Nat.le_trans (T.vars_len _) (Tm.tree_right (right_of.1 HR.out)).2.1);have hbs:b12 ≤ w13.heap.size:=Nat.le_of_lt B12.lt;have Eb1:b1 < b12:=HLT_b1;have Eb4:b4 < b12:=HLT_b4;clear B12;refine wp_loop_ghost (c:=c37_11) (fun n fX wX=>∃ i:Nat,∃ va:Option Addr,∃ vc:Nat,n=t.tree.vars.length - i∧FrS 37 fX∧fX.tmps[1]? = some (.int .i64 m)∧fX.tmps[2]? = some (.pointer (some ⟨b1,0,none⟩))∧fX.tmps[4]? = some (.pointer (some ⟨b4,0,none⟩))∧fX.tmps[5]? = some (.int .i64 0)∧fX.tmps[6]? = some (.slice ua t.tree.vars.length uc)∧fX.tmps[7]? = some (.slice va ((bdK m t.tree.vars i).length) vc)∧fX.tmps[8]? = some (.int .i64 (i:Int))∧Keep (fun g=>g < W.heap.size) W wX∧Keep (fun g=>g < w9.heap.size) w9 wX∧Blk wX b1 24 #[.int .i64 t.k,.string (str t.nm),.int .i64 t.i,.slice a t.args.length c]∧Blk wX b4 24 #[.int .i64 0,.string (⟨#[]⟩),.int .i64 0,.slice none 0 0]∧i ≤ t.tree.vars.length∧Hid (wX.ownsRow b12 29 5 (.slice va (bdK m t.tree.vars i).length vc) (bdK m t.tree.vars i).length ((bdK m t.tree.vars i).flatMap bcells))∧b12 ≤ wX.heap.size) (t.tree.vars.length - 0) ⟨0,some ⟨b12,0,none⟩,0,rfl,R,h1,h2,h4,h5,h6,h7,h8,K1,KV,B1,B4,Nat.zero_le _,HBR,hbs⟩ ?_;clear R h1 h2 h4 h5 h6 h7 h8 K1 KV B1 B4;rintro n19 a17 w18 ⟨i,va,vc,rfl,R,h1,h2,h4,h5,h6,h7,h8,K1,KV,B1,B4,hi,HBR,hbs⟩;have hl8:=HLN.out;have KR:=Keep.refl (fun g=>g < w18.heap.size) w18;refine wp_seq (x:=c37_12) (y:=c37_17) ?_;refine wp_seq (x:=c37_13) (y:=c37_14) ?_;refine reg_in (l:=[0,1,2,3]) rfl ?_;have F:=fe_ R;clear R;refine sw_ rfl (ym_ rfl (F.of h8)) F fun a20 F h12=>?_;refine swe_ rfl (ym_ rfl (F.of h6)) F fun a21 e F h13=>?_;replace h12:=so_ e h12;clear e;have Y:Yv a21 o37_4_2 w18 (.int .i64 t.tree.vars.length):=by unfold Yv o37_4_2;go_simp
 refine swe_ rfl Y F fun a22 e F h14=>?_;clear Y;have⟨h12,h13⟩:=s2_ e h12 h13;clear e;obtain ⟨b23,hb23⟩:∃ x,(decide ((i:Int) < (t.tree.vars.length:Int)))=x:=⟨_,rfl⟩;have Y:Yv a22 o37_4_3 w18 (.bool b23):=by rw [← hb23];unfold Yv o37_4_3;go_simp
 refine swe_ rfl Y F fun a24 e F h15=>?_;clear Y;have⟨h12,h13,h14⟩:=s3_ e h12 h13 h14;clear e;refine st_end ?_;have⟨h1,h2,h4,h5,h6,h7⟩:=F.o6 h1 h2 h4 h5 h6 h7;replace h8:=F.of h8;have R:=F.r;clear F;cases b23 with
 | false =>
  have fb23:=hb23;clear hb23;simp only [dd_] at fb23;refine wp_cond_false (x:=Code.skip) (y:=c37_16) (eval_slot h15) ?_;refine wp_exit ?_;refine wp_seq (x:=c37_22) (y:=Code.ret) ?_;refine reg_in (l:=[0,1,2,3,4,5,6,7,8]) rfl ?_;have F:=fe_ R;clear R;refine sw_ rfl (yl4_ rfl (F.of h2) B1) F fun a25 F h30=>?_;refine swe_ rfl (ym_ rfl (F.of h7)) F fun a26 e F h31=>?_;replace h30:=so_ e h30;clear e;have hi9:i=t.tree.vars.length:=by omega
  obtain ⟨sa,sc,he9,hbl,-⟩:=bsl_row (row_kept HBR.out KR) (bdK_wf HM.out.1 HM.out.2 (by have:=HLN.out;omega) (fun k hk=>vars_wf HT.out HR.out k (by omega)));injection he9 with e1 e2 e3;subst e1;subst e3;clear e2
  obtain ⟨LO,hLO⟩:∃ q,q=w18.heap.size:=⟨_,rfl⟩;have Fb1:b1 < LO:=by rw [hLO];exact B1.lt
  have Fb4:b4 < LO:=by rw [hLO];exact B4.lt
  have HWL:W.heap.size ≤ LO:=by rw [hLO];exact K1.size
  have hcall:=refapply_any (bdK m t.tree.vars i) (by rw [bdK_len];omega) (fun q hq=>by obtain ⟨k,_,rfl⟩:=List.mem_map.1 hq;show (Tm.node 1 [] _ []).ns ≤ 2000;rw [Tm.ns_eq,if_neg (show ¬ (Tm.node 1 [] (m + (k:Int)) []).k=4 from (by decide:¬ (1:Int)=4))];omega) t (right_of.1 HR.out).2.1 w18 a c va vc (HT.out.on K1) hbl;have hre:mapT (apL (bdK m t.tree.vars i)) t=(t.tree.ren m).tm:=by rw [hi9];exact ren_apply (right_of.1 HR.out).1 HM.out.1
  rw [hre] at hcall;clear hre hbl KV KR;refine st_call rfl rfl (wanted_free rfl) (yc2_ en37_70 rfl h30 h31) ((hcall).mono ?_);rintro e9 w27 ⟨a9,c9,rfl,hfr,kk⟩;replace K1:=keep_onto K1 kk;replace B1:=blk_on B1 kk;replace B4:=blk_on B4 kk;clear kk;clear hcall;rw [← hLO] at hfr;clear hLO;have HFC:=Lib.hid hfr;clear hfr;have KX:=Keep.refl (fun g=>LO ≤ g) w27;refine ⟨_,rfl,fun a28 e=>?_⟩;clear h30 h31;have h32:=pt_ F e;replace F:=pu_ F e;clear e;refine swe_ rfl (ym_ rfl (F.of h1)) F fun a29 e F h33=>?_;replace h32:=so_ e h32;clear e;refine swe_ rfl (ym_ rfl (F.of h6)) F fun a30 e F h34=>?_;have⟨h32,h33⟩:=s2_ e h32 h33;clear e;have Y:Yv a30 o37_7_5 w27 (.int .i64 t.tree.vars.length):=by unfold Yv o37_7_5;go_simp
  refine swe_ rfl Y F fun a31 e F h35=>?_;clear Y h34;have⟨h32,h33⟩:=s2_ e h32 h33;clear e;have Y:Yv a31 o37_7_6 w27 (.int .i64 (m + (t.tree.vars.length:Int))):=by have hwm:IntKind.i64.wrap (m + (t.tree.vars.length:Int))=m + (t.tree.vars.length:Int):=(by have h1:=HM.out;have h2:=HLN.out;rw [IntKind.wrap_i64];omega);unfold Yv o37_7_6;go_simp
  refine swe_ rfl Y F fun a32 e F h36=>?_;clear Y h33 h35;replace h32:=so_ e h32;clear e;obtain ⟨w33,Y,hk,hB⟩:=ys4_ (o:=o37_7_7) rfl (F.of h4) h32 B4;replace K1:=kx_ hk K1 (Nat.not_lt.2 LK1_b4);replace KX:=kx_ hk KX (Nat.not_le.2 Fb4);replace B1:=bx_ hk B1 Nb1_b4;clear B4;have B4:=hB;clear hB hk;refine st_skip rfl rfl (wanted_free rfl) Y ?_;clear Y;refine sw_ rfl (ya_ rfl h36) F fun a34 F h5=>?_;clear h32 h36;refine st_end ?_;replace h1:=F.of h1;clear h2;have⟨h4,h6,h7,h8,h12,h13,h14,h15⟩:=F.o8 h4 h6 h7 h8 h12 h13 h14 h15;have R:=F.r;clear F;refine wp_ret ?_;change bodyPost Try.prog Try.f14 (fun e w'=>∃ a' c',e=.returned (.tuple #[tv (t.tree.ren m).tm a' c',.int .i64 (m + (t.tree.vars.length:Int))])∧Fr 0 (fun _=>False) w' W.heap.size w'.heap.size (t.tree.ren m).tm a' c'∧Keep (fun g=>g < W.heap.size) W w') .ret a34 w33;refine ret_cell_tmp (fn:=Try.f14) rfl R h4 h5 B4 ?_;exact ⟨a9,c9,rfl,(fr_onB HFC.out KX).up KX.size HWL,K1⟩
 | true =>
  have fb23:=hb23;clear hb23;simp only [dd_] at fb23;refine wp_cond_true (x:=Code.skip) (y:=c37_16) (eval_slot h15) ?_;refine wp_skip ?_;refine wp_seq (x:=c37_18) (y:=c37_20) ?_;refine wp_block (id:=1) (c:=c37_19) ?_;refine reg_in (l:=[0,1,2,3,4,5,6,7,8,9,10,11,12]) rfl ?_;have F:=fe_ R;clear R;refine sw_ rfl (ym_ rfl (F.of h7)) F fun a35 F h18=>?_;refine swe_ rfl (ym_ rfl (F.of h6)) F fun a36 e F h19=>?_;replace h18:=so_ e h18;clear e;refine swe_ rfl (ym_ rfl (F.of h8)) F fun a37 e F h20=>?_;have⟨h18,h19⟩:=s2_ e h18 h19;clear e;obtain ⟨gA,oA,hg,-,hcA⟩:=longs_on HLG.out KV i (show i < t.tree.vars.length by omega);have HA:=Lib.hid hg;clear hg;have HCA:=Lib.hid hcA;clear hcA;have hltA:(i:Int) < (t.tree.vars.length:Int):=by omega
  have Y:Yv a37 o37_6_3 w18 (.pointer (some ⟨gA,oA + i,none⟩)):=by have hA:=HA.out;unfold Yv o37_6_3;go_simp
  refine swe_ rfl Y F fun a38 e F h21=>?_;clear Y;have⟨h18,h19,h20⟩:=s3_ e h18 h19 h20;clear e;obtain ⟨z,hz⟩:∃ q,t.tree.vars.getD i 0=q:=⟨_,rfl⟩;rw [hz] at HCA;have HZ:=Lib.hid hz;clear hz;have Y:Yv a38 o37_6_4 w18 (.int .i64 z):=by have hc:=HCA.out;unfold Yv o37_6_4;go_simp
  refine swe_ rfl Y F fun a39 e F h22=>?_;clear Y;have⟨h18,h19,h20,h21⟩:=s4_ e h18 h19 h20 h21;clear e;refine swe_ rfl (ym_ rfl (F.of h1)) F fun a40 e F h23=>?_;have⟨h18,h19,h20,h21⟩:=s4_ e h18 h19 h20 h21;replace h22:=so_ e h22;clear e;refine swe_ rfl (ym_ rfl (F.of h8)) F fun a41 e F h24=>?_;have⟨h18,h19,h20,h21,h22,h23⟩:=s6_ e h18 h19 h20 h21 h22 h23;clear e;have Y:Yv a41 o37_6_7 w18 (.int .i64 (m + (i:Int))):=by have hwm:IntKind.i64.wrap (m + (i:Int))=m + (i:Int):=(by have h1:=HM.out;rw [IntKind.wrap_i64];omega);unfold Yv o37_6_7;go_simp
  refine swe_ rfl Y F fun a42 e F h25=>?_;clear Y;have⟨h18,h19,h20,h21,h22,h23⟩:=s6_ e h18 h19 h20 h21 h22 h23;replace h24:=so_ e h24;clear e;have Y:Yv a42 o37_6_8 w18 (.agg #[.int .i64 1,.string (⟨#[]⟩),.int .i64 (m + (i:Int)),.slice none 0 0]):=by unfold Yv o37_6_8;go_simp
  refine swe_ rfl Y F fun a43 e F h26=>?_;clear Y;have⟨h18,h19,h20,h21,h22,h23,h24,h25⟩:=s8_ e h18 h19 h20 h21 h22 h23 h24 h25;clear e;have Y:Yv a43 o37_6_9 w18 (.agg #[.int .i64 z,.int .i64 1,.string (⟨#[]⟩),.int .i64 (m + (i:Int)),.slice none 0 0]):=by unfold Yv o37_6_9;go_simp
  refine swe_ rfl Y F fun a44 e F h27=>?_;clear Y;have⟨h18,h19,h20,h21,h22,h23,h24,h25⟩:=s8_ e h18 h19 h20 h21 h22 h23 h24 h25;replace h26:=so_ e h26;clear e;have Y:(execOp a44.eval o37_6_10).run Try.prog w18=.ok (.value (.slice (some ⟨w18.heap.size,0,none⟩) 1 1)) (w18.alloc (.cells #[.int .i64 z,.int .i64 1,.string (⟨#[]⟩),.int .i64 (m + (i:Int)),.slice none 0 0] 29)):=by unfold o37_6_10;go_simp
  have B45:=Blk.new w18 29 #[.int .i64 z,.int .i64 1,.string (⟨#[]⟩),.int .i64 (m + (i:Int)),.slice none 0 0];obtain ⟨w46,hw⟩:∃ x,x=w18.alloc (.cells #[.int .i64 z,.int .i64 1,.string (⟨#[]⟩),.int .i64 (m + (i:Int)),.slice none 0 0] 29):=⟨_,rfl⟩;rw [← hw] at Y B45;obtain ⟨b45,hb⟩:∃ x,x=w18.heap.size:=⟨_,rfl⟩;rw [← hb] at Y B45;have Nb1_b45:=nb_ hb B1;replace B1:=ba_ hw B1;have Nb4_b45:=nb_ hb B4;replace B4:=ba_ hw B4;have LK1_b45:=lk_ hb K1;replace K1:=ka_ hw K1;have LKV_b45:=lk_ hb KV;replace KV:=ka_ hw KV;have LKR_b45:=lk_ hb KR;replace KR:=ka_ hw KR;clear hw hb;refine swe_ rfl Y F fun a47 e F h28=>?_;clear Y;have⟨h18,h19,h20,h21,h22,h23,h24,h25⟩:=s8_ e h18 h19 h20 h21 h22 h23 h24 h25;have⟨h26,h27⟩:=s2_ e h26 h27;clear e;obtain ⟨va2,vc2,w8,hap,hrw,kap⟩:=push_bd (ty:=o37_6_11.type) (c2:=1) (q:=(z,.node 1 [] (m + (i:Int)) [],none,0)) HBR.out (Nat.le_trans hbs (Nat.le_refl _)) KR B45 (by rw [bdK_len];omega);rw [← HZ.out,← bdK_succ] at hap hrw;have Y:(execOp a47.eval o37_6_11).run Try.prog w46=.ok (.value (.slice va2 (bdK m t.tree.vars (i + 1)).length vc2)) w8:=by
   unfold o37_6_11 at hap ⊢;unfold execOp;simp only [resolve,invoke,builtin,Sem.run_bind,Sem.run_pure,Result.andThen_ok,List.map_toArray,List.map_cons,List.map_nil,eval_slot h18,eval_slot h28];rw [hap];rfl
  have HBR2:=Lib.hid hrw;clear HBR hrw hap;have HBR:=HBR2;clear HBR2;replace K1:=K1.trans (kap.less fun g hg=>Nat.lt_of_lt_of_le hg LK1_b12);replace KV:=KV.trans (kap.less fun g hg=>Nat.lt_of_lt_of_le hg LKV_b12);replace hbs:=Nat.le_trans hbs (Nat.le_trans KR.size kap.size);clear KR;replace B1:=B1.keep kap Eb1;replace B4:=B4.keep kap Eb4;clear B45;clear kap;refine swe_ rfl Y F fun a48 e F h29=>?_;clear Y;have⟨h18,h19,h20,h21,h22,h23,h24,h25⟩:=s8_ e h18 h19 h20 h21 h22 h23 h24 h25;have⟨h26,h27,h28⟩:=s3_ e h26 h27 h28;clear e;refine swe_ rfl (ya_ rfl h29) F fun a49 e F h7=>?_;have⟨h18,h19,h20,h21,h22,h23,h24,h25⟩:=s8_ e h18 h19 h20 h21 h22 h23 h24 h25;have⟨h26,h27,h28,h29⟩:=s4_ e h26 h27 h28 h29;clear e;refine st_end ?_;have⟨h1,h2,h4,h5,h6,h8,h12,h13⟩:=F.o8 h1 h2 h4 h5 h6 h8 h12 h13;have⟨h14,h15⟩:=F.o2 h14 h15;have R:=F.r;clear F;change (c37_20).wp _ _ _ _;refine reg_in (l:=[0,1,2]) rfl ?_;have F:=fe_ R;clear R;refine sw_ rfl (ym_ rfl (F.of h8)) F fun a50 F h16=>?_;have Y:Yv a50 o37_5_1 w8 (.int .i64 ((i:Int) + 1)):=by have hwj:IntKind.i64.wrap ((i:Int) + 1)=(i:Int) + 1:=(by rw [IntKind.wrap_i64];omega);unfold Yv o37_5_1;go_simp
  refine swe_ rfl Y F fun a51 e F h17=>?_;clear Y;replace h16:=so_ e h16;clear e;refine swe_ rfl (ya_ rfl h17) F fun a52 e F h8=>?_;have⟨h16,h17⟩:=s2_ e h16 h17;clear e;refine st_end ?_;have⟨h1,h2,h4,h5,h6,h7,h12,h13⟩:=F.o8 h1 h2 h4 h5 h6 h7 h12 h13;have⟨h14,h15,h18,h19,h20,h21,h22,h23⟩:=F.o8 h14 h15 h18 h19 h20 h21 h22 h23;have⟨h24,h25,h26,h27,h28,h29⟩:=F.o6 h24 h25 h26 h27 h28 h29;have R:=F.r;clear F;exact ⟨_,by omega,i + 1,va2,vc2,rfl,R,h1,h2,h4,h5,h6,h7,h8,K1,KV,B1,B4,(by omega),HBR,hbs⟩
theorem refRename_any {W:World} {t:Tm} {a:Option Addr} {c:Nat} {m:Int} (hT:TmAt W.heap.size W t a c) (hr:t.right=true) (h1:1 ≤ m) (h2:m ≤ 4611686018427387904):Calls Try.prog 14 #[tv t a c,.int .i64 m] W fun e w'=>∃ a' c',e=.returned (.tuple #[tv (t.tree.ren m).tm a' c',.int .i64 (m + (t.tree.vars.length:Int))])∧Fr 0 (fun _=>False) w' W.heap.size w'.heap.size (t.tree.ren m).tm a' c'∧Keep (fun g=>g < W.heap.size) W w':=by
  refine enter_sx Try.func14 body37 rfl (by show (2:Nat) ≤ 37;decide) fun f0 R hs=>?_;exact rren_w R (hs 0 _ rfl) (hs 1 _ rfl) (Keep.refl _ W) (Lib.hid hT) (Lib.hid hr) (Lib.hid ⟨h1,h2⟩)
end Go.Proofs.Ytjinmnekfhekpaa
