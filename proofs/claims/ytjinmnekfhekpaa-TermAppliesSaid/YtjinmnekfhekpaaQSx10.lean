/-
  The law's own tame; the document's Size up to a greater bound. No condition but where the terms lie.
-/
import Derived.Test.YtjinmnekfhekpaaQSx7
import Derived.Test.YtjinmnekfhekpaaQSx2
namespace Go.Proofs.Ytjinmnekfhekpaa
open Go.RowKit Go.Maps
set_option linter.unusedVariables false
set_option linter.unusedSimpArgs false
set_option maxRecDepth 100000 in
set_option maxHeartbeats 4000000 in
theorem refSize3_any:∀ (t:Tm) (m:Nat),m ≤ 100000→∀ (w:World) (a:Option Addr) (c:Nat),TmAt w.heap.size w t a c →
    Calls Try.prog 42 #[tv t a c,.int .i64 m] w fun e w'=>e=.returned (.int .i64 ((min t.ns (m + 1):Nat):Int))∧Keep (fun g=>g < w.heap.size) w w':=by
  intro t;induction t using Tm.ind with
  | h kd nm i args ih =>
    intro m hm w a c hT;have hargs:args.length ≤ maxLen:=by cases hT;assumption
    unfold maxLen at hargs;have k0:Keep (fun g=>g < w.heap.size) w (w.alloc (tb (.node kd nm i args) a c)):=(Keep.refl _ w).alloc _;have hb:=Blk.new w 24 #[.int .i64 (Tm.node kd nm i args).k,.string (str (Tm.node kd nm i args).nm),.int .i64 (Tm.node kd nm i args).i,.slice a (Tm.node kd nm i args).args.length c];have HT:=Lib.hid hT;clear hT;unfold tb at k0;have HK:=Lib.hid (And.intro k0 hb);clear k0 hb;have HIH:=Lib.hid ih;clear ih;obtain ⟨dv,hdv⟩:∃ dv,dv=min (Tm.node kd nm i args).ns (m + 1):=⟨_,rfl⟩;rw [← hdv];have HD:=Lib.hid hdv;clear hdv;unfold tv;simp only [Tm.k,Tm.nm,Tm.i,Tm.args] at HK ⊢;by_cases h4:kd=4
    · subst h4;have hd:dv=min (1 + nsL args) (m + 1):=by rw [HD.out,Tm.ns_eq,if_pos (show (Tm.node 4 nm i args).k=4 from rfl)];rfl
      have HD2:=Lib.hid hd;clear hd;obtain ⟨len,hln⟩:∃ len,len=args.length:=⟨_,rfl⟩;rw [← hln] at HK hargs ⊢;have HLN:=Lib.hid hln;clear hln
      go_enter Try.func42,Try.ntmps42
      go_wp2_with fail
      go_loopw [5,6] (fun n i' wr=>∃ j:Nat,j ≤ len∧i'=.int .i64 j∧n=.int .i64 ((min (1 + nsL (args.take j)) (m + 1):Nat):Int)∧Keep (fun g=>g < w.heap.size + 1) (w.alloc (.cells #[.int .i64 4,.string (str nm),.int .i64 i,.slice a len c] 24)) wr) (fun _ i' _=>len - (intOf i').toNat)
      case atStart=>exact ⟨0,Nat.zero_le _,rfl,by rw [List.take_zero,nsL_nil,Nat.min_eq_left (by omega)];rfl,Keep.refl _ _⟩
      case round =>
        obtain ⟨j,hj,rfl,rfl,hkr⟩:=hrel;obtain ⟨k0,hb⟩:=HK.out;have hbr:=hb.keep hkr (by omega);have c3:=hbr.cell 3;simp at c3;have lb:=hbr.lt;obtain ⟨n,hn⟩:∃ n,n=min (1 + nsL (args.take j)) (m + 1):=⟨_,rfl⟩;rw [← hn];have hnm:n ≤ m + 1:=by omega
        have HN:=Lib.hid hn;clear hn;have kw:Keep (fun g=>g < w.heap.size) w wr:=k0.trans (hkr.less (fun g hg=>by omega));by_cases hlj:j < len
        · by_cases hnn:n ≤ m
          · have hjl:j < args.length:=by rw [← HLN.out];exact hlj
            obtain ⟨x,hx⟩:∃ x,args[j]? = some x:=⟨_,List.getElem?_eq_getElem hjl⟩;have hTr:TmAt w.heap.size wr (.node 4 nm i args) a c:=HT.out.keepX kw (fun _ h=>h);obtain ⟨b,off,ax,cx,rfl,hbB,hTx,u0,u1,u2,u3⟩:=hTr.arg hx;simp only [← Nat.add_assoc] at u0 u1 u2 u3;have hcall:=HIH.out x (List.mem_of_getElem? hx) (m - n) (by omega) wr ax cx (hTx.up (by omega));have hsn:min (1 + nsL (args.take (j + 1))) (m + 1)=n + min x.ns (m - n + 1):=by
              rw [List.take_succ_eq_append_getElem hjl,nsL_append,nsL_cons,nsL_nil];rw [List.getElem?_eq_getElem hjl] at hx;rw [Option.some.inj hx];have:=HN.out;omega
            have hwj:IntKind.i64.wrap ((j:Int) + 1)=(j:Int) + 1:=by rw [IntKind.wrap_i64];omega
            have hwm:IntKind.i64.wrap ((m:Int) - (n:Int))=((m - n:Nat):Int):=by rw [IntKind.wrap_i64];omega
            have HKR:=Lib.hid hkr;have HSN:=Lib.hid hsn;clear hsn;have HLJ:=Lib.hid hlj;have hbw:b < wr.heap.size:=by omega
            unfold tv at hcall;have HC:=Lib.hid hcall;clear hcall;clear hkr hbr hTr hTx kw k0 hb hx;have hmn:(m:Int) - (n:Int)=((m - n:Nat):Int):=by omega
            obtain ⟨y,hy⟩:∃ y,y=min x.ns (m - n + 1):=⟨_,rfl⟩;rw [← hy] at HC HSN;have hyl:y ≤ m - n + 1:=by omega
            clear hy;have hwy:IntKind.i64.wrap ((n:Int) + (y:Int))=((n + y:Nat):Int):=by rw [IntKind.wrap_i64];omega
            go_wp2_with fail
            refine HC.out.mono ?_;rintro e w5 ⟨rfl,k5⟩;have HK5:=Lib.hid (HKR.out.trans (k5.less (fun g hg=>by have:=HKR.out.size;simp at this;omega)));clear HC k5 HKR u0 u1 u2 u3 c3 lb hbw
            go_wp2_with fail
            go_roundw
            case rel=>exact ⟨j + 1,(by have:=HLJ.out;omega),by go_num,(by rw [HSN.out];first | rfl | (push_cast;rfl) | simp),HK5.out⟩
            case measure=>have:=HLJ.out;simp [intOf];omega
          · have hnm1:n=m + 1:=by omega
            have hdv:dv=n:=by
              rw [HD2.out];have h1:=nsL_take_le args j;have h2:=HN.out;omega
            have HE:=Lib.hid kw;clear hbr hkr k0 hb kw HD HD2 HIH hnm;subst hdv;have hltz:¬ (dv:Int) ≤ (m:Int):=by omega
            go_wp2_with fail
            go_ret
            exact ⟨rfl,HE.out⟩
        · have hjl:j=len:=by omega
          have hdv:dv=n:=by
            rw [HD2.out,HN.out,hjl,HLN.out,List.take_length]
          have HE:=Lib.hid kw;clear hbr hkr k0 hb kw HD HD2 HIH hnm;subst hdv
          go_wp2_with fail
          go_ret
          exact ⟨rfl,HE.out⟩
    · have hd:dv=1:=by rw [HD.out,Tm.ns_eq,if_neg (show ¬ (Tm.node kd nm i args).k=4 from h4)];omega
      subst hd;obtain ⟨k0,hb⟩:=HK.out;have HE:=Lib.hid k0;clear k0 hb HK HD HIH;have hbne:(kd == 4)=false:=by simpa using h4
      go_enter Try.func42,Try.ntmps42
      go_wp2_with fail
      go_ret
      exact ⟨by simp,HE.out⟩
theorem refsize_sx {w:World} {t:Tm} {a:Option Addr} {c m:Nat} {z mi:Int} (hT:TmAt w.heap.size w t a c) (hm:m ≤ 100000) (hmi:(m:Int)=mi) (hz:((min t.ns (m + 1):Nat):Int)=z) :
    Calls Try.prog 42 #[tv t a c,.int .i64 mi] w fun e w'=>e=.returned (.int .i64 z)∧Keep (fun g=>g < w.heap.size) w w':=by
  subst hmi;subst hz;exact refSize3_any t m hm w a c hT
def o33_0_0:Oper:=⟨some 2,.assign (.const (.bool false)),4, "law.go:30",#[],none⟩
def O33_0:Array Oper:=#[o33_0_0]
def c33_1:Code:=.region 0 O33_0 false
def o33_1_0:Oper:=⟨some 5,.move (.tmp 0),22, "law.go:31",#[],none⟩
def o33_1_1:Oper:=⟨some 6,.call { callee:=.builtin .len,args:=#[.tmp 5],argTypes:=#[22] },3, "law.go:31",#[ed_ 0],none⟩
def o33_1_2:Oper:=⟨some 7,.move (.const (.int .i64 0)),3, "law.go:31",#[],none⟩
def O33_1:Array Oper:=#[o33_1_0,o33_1_1,o33_1_2]
def c33_4:Code:=.region 1 O33_1 false
def o33_2_0:Oper:=⟨some 8,.binOp .lss 3 (.tmp 7) (.tmp 6) 3,0, "law.go:31",#[],none⟩
def O33_2:Array Oper:=#[o33_2_0]
def c33_8:Code:=.region 2 O33_2 false
def c33_12:Code:=.exit 0
def c33_10:Code:=.cond (Operand.tmp 8) Code.skip c33_12
def o33_3_0:Oper:=⟨some 9,.indexAddr 22 (.tmp 5) (.tmp 7),0, "law.go:31",#[],none⟩
def o33_3_1:Oper:=⟨some 10,.load 24 (.tmp 9),24, "law.go:31",#[ed_ 0],none⟩
def o33_3_2:Oper:=⟨some 4,.alloc 24,0, "law.go:31",#[],none⟩
def o33_3_3:Oper:=⟨none,.store 24 (.tmp 4) (.tmp 10),0, "law.go:31",#[ed_ 2,ed_ 1,ep_ 0,ep_ 1,ep_ 2],none⟩
def O33_3:Array Oper:=#[o33_3_0,o33_3_1,o33_3_2,o33_3_3]
def c33_16:Code:=.region 3 O33_3 false
def o33_4_0:Oper:=⟨some 11,.load 24 (.tmp 4),24, "law.go:32",#[],none⟩
def o33_4_1:Oper:=⟨some 12,.call { callee:=.value (.func 42),args:=#[.tmp 11,.const (.int .i64 100)],argTypes:=#[24,3] },3, "law.go:32",#[ed_ 0],none⟩
def o33_4_2:Oper:=⟨some 13,.binOp .gtr 3 (.tmp 12) (.const (.int .i64 100)) 3,4, "law.go:32",#[ed_ 1],none⟩
def O33_4:Array Oper:=#[o33_4_0,o33_4_1,o33_4_2]
def c33_18:Code:=.region 4 O33_4 false
def o33_5_0:Oper:=⟨some 2,.assign (.const (.bool false)),4, "law.go:33",#[],none⟩
def O33_5:Array Oper:=#[o33_5_0]
def c33_21:Code:=.region 5 O33_5 false
def c33_20:Code:=.seq c33_21 Code.ret
def c33_19:Code:=.cond (Operand.tmp 13) c33_20 Code.skip
def c33_17:Code:=.seq c33_18 c33_19
def c33_15:Code:=.seq c33_16 c33_17
def c33_14:Code:=.block 1 c33_15
def o33_6_0:Oper:=⟨some 14,.binOp .add 3 (.tmp 7) (.const (.int .i64 1)) 3,3, "law.go:31",#[],none⟩
def o33_6_1:Oper:=⟨some 7,.move (.tmp 14),3, "law.go:31",#[ed_ 0],none⟩
def O33_6:Array Oper:=#[o33_6_0,o33_6_1]
def c33_24:Code:=.region 6 O33_6 false
def c33_13:Code:=.seq c33_14 c33_24
def c33_9:Code:=.seq c33_10 c33_13
def c33_7:Code:=.seq c33_8 c33_9
def c33_6:Code:=.loop c33_7
def c33_5:Code:=.block 0 c33_6
def c33_3:Code:=.seq c33_4 c33_5
def o33_7_0:Oper:=⟨some 2,.assign (.const (.bool true)),4, "law.go:36",#[],none⟩
def O33_7:Array Oper:=#[o33_7_0]
def c33_26:Code:=.region 7 O33_7 false
def c33_25:Code:=.seq c33_26 Code.ret
def c33_2:Code:=.seq c33_3 c33_25
def c33_0:Code:=.seq c33_1 c33_2
theorem body33:Try.f7.body=some c33_0:=by kernel_rfl
set_option maxRecDepth 100000 in
set_option maxHeartbeats 4000000 in
theorem tame_w {W:World} {sa:Option Addr} {sc:Nat} {ps:List TP} {f0:Act} {w0:World} (R:FrS 15 f0) (h0:f0.tmps[0]? = some (.slice sa ps.length sc)) (K1:Keep (fun g=>g < W.heap.size) W w0)  (HS:Hid (TmSl W.heap.size W sa ps)) (HLN:Hid (ps.length ≤ 1000000)):c33_0.wp Try.prog (bodyPost Try.prog Try.f7 (fun e w'=>e=.returned (.bool (decide (∀ p ∈ ps,p.1.ns ≤ 100)))∧Keep (fun g=>g < W.heap.size) W w')) f0 w0:=by
 refine wp_seq (x:=c33_1) (y:=c33_2) ?_;refine reg_in (l:=[0]) rfl ?_;have F:=fe_ R;clear R;have Y:Yv f0 o33_0_0 w0 (.bool false):=by unfold Yv o33_0_0;go_simp
 refine sw_ rfl Y F fun a1 F h2=>?_;clear Y;refine st_end ?_;replace h0:=F.of h0;have R:=F.r;clear F;refine wp_seq (x:=c33_3) (y:=c33_25) ?_;refine wp_seq (x:=c33_4) (y:=c33_5) ?_;refine reg_in (l:=[0,1,2]) rfl ?_;have F:=fe_ R;clear R;refine sw_ rfl (ym_ rfl (F.of h0)) F fun a2 F h5=>?_;have Y:Yv a2 o33_1_1 w0 (.int .i64 ps.length):=by unfold Yv o33_1_1;go_simp
 refine swe_ rfl Y F fun a3 e F h6=>?_;clear Y;replace h5:=so_ e h5;clear e;have Y:Yv a3 o33_1_2 w0 (.int .i64 0):=by unfold Yv o33_1_2;go_simp
 refine swe_ rfl Y F fun a4 e F h7=>?_;clear Y;have⟨h5,h6⟩:=s2_ e h5 h6;clear e;refine st_end ?_;clear h0;replace h2:=F.of h2;have R:=F.r;clear F;refine wp_block (id:=0) (c:=c33_6) ?_;refine wp_loop_ghost (c:=c33_7) (fun n fX wX=>∃ j:Nat,n=ps.length - j∧FrS 15 fX∧fX.tmps[2]? = some (.bool false)∧fX.tmps[5]? = some (.slice sa ps.length sc)∧fX.tmps[6]? = some (.int .i64 ps.length)∧fX.tmps[7]? = some (.int .i64 (j:Int))∧Keep (fun g=>g < W.heap.size) W wX∧j ≤ ps.length∧Hid (∀ i p,i < j→ps[i]? = some p→p.1.ns ≤ 100)) (ps.length - 0) ⟨0,rfl,R,h2,h5,h6,h7,K1,Nat.zero_le _,(Lib.hid fun i p h=>absurd h (Nat.not_lt_zero _))⟩ ?_;clear R h2 h5 h6 h7 K1;rintro n7 a5 w6 ⟨j,rfl,R,h2,h5,h6,h7,K1,hj,HA⟩;have hn9:=HLN.out;refine wp_seq (x:=c33_8) (y:=c33_9) ?_;refine reg_in (l:=[0]) rfl ?_;have F:=fe_ R;clear R;obtain ⟨b8,hb8⟩:∃ x,(decide ((j:Int) < (ps.length:Int)))=x:=⟨_,rfl⟩;have Y:Yv a5 o33_2_0 w6 (.bool b8):=by have r6:=F.of h6;have r7:=F.of h7;rw [← hb8];unfold Yv o33_2_0;go_simp
 refine sw_ rfl Y F fun a9 F h8=>?_;clear Y;refine st_end ?_;have⟨h2,h5,h6,h7⟩:=F.o4 h2 h5 h6 h7;have R:=F.r;clear F;refine wp_seq (x:=c33_10) (y:=c33_13) ?_;cases b8 with
 | false =>
  have fb8:=hb8;clear hb8;simp only [dd_] at fb8;refine wp_cond_false (x:=Code.skip) (y:=c33_12) (eval_slot h8) ?_;refine wp_exit ?_;refine wp_seq (x:=c33_26) (y:=Code.ret) ?_;refine reg_in (l:=[0]) rfl ?_;have F:=fe_ R;clear R;have Y:Yv a9 o33_7_0 w6 (.bool true):=by unfold Yv o33_7_0;go_simp
  refine sw_ rfl Y F fun a10 F h2=>?_;clear Y;refine st_end ?_;have⟨h5,h6,h7,h8⟩:=F.o4 h5 h6 h7 h8;have R:=F.r;clear F;refine wp_ret ?_;change bodyPost Try.prog Try.f7 (fun e w'=>e=.returned (.bool (decide (∀ p ∈ ps,p.1.ns ≤ 100)))∧Keep (fun g=>g < W.heap.size) W w') .ret a10 w6;refine ret_one rfl R h2 ?_;refine ⟨?_,K1⟩;rw [decide_eq_true (fun q hq=>by obtain ⟨i,hi,he⟩:=List.getElem_of_mem hq;exact HA.out i q (by omega) (by rw [List.getElem?_eq_getElem hi,he]))]
 | true =>
  have fb8:=hb8;clear hb8;simp only [dd_] at fb8;refine wp_cond_true (x:=Code.skip) (y:=c33_12) (eval_slot h8) ?_;refine wp_skip ?_;refine wp_seq (x:=c33_14) (y:=c33_24) ?_;refine wp_block (id:=1) (c:=c33_15) ?_;refine wp_seq (x:=c33_16) (y:=c33_17) ?_;refine reg_in (l:=[0,1,2,3]) rfl ?_;have F:=fe_ R;clear R;obtain ⟨bA,oA,hA,-⟩:=tmsl_addr HS.out (show j < ps.length by omega);obtain ⟨p,hp⟩:∃ q,ps[j]? = some q:=⟨_,List.getElem?_eq_getElem (by omega)⟩;have hltA:(j:Int) < (ps.length:Int):=by omega
  have HAD:=Lib.hid hA;clear hA;have HP:=Lib.hid hp;clear hp;have Y:Yv a9 o33_3_0 w6 (.pointer (some ⟨bA,oA + j * 4,none⟩)):=by have r5:=F.of h5;have r7:=F.of h7;have hA:=HAD.out;unfold Yv o33_3_0;go_simp
  refine sw_ rfl Y F fun a11 F h9=>?_;clear Y;have Y:Yv a11 o33_3_1 w6 (.agg #[.int .i64 p.1.k,.string (str p.1.nm),.int .i64 p.1.i,.slice p.2.1 p.1.args.length p.2.2]):=by obtain ⟨⟨c0,c1,c2,c3⟩,-⟩:=tmsl_at (tmsl_on HS.out K1) HAD.out HP.out;unfold Yv o33_3_1;go_simp
  refine swe_ rfl Y F fun a12 e F h10=>?_;clear Y;replace h9:=so_ e h9;clear e;have Y:(execOp a12.eval o33_3_2).run Try.prog w6=.ok (.value (.pointer (some ⟨w6.heap.size,0,none⟩))) (w6.alloc (.cells #[.int .i64 0,.string (⟨#[]⟩),.int .i64 0,.slice none 0 0] 24)):=by unfold o33_3_2;go_simp
  have B13:=Blk.new w6 24 #[.int .i64 0,.string (⟨#[]⟩),.int .i64 0,.slice none 0 0];obtain ⟨w14,hw⟩:∃ x,x=w6.alloc (.cells #[.int .i64 0,.string (⟨#[]⟩),.int .i64 0,.slice none 0 0] 24):=⟨_,rfl⟩;rw [← hw] at Y B13;obtain ⟨b13,hb⟩:∃ x,x=w6.heap.size:=⟨_,rfl⟩;rw [← hb] at Y B13;have LK1_b13:=lk_ hb K1;replace K1:=ka_ hw K1;clear hw hb;refine swe_ rfl Y F fun a15 e F h4=>?_;clear Y;have⟨h9,h10⟩:=s2_ e h9 h10;clear e;obtain ⟨w16,Y,hk,hB⟩:=ys4_ (o:=o33_3_3) rfl h4 h10 B13;replace K1:=kx_ hk K1 (Nat.not_lt.2 LK1_b13);clear B13;have B13:=hB;clear hB hk;refine st_skip rfl rfl (wanted_free rfl) Y ?_;clear Y;refine st_end ?_;have⟨h2,h5,h6,h7⟩:=F.o4 h2 h5 h6 h7;replace h8:=F.of h8;have R:=F.r;clear F;refine wp_seq (x:=c33_18) (y:=c33_19) ?_;refine reg_in (l:=[0,1,2]) rfl ?_;have F:=fe_ R;clear R;refine sw_ rfl (yl4_ rfl (F.of h4) B13) F fun a17 F h11=>?_;have Y:(execOp a17.eval o33_4_1).run Try.prog w16=.ok (.enter 42 #[.agg #[.int .i64 p.1.k,.string (str p.1.nm),.int .i64 p.1.i,.slice p.2.1 p.1.args.length p.2.2],.int .i64 100]) w16:=by unfold o33_4_1;go_simp
  obtain ⟨z,hz⟩:∃ q,((min p.1.ns (100 + 1):Nat):Int)=q:=⟨_,rfl⟩;refine st_call rfl rfl (wanted_free rfl) Y ((refsize_sx (tmsl_at (tmsl_on HS.out K1) HAD.out HP.out).2 (by decide) (by rfl) hz).mono ?_);clear Y;rintro e9 w18 ⟨rfl,kk⟩;replace K1:=keep_onto K1 kk;replace B13:=blk_on B13 kk;clear kk;refine ⟨_,rfl,fun a19 e=>?_⟩;have h12:=pt_ F e;replace F:=pu_ F e;replace h11:=so_ e h11;clear e;obtain ⟨b20,hb20⟩:∃ x,(decide ((100:Int) < (z:Int)))=x:=⟨_,rfl⟩;have Y:Yv a19 o33_4_2 w18 (.bool b20):=by rw [← hb20];unfold Yv o33_4_2;go_simp
  refine swe_ rfl Y F fun a21 e F h13=>?_;clear Y;have⟨h11,h12⟩:=s2_ e h11 h12;clear e;refine st_end ?_;have⟨h2,h4,h5,h6,h7,h8,h9,h10⟩:=F.o8 h2 h4 h5 h6 h7 h8 h9 h10;have R:=F.r;clear F;cases b20 with
  | false =>
   have fb20:=hb20;clear hb20;simp only [dd_] at fb20;refine wp_cond_false (x:=c33_20) (y:=Code.skip) (eval_slot h13) ?_;refine wp_skip ?_;change (c33_24).wp _ _ _ _;refine reg_in (l:=[0,1]) rfl ?_;have F:=fe_ R;clear R;have Y:Yv a21 o33_6_0 w18 (.int .i64 ((j:Int) + 1)):=by have r7:=F.of h7;have hwj:IntKind.i64.wrap ((j:Int) + 1)=(j:Int) + 1:=(by rw [IntKind.wrap_i64];omega);unfold Yv o33_6_0;go_simp
   refine sw_ rfl Y F fun a22 F h14=>?_;clear Y;refine swe_ rfl (ym_ rfl h14) F fun a23 e F h7=>?_;replace h14:=so_ e h14;clear e;refine st_end ?_;have⟨h2,h4,h5,h6,h8,h9,h10,h11⟩:=F.o8 h2 h4 h5 h6 h8 h9 h10 h11;have⟨h12,h13⟩:=F.o2 h12 h13;have R:=F.r;clear F;exact ⟨_,by omega,j + 1,rfl,R,h2,h5,h6,h7,K1,(by omega),(Lib.hid fun i q hi hq=>by rcases Nat.lt_or_ge i j with h | h;exact HA.out i q h hq;(have h9:i=j:=by omega);rw [h9,HP.out] at hq;cases hq;omega)⟩
  | true =>
   have fb20:=hb20;clear hb20;simp only [dd_] at fb20;refine wp_cond_true (x:=c33_20) (y:=Code.skip) (eval_slot h13) ?_;refine wp_seq (x:=c33_21) (y:=Code.ret) ?_;refine reg_in (l:=[0]) rfl ?_;have F:=fe_ R;clear R;have Y:Yv a21 o33_5_0 w18 (.bool false):=by unfold Yv o33_5_0;go_simp
   refine sw_ rfl Y F fun a24 F h2=>?_;clear Y;refine st_end ?_;have⟨h4,h5,h6,h7,h8,h9,h10,h11⟩:=F.o8 h4 h5 h6 h7 h8 h9 h10 h11;have⟨h12,h13⟩:=F.o2 h12 h13;have R:=F.r;clear F;refine wp_ret ?_;change bodyPost Try.prog Try.f7 (fun e w'=>e=.returned (.bool (decide (∀ p ∈ ps,p.1.ns ≤ 100)))∧Keep (fun g=>g < W.heap.size) W w') .ret a24 w18;refine ret_one rfl R h2 ?_;refine ⟨?_,K1⟩;rw [decide_eq_false (fun h=>by have h1:=h p (List.mem_of_getElem? HP.out);omega)]
theorem tame_any {W:World} {sa:Option Addr} {sc:Nat} {ps:List TP} (hS:TmSl W.heap.size W sa ps) (hn:ps.length ≤ 1000000):Calls Try.prog 7 #[.slice sa ps.length sc] W fun e w'=>e=.returned (.bool (decide (∀ p ∈ ps,p.1.ns ≤ 100)))∧Keep (fun g=>g < W.heap.size) W w':=by
  refine enter_sx Try.func7 body33 rfl (by show (1:Nat) ≤ 15;decide) fun f0 R hs=>?_;exact tame_w R (hs 0 _ rfl) (Keep.refl _ W) (Lib.hid hS) (Lib.hid hn)
theorem tame_one {w:World} {t:Tm} {a:Option Addr} {c g:Nat} {z:Bool} (hT:TmAt w.heap.size w t a c) (hb:Blk w g 24 #[.int .i64 t.k,.string (str t.nm),.int .i64 t.i,.slice a t.args.length c]) (hz:decide (t.ns ≤ 100)=z) :
    Calls Try.prog 7 #[.slice (some ⟨g,0,none⟩) 1 1] w fun e w'=>e=.returned (.bool z)∧Keep (fun g=>g < w.heap.size) w w':=by
  have hS:TmSl w.heap.size w (some ⟨g,0,none⟩) [((t,a,c):TP)]:=fun j p hj=>by
    match j,hj with
    | 0,hj =>
      cases hj;refine ⟨⟨g,0,rfl,hb.lt,fun f v hv=>?_⟩,hT⟩
      match f,hv with
      | 0,hv=>cases hv;exact hb.cell 0
      | 1,hv=>cases hv;exact hb.cell 1
      | 2,hv=>cases hv;exact hb.cell 2
      | 3,hv=>cases hv;exact hb.cell 3
      | f + 4,hv=>exact absurd (get_lt' hv) (by show ¬ f + 4 < 4;omega)
    | j + 1,hj=>simp at hj
  have h:=tame_any (sc:=1) hS (by show 1 ≤ 1000000;omega);have e:decide (∀ p ∈ [((t,a,c):TP)],p.1.ns ≤ 100)=z:=by rw [← hz];simp
  rw [e] at h;exact h
end Go.Proofs.Ytjinmnekfhekpaa
