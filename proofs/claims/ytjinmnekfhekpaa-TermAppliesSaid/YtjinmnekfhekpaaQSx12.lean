/-
  The document's vars and Vars: walked with letter frames. No condition but where the terms lie.
-/
import Derived.Test.YtjinmnekfhekpaaQTp8
namespace Go.Proofs.Ytjinmnekfhekpaa
open Go.RowKit Go.Maps
set_option linter.unusedVariables false
set_option linter.unusedSimpArgs false
theorem accL_len':∀ (ts:List Tm),(∀ x ∈ ts,x.ok=true)→∀ l,(accL (ts.map Tm.tree) l).length ≤ l.length + nsL ts:=by
  intro ts;induction ts with
  | nil=>intro _ l;rw [List.map_nil,accL_nil];omega
  | cons x ts ih =>
    intro h l;rw [List.map_cons,accL_cons,nsL_cons];have h1:=x.tree.acc_len l;rw [(Tm.tree_ns (h x List.mem_cons_self)).1] at h1;have h2:=ih (fun y hy=>h y (List.mem_cons_of_mem _ hy)) (x.tree.acc l);omega
theorem acc_step {t x:Tm} {l m:List Int} {j:Nat} (hx:t.args[j]? = some x) (hm:m=accL ((t.args.take j).map Tm.tree) l):x.tree.acc m=accL ((t.args.take (j + 1)).map Tm.tree) l:=by
  obtain ⟨hj,he⟩:=List.getElem?_eq_some_iff.1 hx;rw [List.take_succ_eq_append_getElem hj,List.map_append,accL_append,← hm,he];show _=accL [x.tree] m;rw [accL_cons,accL_nil]
theorem acc_room {t x:Tm} {l:List Int} {j:Nat} (hok:t.ok=true) (h4:t.k=4) (hx:t.args[j]? = some x) (hl:l.length + t.ns ≤ 4000):(accL ((t.args.take j).map Tm.tree) l).length + x.ns ≤ 4000:=by
  obtain ⟨hj,he⟩:=List.getElem?_eq_some_iff.1 hx;have h1:=accL_len' (t.args.take j) (fun y hy=>(Tm.ok_args hok h4).2.2.1 y (List.mem_of_mem_take hy)) l;have h2:nsL t.args=nsL (t.args.take j) + nsL (t.args.drop j):=by rw [← nsL_append,List.take_append_drop]
  have h3:nsL (t.args.drop j)=x.ns + nsL (t.args.drop (j + 1)):=by rw [List.drop_eq_getElem_cons hj,nsL_cons,he]
  rw [t.ns_eq,if_pos h4] at hl;omega
def o57_0_0:Oper:=⟨some 2,.box 24 (.tmp 0),0, "ref.go:76",#[],none⟩
def o57_0_1:Oper:=⟨some 4,.assign (.const (.slice none 0 0)),56, "ref.go:76",#[],none⟩
def O57_0:Array Oper:=#[o57_0_0,o57_0_1]
def c57_1:Code:=.region 0 O57_0 false
def o57_1_0:Oper:=⟨some 6,.fieldAddr 24 (.tmp 2) 0,0, "ref.go:77",#[],none⟩
def o57_1_1:Oper:=⟨some 7,.load 3 (.tmp 6),3, "ref.go:77",#[ed_ 0],none⟩
def o57_1_2:Oper:=⟨some 8,.binOp .eql 3 (.tmp 7) (.const (.int .i64 1)) 3,4, "ref.go:77",#[ed_ 1],none⟩
def o57_1_3:Oper:=⟨some 9,.move (.tmp 8),4, "ref.go:77",#[ed_ 2],none⟩
def o57_1_4:Oper:=⟨some 10,.move (.tmp 1),56, "ref.go:77",#[eg_ 3],some (3,true)⟩
def o57_1_5:Oper:=⟨some 11,.fieldAddr 24 (.tmp 2) 2,0, "ref.go:77",#[eg_ 3],some (3,true)⟩
def o57_1_6:Oper:=⟨some 12,.load 2 (.tmp 11),2, "ref.go:77",#[ed_ 5,eg_ 3],some (3,true)⟩
def o57_1_7:Oper:=⟨some 13,.call { callee:=.value (.func 92),args:=#[.tmp 10,.tmp 12],argTypes:=#[56,2] },4, "ref.go:77",#[ed_ 4,ed_ 6,ec_ 3,eg_ 3],some (3,true)⟩
def o57_1_8:Oper:=⟨some 14,.unOp .not 4 (.tmp 13),4, "ref.go:77",#[ed_ 7,eg_ 3],some (3,true)⟩
def o57_1_9:Oper:=⟨some 15,.pick (.tmp 9) (.tmp 14) (.const (.bool false)),4, "ref.go:77",#[ed_ 3,ed_ 8],none⟩
def O57_1:Array Oper:=#[o57_1_0,o57_1_1,o57_1_2,o57_1_3,o57_1_4,o57_1_5,o57_1_6,o57_1_7,o57_1_8,o57_1_9]
def c57_4:Code:=.region 1 O57_1 false
def o57_2_0:Oper:=⟨some 16,.move (.tmp 1),56, "ref.go:78",#[],none⟩
def o57_2_1:Oper:=⟨some 17,.fieldAddr 24 (.tmp 2) 2,0, "ref.go:78",#[],none⟩
def o57_2_2:Oper:=⟨some 18,.load 2 (.tmp 17),2, "ref.go:78",#[ed_ 1],none⟩
def o57_2_3:Oper:=⟨some 19,.buildSlice 56 1 #[(0,.tmp 18)],56, "ref.go:78",#[ed_ 2],none⟩
def o57_2_4:Oper:=⟨some 20,.call { callee:=.builtin .append,args:=#[.tmp 16,.tmp 19],argTypes:=#[56,56] },56, "ref.go:78",#[ed_ 0,ed_ 3],none⟩
def o57_2_5:Oper:=⟨some 1,.assign (.tmp 20),56, "ref.go:78",#[ed_ 4,ec_ 4,ep_ 0,ep_ 1,ep_ 2,ep_ 3,ep_ 4],none⟩
def O57_2:Array Oper:=#[o57_2_0,o57_2_1,o57_2_2,o57_2_3,o57_2_4,o57_2_5]
def c57_6:Code:=.region 2 O57_2 false
def c57_5:Code:=.cond (Operand.tmp 15) c57_6 Code.skip
def c57_3:Code:=.seq c57_4 c57_5
def o57_3_0:Oper:=⟨some 21,.fieldAddr 24 (.tmp 2) 0,0, "ref.go:80",#[],none⟩
def o57_3_1:Oper:=⟨some 22,.load 3 (.tmp 21),3, "ref.go:80",#[ed_ 0],none⟩
def o57_3_2:Oper:=⟨some 23,.binOp .eql 3 (.tmp 22) (.const (.int .i64 4)) 3,4, "ref.go:80",#[ed_ 1],none⟩
def O57_3:Array Oper:=#[o57_3_0,o57_3_1,o57_3_2]
def c57_10:Code:=.region 3 O57_3 false
def o57_4_0:Oper:=⟨some 5,.assign (.const (.int .i64 0)),3, "ref.go:81",#[],none⟩
def O57_4:Array Oper:=#[o57_4_0]
def c57_13:Code:=.region 4 O57_4 false
def o57_5_0:Oper:=⟨some 24,.move (.tmp 5),3, "ref.go:81",#[],none⟩
def o57_5_1:Oper:=⟨some 25,.fieldAddr 24 (.tmp 2) 3,0, "ref.go:81",#[],none⟩
def o57_5_2:Oper:=⟨some 26,.load 22 (.tmp 25),22, "ref.go:81",#[ed_ 1],none⟩
def o57_5_3:Oper:=⟨some 27,.call { callee:=.builtin .len,args:=#[.tmp 26],argTypes:=#[22] },3, "ref.go:81",#[ed_ 2],none⟩
def o57_5_4:Oper:=⟨some 28,.binOp .lss 3 (.tmp 24) (.tmp 27) 3,4, "ref.go:81",#[ed_ 0,ed_ 3],none⟩
def O57_5:Array Oper:=#[o57_5_0,o57_5_1,o57_5_2,o57_5_3,o57_5_4]
def c57_18:Code:=.region 5 O57_5 false
def c57_21:Code:=.exit 0
def c57_19:Code:=.cond (Operand.tmp 28) Code.skip c57_21
def c57_17:Code:=.seq c57_18 c57_19
def o57_7_0:Oper:=⟨some 31,.fieldAddr 24 (.tmp 2) 3,0, "ref.go:82",#[],none⟩
def o57_7_1:Oper:=⟨some 32,.load 22 (.tmp 31),22, "ref.go:82",#[ed_ 0],none⟩
def o57_7_2:Oper:=⟨some 33,.move (.tmp 5),3, "ref.go:82",#[],none⟩
def o57_7_3:Oper:=⟨some 34,.indexAddr 22 (.tmp 32) (.tmp 33),0, "ref.go:82",#[ed_ 1,ed_ 2],none⟩
def o57_7_4:Oper:=⟨some 35,.load 24 (.tmp 34),24, "ref.go:82",#[ed_ 3],none⟩
def o57_7_5:Oper:=⟨some 36,.move (.tmp 1),56, "ref.go:82",#[],none⟩
def o57_7_6:Oper:=⟨some 37,.call { callee:=.value (.func 72),args:=#[.tmp 35,.tmp 36],argTypes:=#[24,56] },56, "ref.go:82",#[ed_ 4,ed_ 5],none⟩
def o57_7_7:Oper:=⟨some 1,.assign (.tmp 37),56, "ref.go:82",#[ed_ 6,ec_ 6,ep_ 0,ep_ 1,ep_ 2,ep_ 3,ep_ 4,ep_ 5,ep_ 6],none⟩
def O57_7:Array Oper:=#[o57_7_0,o57_7_1,o57_7_2,o57_7_3,o57_7_4,o57_7_5,o57_7_6,o57_7_7]
def c57_24:Code:=.region 7 O57_7 false
def c57_23:Code:=.block 1 c57_24
def o57_6_0:Oper:=⟨some 29,.move (.tmp 5),3, "ref.go:81",#[],none⟩
def o57_6_1:Oper:=⟨some 30,.binOp .add 3 (.tmp 29) (.const (.int .i64 1)) 3,3, "ref.go:81",#[ed_ 0],none⟩
def o57_6_2:Oper:=⟨some 5,.assign (.tmp 30),3, "ref.go:81",#[ed_ 1,ep_ 0,ep_ 1],none⟩
def O57_6:Array Oper:=#[o57_6_0,o57_6_1,o57_6_2]
def c57_25:Code:=.region 6 O57_6 false
def c57_22:Code:=.seq c57_23 c57_25
def c57_16:Code:=.seq c57_17 c57_22
def c57_15:Code:=.loop c57_16
def c57_14:Code:=.block 0 c57_15
def c57_12:Code:=.seq c57_13 c57_14
def c57_11:Code:=.cond (Operand.tmp 23) c57_12 Code.skip
def c57_9:Code:=.seq c57_10 c57_11
def o57_8_0:Oper:=⟨some 38,.move (.tmp 1),56, "ref.go:85",#[],none⟩
def o57_8_1:Oper:=⟨some 4,.assign (.tmp 38),56, "ref.go:85",#[ed_ 0,ep_ 0],none⟩
def O57_8:Array Oper:=#[o57_8_0,o57_8_1]
def c57_28:Code:=.region 8 O57_8 false
def c57_27:Code:=.seq c57_28 Code.ret
def c57_8:Code:=.seq c57_9 c57_27
def c57_2:Code:=.seq c57_3 c57_8
def c57_0:Code:=.seq c57_1 c57_2
theorem en57_31:Enters Try.prog 92:=enters_of Try.func92 (by kernel_rfl) rfl
theorem en57_57:Enters Try.prog 72:=enters_of Try.func72 (by kernel_rfl) rfl
theorem body57:Try.f72.body=some c57_0:=by kernel_rfl
theorem fin_v {BB:Nat} {W w:World} {u:Value} {va:Option Addr} {vc:Nat} {m l:List Int} (h:VRow BB W w u (.slice va m.length vc) m) (he:l=m):∃ ua' uc',Ending.returned (.slice va m.length vc)=.returned (.slice ua' l.length uc')∧VRow BB W w u (.slice ua' l.length uc') l:=by
  subst he;exact ⟨va,vc,rfl,h⟩
theorem acc_in {t:Tm} {l:List Int} (h:among l t.i=true) (h1:t.k=1):t.tree.acc l=l:=by
  rw [tree_1 h1,T.acc_v,if_pos ((among_iff _ _).1 h)]
theorem acc_new {t:Tm} {l:List Int} (h:among l t.i=false) (h1:t.k=1):t.tree.acc l=l ++ [t.i]:=by
  rw [tree_1 h1,T.acc_v,if_neg (fun hm=>by rw [(among_iff _ _).2 hm] at h;cases h)]
theorem acc_no {t:Tm} {l:List Int} (h:t.ok=true) (h1:¬ t.k=1) (h4:¬ t.k=4):t.tree.acc l=l:=by
  rcases Tm.ok_kind h with hk | hk | hk | hk
  · exact absurd hk h1
  · rw [tree_2 hk,T.acc_n]
  · rw [tree_3 hk,T.acc_a]
  · exact absurd hk h4
theorem acc_all {t:Tm} {l m:List Int} {j:Nat} (h4:t.k=4) (hm:m=accL ((t.args.take j).map Tm.tree) l) (hj:t.args.length ≤ j):t.tree.acc l=m:=by
  rw [tree_4 h4,T.acc_c,hm,List.take_of_length_le hj]
theorem own_no {BB b:Nat} {W w:World} {u v:Value} {l:List Int} (h:VRow BB W w u v l) (hb:u.ownBlock ≠ some b) (hlt:b < W.heap.size):v.ownBlock ≠ some b:=fun e=>by
  rcases h.ow b e with e | e
  · exact hb e
  · omega
set_option maxRecDepth 100000 in
set_option maxHeartbeats 4000000 in
theorem vars_w {BB:Nat} {W:World} {t:Tm} {a ua:Option Addr} {c uc:Nat} {l:List Int}  {f0:Act} {w0:World} (R:FrS 39 f0) (h0:f0.tmps[0]? = some (.agg #[.int .i64 t.k,.string (str t.nm),.int .i64 t.i,.slice a t.args.length c])) (h1:f0.tmps[1]? = some (.slice ua l.length uc)) (KW:Keep (fun g=>g < W.heap.size) W w0)  (HT:Hid (TmAt BB W t a c)) (HBW:Hid (BB ≤ W.heap.size)) (HOK:Hid (t.ok=true)) (HN:Hid (l.length + t.ns ≤ 4000)) (HV:Hid (VRow BB W W (.slice ua l.length uc) (.slice ua l.length uc) l)) (HUO:Hid (∀ g,(Value.slice ua l.length uc).ownBlock=some g→BB ≤ g)) (HIH:Hid (∀ x ∈ t.args,x.ok=true→∀ (l:List Int) (w:World) (a:Option Addr) (c:Nat) (ua:Option Addr) (uc:Nat),l.length + x.ns ≤ 4000→TmAt BB w x a c→BB ≤ w.heap.size→w.ownsRow BB 2 1 (.slice ua l.length uc) l.length (l.map (Value.int .i64))→Calls Try.prog 72 #[tv x a c,.slice ua l.length uc] w fun e w'=>∃ ua' uc',e=.returned (.slice ua' (x.tree.acc l).length uc')∧VRow BB w w' (.slice ua l.length uc) (.slice ua' (x.tree.acc l).length uc') (x.tree.acc l))):c57_0.wp Try.prog (bodyPost Try.prog Try.f72 (fun e w'=>∃ ua' uc',e=.returned (.slice ua' (t.tree.acc l).length uc')∧VRow BB W w' (.slice ua l.length uc) (.slice ua' (t.tree.acc l).length uc') (t.tree.acc l))) f0 w0:=by
 refine wp_seq (x:=c57_1) (y:=c57_2) ?_;refine reg_in (l:=[0,1]) rfl ?_;have F:=fe_ R;clear R;have Y:(execOp f0.eval o57_0_0).run Try.prog w0=.ok (.value (.pointer (some ⟨w0.heap.size,0,none⟩))) (w0.alloc (.cells #[.int .i64 t.k,.string (str t.nm),.int .i64 t.i,.slice a t.args.length c] 24)):=by have r0:=F.of h0;unfold o57_0_0;go_simp
 have B1:=Blk.new w0 24 #[.int .i64 t.k,.string (str t.nm),.int .i64 t.i,.slice a t.args.length c];obtain ⟨w2,hw⟩:∃ x,x=w0.alloc (.cells #[.int .i64 t.k,.string (str t.nm),.int .i64 t.i,.slice a t.args.length c] 24):=⟨_,rfl⟩;rw [← hw] at Y B1;obtain ⟨b1,hb⟩:∃ x,x=w0.heap.size:=⟨_,rfl⟩;rw [← hb] at Y B1;have LKW_b1:=lk_ hb KW;replace KW:=ka_ hw KW;clear hw hb;refine sw_ rfl Y F fun a3 F h2=>?_;clear Y;have Y:Yv a3 o57_0_1 w2 (Value.slice none 0 0):=by unfold Yv o57_0_1;go_simp
 refine swe_ rfl Y F fun a4 e F h4=>?_;clear Y;replace h2:=so_ e h2;clear e;refine st_end ?_;clear h0;replace h1:=F.of h1;have R:=F.r;clear F;refine wp_seq (x:=c57_3) (y:=c57_8) ?_;refine wp_seq (x:=c57_4) (y:=c57_5) ?_;refine reg_in (l:=[0,1,2,3,4,5,6,7,8,9]) rfl ?_;have F:=fe_ R;clear R;refine sw_ rfl (yf0_ rfl (F.of h2)) F fun a5 F h6=>?_;refine sw_ rfl (yk0_ rfl h6 B1) F fun a6 F h7=>?_;clear h6;obtain ⟨b7,hb7⟩:∃ x,(((t.k:Int) == (1:Int)))=x:=⟨_,rfl⟩;have Y:Yv a6 o57_1_2 w2 (.bool b7):=by rw [← hb7];unfold Yv o57_1_2;go_simp
 refine sw_ rfl Y F fun a8 F h8=>?_;clear Y h7;refine sw_ rfl (ym_ rfl h8) F fun a9 F h9=>?_;clear h8;cases b7 with
 | false =>
  have fb7:=hb7;clear hb7;simp only [dd_] at fb7;refine st_not rfl rfl (wanted_is (j:=3) (d:=9) rfl rfl h9 rfl) fun a10 e=>?_;have h10:=pt_ F e;replace F:=pu_ F e;replace h9:=so_ e h9;clear e;refine st_not rfl rfl (wanted_is (j:=3) (d:=9) rfl rfl h9 rfl) fun a11 e=>?_;have h11:=pt_ F e;replace F:=pu_ F e;have⟨h9,h10⟩:=s2_ e h9 h10;clear e;refine st_not rfl rfl (wanted_is (j:=3) (d:=9) rfl rfl h9 rfl) fun a12 e=>?_;clear h11;have h12:=pt_ F e;replace F:=pu_ F e;have⟨h9,h10⟩:=s2_ e h9 h10;clear e;refine st_not rfl rfl (wanted_is (j:=3) (d:=9) rfl rfl h9 rfl) fun a13 e=>?_;clear h10 h12;have h13:=pt_ F e;replace F:=pu_ F e;replace h9:=so_ e h9;clear e;refine st_not rfl rfl (wanted_is (j:=3) (d:=9) rfl rfl h9 rfl) fun a14 e=>?_;clear h13;have h14:=pt_ F e;replace F:=pu_ F e;replace h9:=so_ e h9;clear e;have Y:Yv a14 o57_1_9 w2 (.bool false):=by unfold Yv o57_1_9;go_simp
  refine sw_ rfl Y F fun a15 F h15=>?_;clear Y h9 h14;refine st_end ?_;have⟨h1,h2,h4⟩:=F.o3 h1 h2 h4;have R:=F.r;clear F;refine wp_cond_false (x:=c57_6) (y:=Code.skip) (eval_slot h15) ?_;refine wp_skip ?_;refine wp_seq (x:=c57_9) (y:=c57_27) ?_;refine wp_seq (x:=c57_10) (y:=c57_11) ?_;refine reg_in (l:=[0,1,2]) rfl ?_;have F:=fe_ R;clear R;refine sw_ rfl (yf0_ rfl (F.of h2)) F fun a16 F h21=>?_;refine sw_ rfl (yk0_ rfl h21 B1) F fun a17 F h22=>?_;clear h21;obtain ⟨b18,hb18⟩:∃ x,(((t.k:Int) == (4:Int)))=x:=⟨_,rfl⟩;have Y:Yv a17 o57_3_2 w2 (.bool b18):=by rw [← hb18];unfold Yv o57_3_2;go_simp
  refine sw_ rfl Y F fun a19 F h23=>?_;clear Y h22;refine st_end ?_;have⟨h1,h2,h4⟩:=F.o3 h1 h2 h4;clear h15;have R:=F.r;clear F;cases b18 with
  | false =>
   have fb18:=hb18;clear hb18;simp only [dd_] at fb18;refine wp_cond_false (x:=c57_12) (y:=Code.skip) (eval_slot h23) ?_;refine wp_skip ?_;refine wp_seq (x:=c57_28) (y:=Code.ret) ?_;refine reg_in (l:=[0,1]) rfl ?_;have F:=fe_ R;clear R;refine sw_ rfl (ym_ rfl (F.of h1)) F fun a20 F h38=>?_;refine sw_ rfl (ya_ rfl h38) F fun a21 F h4=>?_;clear h38;refine st_end ?_;clear h1;clear h2;clear h23;have R:=F.r;clear F;refine wp_ret ?_;change bodyPost Try.prog Try.f72 (fun e w'=>∃ ua' uc',e=.returned (.slice ua' (t.tree.acc l).length uc')∧VRow BB W w' (.slice ua l.length uc) (.slice ua' (t.tree.acc l).length uc') (t.tree.acc l)) .ret a21 w2;refine ret_one rfl R h4 ?_;exact fin_v (HV.out.on KW) (by first | exact acc_in HIN.out (by omega) | exact acc_no HOK.out (by omega) (by omega))
  | true =>
   have fb18:=hb18;clear hb18;simp only [dd_] at fb18;refine wp_cond_true (x:=c57_12) (y:=Code.skip) (eval_slot h23) ?_;refine wp_seq (x:=c57_13) (y:=c57_14) ?_;refine reg_in (l:=[0]) rfl ?_;have F:=fe_ R;clear R;have Y:Yv a19 o57_4_0 w2 (.int .i64 0):=by unfold Yv o57_4_0;go_simp
   refine sw_ rfl Y F fun a22 F h5=>?_;clear Y;refine st_end ?_;have⟨h1,h2,h4⟩:=F.o3 h1 h2 h4;clear h23;have R:=F.r;clear F;refine wp_block (id:=0) (c:=c57_15) ?_;have HOB:Hid ((Value.slice ua l.length uc).ownBlock ≠ some b1):=Lib.hid (fun e=>by have h1:=(HV.out.row.lt _ e).2;have:=LKW_b1;omega);have HLN:Hid (t.args.length ≤ 8):=Lib.hid (Tm.ok_args HOK.out (by omega)).2.1;refine wp_loop_ghost (c:=c57_16) (fun n fX wX=>∃ j:Nat,∃ va:Option Addr,∃ vc:Nat,∃ m:List Int,n=t.args.length - j∧FrS 39 fX∧fX.tmps[1]? = some (.slice va m.length vc)∧fX.tmps[2]? = some (.pointer (some ⟨b1,0,none⟩))∧fX.tmps[4]? = some (Value.slice none 0 0)∧fX.tmps[5]? = some (.int .i64 (j:Int))∧Blk wX b1 24 #[.int .i64 t.k,.string (str t.nm),.int .i64 t.i,.slice a t.args.length c]∧j ≤ t.args.length∧Hid (VRow BB W wX (.slice ua l.length uc) (.slice va m.length vc) m)∧Hid (m=accL ((t.args.take j).map Tm.tree) l)∧Hid ((Value.slice va m.length vc).ownBlock ≠ some b1)) (t.args.length - 0) ⟨0,ua,uc,l,rfl,R,h1,h2,h4,h5,B1,Nat.zero_le _,(Lib.hid (HV.out.on KW)),(Lib.hid rfl),HOB⟩ ?_;clear R h1 h2 h4 h5 B1;rintro n25 a23 w24 ⟨j,va,vc,m,rfl,R,h1,h2,h4,h5,B1,hj,HV,HM,HOB⟩;have KW:=Keep.refl (fun g=>g < w24.heap.size) w24;refine wp_seq (x:=c57_17) (y:=c57_22) ?_;refine wp_seq (x:=c57_18) (y:=c57_19) ?_;refine reg_in (l:=[0,1,2,3,4]) rfl ?_;have F:=fe_ R;clear R;refine sw_ rfl (ym_ rfl (F.of h5)) F fun a26 F h24=>?_;refine swe_ rfl (yf3_ rfl (F.of h2)) F fun a27 e F h25=>?_;replace h24:=so_ e h24;clear e;refine swe_ rfl (yk3_ rfl h25 B1) F fun a28 e F h26=>?_;have⟨h24,h25⟩:=s2_ e h24 h25;clear e;have Y:Yv a28 o57_5_3 w24 (.int .i64 t.args.length):=by unfold Yv o57_5_3;go_simp
   refine swe_ rfl Y F fun a29 e F h27=>?_;clear Y;have⟨h24,h25,h26⟩:=s3_ e h24 h25 h26;clear e;obtain ⟨b30,hb30⟩:∃ x,(decide ((j:Int) < (t.args.length:Int)))=x:=⟨_,rfl⟩;have Y:Yv a29 o57_5_4 w24 (.bool b30):=by rw [← hb30];unfold Yv o57_5_4;go_simp
   refine swe_ rfl Y F fun a31 e F h28=>?_;clear Y;have⟨h24,h25,h26,h27⟩:=s4_ e h24 h25 h26 h27;clear e;refine st_end ?_;have⟨h1,h2,h4,h5⟩:=F.o4 h1 h2 h4 h5;have R:=F.r;clear F;cases b30 with
   | false =>
    have fb30:=hb30;clear hb30;simp only [dd_] at fb30;refine wp_cond_false (x:=Code.skip) (y:=c57_21) (eval_slot h28) ?_;refine wp_exit ?_;refine wp_seq (x:=c57_28) (y:=Code.ret) ?_;refine reg_in (l:=[0,1]) rfl ?_;have F:=fe_ R;clear R;refine sw_ rfl (ym_ rfl (F.of h1)) F fun a32 F h38=>?_;refine sw_ rfl (ya_ rfl h38) F fun a33 F h4=>?_;clear h38;refine st_end ?_;have⟨h1,h2,h5,h24,h25,h26,h27,h28⟩:=F.o8 h1 h2 h5 h24 h25 h26 h27 h28;have R:=F.r;clear F;refine wp_ret ?_;change bodyPost Try.prog Try.f72 (fun e w'=>∃ ua' uc',e=.returned (.slice ua' (t.tree.acc l).length uc')∧VRow BB W w' (.slice ua l.length uc) (.slice ua' (t.tree.acc l).length uc') (t.tree.acc l)) .ret a33 w24;refine ret_one rfl R h4 ?_;exact fin_v (HV.out.on KW) (acc_all (by omega) HM.out (by omega))
   | true =>
    have fb30:=hb30;clear hb30;simp only [dd_] at fb30;refine wp_cond_true (x:=Code.skip) (y:=c57_21) (eval_slot h28) ?_;refine wp_skip ?_;refine wp_seq (x:=c57_23) (y:=c57_25) ?_;refine wp_block (id:=1) (c:=c57_24) ?_;refine reg_in (l:=[0,1,2,3,4,5,6,7]) rfl ?_;have F:=fe_ R;clear R;refine sw_ rfl (yf3_ rfl (F.of h2)) F fun a34 F h31=>?_;refine swe_ rfl (yk3_ rfl h31 B1) F fun a35 e F h32=>?_;replace h31:=so_ e h31;clear e;refine swe_ rfl (ym_ rfl (F.of h5)) F fun a36 e F h33=>?_;have⟨h31,h32⟩:=s2_ e h31 h32;clear e;obtain ⟨y0,hx0⟩:∃ q,t.args[j]? = some q:=⟨_,List.getElem?_eq_getElem (by omega)⟩;have HTW:Hid (TmAt BB w24 t a c):=Lib.hid (HT.out.keepX ((HV.out.on KW).below HBW.out HUO.out) (fun _ h=>h));obtain ⟨bA,oA,ax,cx,hA,hbA,hTx,u0,u1,u2,u3⟩:=HTW.out.arg hx0;simp only [← Nat.add_assoc] at u0 u1 u2 u3;have HU:=Lib.hid (And.intro u0 (And.intro u1 (And.intro u2 u3)));clear u0 u1 u2 u3;have HX:=Lib.hid hx0;clear hx0;have HTX:=Lib.hid hTx;clear hTx;have HA:=Lib.hid hA;clear hA;have hltA:(j:Int) < (t.args.length:Int):=by omega
    have Y:Yv a36 o57_7_3 w24 (.pointer (some ⟨bA,oA + j * 4,none⟩)):=by have hA:=HA.out;unfold Yv o57_7_3;go_simp
    refine swe_ rfl Y F fun a37 e F h34=>?_;clear Y;have⟨h31,h32,h33⟩:=s3_ e h31 h32 h33;clear e;have Y:Yv a37 o57_7_4 w24 (.agg #[.int .i64 y0.k,.string (str y0.nm),.int .i64 y0.i,.slice ax y0.args.length cx]):=by obtain ⟨u0,u1,u2,u3⟩:=HU.out;unfold Yv o57_7_4;go_simp
    refine swe_ rfl Y F fun a38 e F h35=>?_;clear Y;have⟨h31,h32,h33,h34⟩:=s4_ e h31 h32 h33 h34;clear e;refine swe_ rfl (ym_ rfl (F.of h1)) F fun a39 e F h36=>?_;have⟨h31,h32,h33,h34⟩:=s4_ e h31 h32 h33 h34;replace h35:=so_ e h35;clear e;have hcall:=HIH.out y0 (List.mem_of_getElem? HX.out) ((Tm.ok_args HOK.out (by omega)).2.2.1 y0 (List.mem_of_getElem? HX.out)) m w24 ax cx va vc (by rw [HM.out];exact acc_room HOK.out (by omega) HX.out HN.out) HTX.out (Nat.le_trans HBW.out (HV.out.on KW).kp.size) (HV.out.on KW).row;refine st_call rfl rfl (wanted_free rfl) (yc2_ en57_57 rfl h35 h36) ((hcall).mono ?_);rintro e9 w40 ⟨va2,vc2,rfl,hvr⟩;have HOB2:=Lib.hid (own_no hvr HOB.out B1.lt);replace B1:=hvr.box B1 HOB.out;clear HOB;have HOB:=HOB2;clear HOB2;have HV2:=Lib.hid ((HV.out.on KW).trans hvr);clear HV hvr hcall;have HV:=HV2;clear HV2;clear KW;have KW:=Keep.refl (fun g=>g < w40.heap.size) w40;refine ⟨_,rfl,fun a41 e=>?_⟩;have h37:=pt_ F e;replace F:=pu_ F e;have⟨h31,h32,h33,h34,h35,h36⟩:=s6_ e h31 h32 h33 h34 h35 h36;clear e;refine swe_ rfl (ya_ rfl h37) F fun a42 e F h1=>?_;have⟨h31,h32,h33,h34,h35,h36⟩:=s6_ e h31 h32 h33 h34 h35 h36;replace h37:=so_ e h37;clear e;refine st_end ?_;have⟨h2,h4,h5,h24,h25,h26,h27,h28⟩:=F.o8 h2 h4 h5 h24 h25 h26 h27 h28;have R:=F.r;clear F;change (c57_25).wp _ _ _ _;refine reg_in (l:=[0,1,2]) rfl ?_;have F:=fe_ R;clear R;refine sw_ rfl (ym_ rfl (F.of h5)) F fun a43 F h29=>?_;have Y:Yv a43 o57_6_1 w40 (.int .i64 ((j:Int) + 1)):=by have hl8:=HLN.out;have hwj:IntKind.i64.wrap ((j:Int) + 1)=(j:Int) + 1:=(by rw [IntKind.wrap_i64];omega);unfold Yv o57_6_1;go_simp
    refine swe_ rfl Y F fun a44 e F h30=>?_;clear Y;replace h29:=so_ e h29;clear e;refine swe_ rfl (ya_ rfl h30) F fun a45 e F h5=>?_;have⟨h29,h30⟩:=s2_ e h29 h30;clear e;refine st_end ?_;have⟨h1,h2,h4,h24,h25,h26,h27,h28⟩:=F.o8 h1 h2 h4 h24 h25 h26 h27 h28;have⟨h31,h32,h33,h34,h35,h36⟩:=F.o6 h31 h32 h33 h34 h35 h36;replace h37:=F.of h37;have R:=F.r;clear F;exact ⟨_,by omega,j + 1,va2,vc2,y0.tree.acc m,rfl,R,h1,h2,h4,h5,B1,(by omega),(Lib.hid (HV.out.on KW)),(Lib.hid (acc_step HX.out HM.out)),HOB⟩
 | true =>
  have fb7:=hb7;clear hb7;simp only [dd_] at fb7;refine st_val rfl rfl (wanted_is (j:=3) (d:=9) rfl rfl h9 rfl) (ym_ rfl (F.of h1)) fun a46 e=>?_;have h10:=pt_ F e;replace F:=pu_ F e;replace h9:=so_ e h9;clear e;refine st_val rfl rfl (wanted_is (j:=3) (d:=9) rfl rfl h9 rfl) (yf2_ rfl (F.of h2)) fun a47 e=>?_;have h11:=pt_ F e;replace F:=pu_ F e;have⟨h9,h10⟩:=s2_ e h9 h10;clear e;refine st_val rfl rfl (wanted_is (j:=3) (d:=9) rfl rfl h9 rfl) (yk2_ rfl h11 B1) fun a48 e=>?_;clear h11;have h12:=pt_ F e;replace F:=pu_ F e;have⟨h9,h10⟩:=s2_ e h9 h10;clear e;obtain ⟨hin,hhi⟩:∃ q,among l t.i=q:=⟨_,rfl⟩;have hcall:=haslong_row (z:=t.i) (HV.out.on KW).row (by have:=HN.out;omega);rw [hhi] at hcall;have HIN:=Lib.hid hhi;clear hhi;refine st_call rfl rfl (wanted_is (j:=3) (d:=9) rfl rfl h9 rfl) (yc2_ en57_31 rfl h10 h12) ((hcall).mono ?_);rintro e9 w49 ⟨rfl,kk⟩;replace KW:=keep_onto KW kk;replace B1:=blk_on B1 kk;clear kk;clear hcall;refine ⟨_,rfl,fun a50 e=>?_⟩;clear h10 h12;have h13:=pt_ F e;replace F:=pu_ F e;replace h9:=so_ e h9;clear e;cases hin with
  | false =>
   have Y:Yv a50 o57_1_8 w49 (.bool true):=by unfold Yv o57_1_8;go_simp
   refine st_val rfl rfl (wanted_is (j:=3) (d:=9) rfl rfl h9 rfl) Y fun a51 e=>?_;clear Y;clear h13;have h14:=pt_ F e;replace F:=pu_ F e;replace h9:=so_ e h9;clear e;have Y:Yv a51 o57_1_9 w49 (.bool true):=by unfold Yv o57_1_9;go_simp
   refine sw_ rfl Y F fun a52 F h15=>?_;clear Y h9 h14;refine st_end ?_;have⟨h1,h2,h4⟩:=F.o3 h1 h2 h4;have R:=F.r;clear F;refine wp_cond_true (x:=c57_6) (y:=Code.skip) (eval_slot h15) ?_;refine reg_in (l:=[0,1,2,3,4,5]) rfl ?_;have F:=fe_ R;clear R;refine sw_ rfl (ym_ rfl (F.of h1)) F fun a53 F h16=>?_;refine swe_ rfl (yf2_ rfl (F.of h2)) F fun a54 e F h17=>?_;replace h16:=so_ e h16;clear e;refine swe_ rfl (yk2_ rfl h17 B1) F fun a55 e F h18=>?_;clear h17;replace h16:=so_ e h16;clear e;have Y:(execOp a55.eval o57_2_3).run Try.prog w49=.ok (.value (.slice (some ⟨w49.heap.size,0,none⟩) 1 1)) (w49.alloc (.cells #[.int .i64 t.i] 2)):=by unfold o57_2_3;go_simp
   have B56:=Blk.new w49 2 #[.int .i64 t.i];obtain ⟨w57,hw⟩:∃ x,x=w49.alloc (.cells #[.int .i64 t.i] 2):=⟨_,rfl⟩;rw [← hw] at Y B56;obtain ⟨b56,hb⟩:∃ x,x=w49.heap.size:=⟨_,rfl⟩;rw [← hb] at Y B56;have Nb1_b56:=nb_ hb B1;replace B1:=ba_ hw B1;have LKW_b56:=lk_ hb KW;replace KW:=ka_ hw KW;clear hw hb;refine swe_ rfl Y F fun a58 e F h19=>?_;clear Y h18;replace h16:=so_ e h16;clear e;have HOB:Hid ((Value.slice ua l.length uc).ownBlock ≠ some b1):=Lib.hid (fun e=>by have h1:=(HV.out.row.lt _ e).2;have:=LKW_b1;omega);obtain ⟨va,vc,w8,hap,hvr,ko⟩:=VRow.push (ty:=o57_2_4.type) (c2:=1) HV.out.row (Nat.le_trans HBW.out HV.out.kp.size) KW B56 (by have:=HN.out;omega);have Y:(execOp a58.eval o57_2_4).run Try.prog w57=.ok (.value (.slice va (l ++ [t.i]).length vc)) w8:=by
    unfold o57_2_4 at hap ⊢;unfold execOp;simp only [resolve,invoke,builtin,Sem.run_bind,Sem.run_pure,Result.andThen_ok,List.map_toArray,List.map_cons,List.map_nil,eval_slot h16,eval_slot h19];rw [hap];rfl
   replace B1:=B1.keep ko HOB.out;clear B56;have HV2:=Lib.hid (HV.out.trans hvr);clear HV hvr hap ko;have HV:=HV2;clear HV2;clear KW;have KW:=Keep.refl (fun g=>g < w8.heap.size) w8;refine sw_ rfl Y F fun a59 F h20=>?_;clear Y h16 h19;refine sw_ rfl (ya_ rfl h20) F fun a60 F h1=>?_;clear h20;refine st_end ?_;have⟨h2,h4⟩:=F.o2 h2 h4;clear h15;have R:=F.r;clear F;refine wp_seq (x:=c57_9) (y:=c57_27) ?_;refine wp_seq (x:=c57_10) (y:=c57_11) ?_;refine reg_in (l:=[0,1,2]) rfl ?_;have F:=fe_ R;clear R;refine sw_ rfl (yf0_ rfl (F.of h2)) F fun a61 F h21=>?_;refine sw_ rfl (yk0_ rfl h21 B1) F fun a62 F h22=>?_;clear h21;have Y:Yv a62 o57_3_2 w8 (.bool false):=by have h4:¬ t.k=4:=(by omega);unfold Yv o57_3_2;go_simp
   refine sw_ rfl Y F fun a63 F h23=>?_;clear Y h22;refine st_end ?_;have⟨h1,h2,h4⟩:=F.o3 h1 h2 h4;have R:=F.r;clear F;refine wp_cond_false (x:=c57_12) (y:=Code.skip) (eval_slot h23) ?_;refine wp_skip ?_;refine wp_seq (x:=c57_28) (y:=Code.ret) ?_;refine reg_in (l:=[0,1]) rfl ?_;have F:=fe_ R;clear R;refine sw_ rfl (ym_ rfl (F.of h1)) F fun a64 F h38=>?_;refine sw_ rfl (ya_ rfl h38) F fun a65 F h4=>?_;clear h38;refine st_end ?_;have⟨h1,h2⟩:=F.o2 h1 h2;clear h23;have R:=F.r;clear F;refine wp_ret ?_;change bodyPost Try.prog Try.f72 (fun e w'=>∃ ua' uc',e=.returned (.slice ua' (t.tree.acc l).length uc')∧VRow BB W w' (.slice ua l.length uc) (.slice ua' (t.tree.acc l).length uc') (t.tree.acc l)) .ret a65 w8;refine ret_one rfl R h4 ?_;exact fin_v (HV.out.on KW) (acc_new HIN.out (by omega))
  | true =>
   have Y:Yv a50 o57_1_8 w49 (.bool false):=by unfold Yv o57_1_8;go_simp
   refine st_val rfl rfl (wanted_is (j:=3) (d:=9) rfl rfl h9 rfl) Y fun a66 e=>?_;clear Y;clear h13;have h14:=pt_ F e;replace F:=pu_ F e;replace h9:=so_ e h9;clear e;have Y:Yv a66 o57_1_9 w49 (.bool false):=by unfold Yv o57_1_9;go_simp
   refine sw_ rfl Y F fun a67 F h15=>?_;clear Y h9 h14;refine st_end ?_;have⟨h1,h2,h4⟩:=F.o3 h1 h2 h4;have R:=F.r;clear F;refine wp_cond_false (x:=c57_6) (y:=Code.skip) (eval_slot h15) ?_;refine wp_skip ?_;refine wp_seq (x:=c57_9) (y:=c57_27) ?_;refine wp_seq (x:=c57_10) (y:=c57_11) ?_;refine reg_in (l:=[0,1,2]) rfl ?_;have F:=fe_ R;clear R;refine sw_ rfl (yf0_ rfl (F.of h2)) F fun a68 F h21=>?_;refine sw_ rfl (yk0_ rfl h21 B1) F fun a69 F h22=>?_;clear h21;have Y:Yv a69 o57_3_2 w49 (.bool false):=by have h4:¬ t.k=4:=(by omega);unfold Yv o57_3_2;go_simp
   refine sw_ rfl Y F fun a70 F h23=>?_;clear Y h22;refine st_end ?_;have⟨h1,h2,h4⟩:=F.o3 h1 h2 h4;clear h15;have R:=F.r;clear F;refine wp_cond_false (x:=c57_12) (y:=Code.skip) (eval_slot h23) ?_;refine wp_skip ?_;refine wp_seq (x:=c57_28) (y:=Code.ret) ?_;refine reg_in (l:=[0,1]) rfl ?_;have F:=fe_ R;clear R;refine sw_ rfl (ym_ rfl (F.of h1)) F fun a71 F h38=>?_;refine sw_ rfl (ya_ rfl h38) F fun a72 F h4=>?_;clear h38;refine st_end ?_;have⟨h1,h2⟩:=F.o2 h1 h2;clear h23;have R:=F.r;clear F;refine wp_ret ?_;change bodyPost Try.prog Try.f72 (fun e w'=>∃ ua' uc',e=.returned (.slice ua' (t.tree.acc l).length uc')∧VRow BB W w' (.slice ua l.length uc) (.slice ua' (t.tree.acc l).length uc') (t.tree.acc l)) .ret a72 w49;refine ret_one rfl R h4 ?_;exact fin_v (HV.out.on KW) (by first | exact acc_in HIN.out (by omega) | exact acc_no HOK.out (by omega) (by omega))
theorem refvars_any (BB:Nat):∀ (t:Tm),t.ok=true→∀ (l:List Int) (W:World) (a:Option Addr) (c:Nat) (ua:Option Addr) (uc:Nat),l.length + t.ns ≤ 4000→TmAt BB W t a c→BB ≤ W.heap.size→W.ownsRow BB 2 1 (.slice ua l.length uc) l.length (l.map (Value.int .i64)) →
    Calls Try.prog 72 #[tv t a c,.slice ua l.length uc] W fun e w'=>∃ ua' uc',e=.returned (.slice ua' (t.tree.acc l).length uc')∧VRow BB W w' (.slice ua l.length uc) (.slice ua' (t.tree.acc l).length uc') (t.tree.acc l):=by
  intro t;induction t using Tm.ind with
  | h k nm i args ih =>
    intro hok l W a c ua uc hl hT hB hr;refine enter_sx Try.func72 body57 rfl (by show (2:Nat) ≤ 39;decide) fun f0 R hs=>?_;exact vars_w R (hs 0 _ rfl) (hs 1 _ rfl) (Keep.refl _ W) (Lib.hid hT) (Lib.hid hB) (Lib.hid hok) (Lib.hid hl) (Lib.hid (VRow.refl hr)) (Lib.hid fun g hg=>(hr.lt g hg).1) (Lib.hid fun x hx=>ih x hx)
def o25_0_0:Oper:=⟨some 1,.box 24 (.tmp 0),0, "ref.go:89",#[],none⟩
def o25_0_1:Oper:=⟨some 2,.assign (.const (.slice none 0 0)),56, "ref.go:89",#[],none⟩
def O25_0:Array Oper:=#[o25_0_0,o25_0_1]
def c25_1:Code:=.region 0 O25_0 false
def o25_1_0:Oper:=⟨some 3,.load 24 (.tmp 1),24, "ref.go:89",#[],none⟩
def o25_1_1:Oper:=⟨some 4,.buildSlice 56 0 #[],56, "ref.go:89",#[],none⟩
def o25_1_2:Oper:=⟨some 5,.call { callee:=.value (.func 72),args:=#[.tmp 3,.tmp 4],argTypes:=#[24,56] },56, "ref.go:89",#[ed_ 0,ed_ 1],none⟩
def o25_1_3:Oper:=⟨some 2,.assign (.tmp 5),56, "ref.go:89",#[ed_ 2,ec_ 2,ep_ 0,ep_ 1,ep_ 2],none⟩
def O25_1:Array Oper:=#[o25_1_0,o25_1_1,o25_1_2,o25_1_3]
def c25_3:Code:=.region 1 O25_1 false
def c25_2:Code:=.seq c25_3 Code.ret
def c25_0:Code:=.seq c25_1 c25_2
theorem en25_57:Enters Try.prog 72:=enters_of Try.func72 (by kernel_rfl) rfl
theorem body25:Try.f50.body=some c25_0:=by kernel_rfl
theorem row_lower {w:World} {B B' sz n:Nat} {ty:TypeId} {v:Value} {xs:List Value} (h:w.ownsRow B ty sz v n xs) (hB:B' ≤ B):w.ownsRow B' ty sz v n xs:=by
  refine ⟨h.1,?_⟩;rcases h.2 with h | ⟨g,cap,cur,e,hb,r⟩
  · exact .inl h
  · exact .inr ⟨g,cap,cur,e,Nat.le_trans hB hb,r⟩
set_option maxRecDepth 100000 in
set_option maxHeartbeats 4000000 in
theorem Vars_w {W:World} {t:Tm} {a:Option Addr} {c:Nat} {f0:Act} {w0:World} (R:FrS 6 f0) (h0:f0.tmps[0]? = some (.agg #[.int .i64 t.k,.string (str t.nm),.int .i64 t.i,.slice a t.args.length c])) (K1:Keep (fun g=>g < W.heap.size) W w0)  (HT:Hid (TmAt W.heap.size W t a c)) (HOK:Hid (t.ok=true)) (HN:Hid (t.ns ≤ 4000)):c25_0.wp Try.prog (bodyPost Try.prog Try.f50 (fun e w'=>∃ ua uc,e=.returned (.slice ua t.tree.vars.length uc)∧w'.ownsRow W.heap.size 2 1 (.slice ua t.tree.vars.length uc) t.tree.vars.length (t.tree.vars.map (Value.int .i64))∧Keep (fun g=>g < W.heap.size) W w')) f0 w0:=by
 refine wp_seq (x:=c25_1) (y:=c25_2) ?_;refine reg_in (l:=[0,1]) rfl ?_;have F:=fe_ R;clear R;have Y:(execOp f0.eval o25_0_0).run Try.prog w0=.ok (.value (.pointer (some ⟨w0.heap.size,0,none⟩))) (w0.alloc (.cells #[.int .i64 t.k,.string (str t.nm),.int .i64 t.i,.slice a t.args.length c] 24)):=by have r0:=F.of h0;unfold o25_0_0;go_simp
 have B1:=Blk.new w0 24 #[.int .i64 t.k,.string (str t.nm),.int .i64 t.i,.slice a t.args.length c];obtain ⟨w2,hw⟩:∃ x,x=w0.alloc (.cells #[.int .i64 t.k,.string (str t.nm),.int .i64 t.i,.slice a t.args.length c] 24):=⟨_,rfl⟩;rw [← hw] at Y B1;obtain ⟨b1,hb⟩:∃ x,x=w0.heap.size:=⟨_,rfl⟩;rw [← hb] at Y B1;have LK1_b1:=lk_ hb K1;replace K1:=ka_ hw K1;clear hw hb;refine sw_ rfl Y F fun a3 F h1=>?_;clear Y;have Y:Yv a3 o25_0_1 w2 (Value.slice none 0 0):=by unfold Yv o25_0_1;go_simp
 refine swe_ rfl Y F fun a4 e F h2=>?_;clear Y;replace h1:=so_ e h1;clear e;refine st_end ?_;clear h0;have R:=F.r;clear F;refine wp_seq (x:=c25_3) (y:=Code.ret) ?_;refine reg_in (l:=[0,1,2,3]) rfl ?_;have F:=fe_ R;clear R;refine sw_ rfl (yl4_ rfl (F.of h1) B1) F fun a5 F h3=>?_;have Y:(execOp a5.eval o25_1_1).run Try.prog w2=.ok (.value (.slice (some ⟨w2.heap.size,0,none⟩) 0 0)) (w2.alloc (.cells #[] 2)):=by unfold o25_1_1;go_simp
 have B6:=Blk.new w2 2 #[];obtain ⟨w7,hw⟩:∃ x,x=w2.alloc (.cells #[] 2):=⟨_,rfl⟩;rw [← hw] at Y B6;obtain ⟨b6,hb⟩:∃ x,x=w2.heap.size:=⟨_,rfl⟩;rw [← hb] at Y B6;have Nb1_b6:=nb_ hb B1;replace B1:=ba_ hw B1;have LK1_b6:=lk_ hb K1;replace K1:=ka_ hw K1;clear hw hb;refine swe_ rfl Y F fun a8 e F h4=>?_;clear Y;replace h3:=so_ e h3;clear e;have hcall:=refvars_any b6 t HOK.out [] w7 a c (some ⟨b6,0,none⟩) 0 (by have:=HN.out;simp;omega) ((HT.out.keepX K1 (fun _ h=>h)).up LK1_b6) (Nat.le_of_lt B6.lt) (row_made0L B6 (Nat.le_refl _));have hB9:=B6.lt;refine st_call rfl rfl (wanted_free rfl) (yc2_ en25_57 rfl h3 h4) ((hcall).mono ?_);rintro e9 w9 ⟨va,vc,rfl,hvr⟩;have HR:=Lib.hid (row_lower hvr.row LK1_b6);replace K1:=K1.trans ((hvr.below (Nat.le_of_lt hB9) (fun g hg=>by cases hg;exact Nat.le_refl _)).less (fun g hg=>Nat.lt_of_lt_of_le hg LK1_b6));clear hvr hcall hB9;clear B1;clear B6;refine ⟨_,rfl,fun a10 e=>?_⟩;clear h3 h4;have h5:=pt_ F e;replace F:=pu_ F e;clear e;refine sw_ rfl (ya_ rfl h5) F fun a11 F h2=>?_;clear h5;refine st_end ?_;clear h1;have R:=F.r;clear F;refine wp_ret ?_;change bodyPost Try.prog Try.f50 (fun e w'=>∃ ua uc,e=.returned (.slice ua t.tree.vars.length uc)∧w'.ownsRow W.heap.size 2 1 (.slice ua t.tree.vars.length uc) t.tree.vars.length (t.tree.vars.map (Value.int .i64))∧Keep (fun g=>g < W.heap.size) W w') .ret a11 w9;refine ret_one rfl R h2 ?_;exact ⟨va,vc,rfl,HR.out,K1⟩
theorem refVars_any {W:World} {t:Tm} {a:Option Addr} {c:Nat} (hT:TmAt W.heap.size W t a c) (hok:t.ok=true) (hn:t.ns ≤ 4000):Calls Try.prog 50 #[tv t a c] W fun e w'=>∃ ua uc,e=.returned (.slice ua t.tree.vars.length uc)∧w'.ownsRow W.heap.size 2 1 (.slice ua t.tree.vars.length uc) t.tree.vars.length (t.tree.vars.map (Value.int .i64))∧Keep (fun g=>g < W.heap.size) W w':=by
  refine enter_sx Try.func50 body25 rfl (by show (1:Nat) ≤ 6;decide) fun f0 R hs=>?_;exact Vars_w R (hs 0 _ rfl) (Keep.refl _ W) (Lib.hid hT) (Lib.hid hok) (Lib.hid hn)
end Go.Proofs.Ytjinmnekfhekpaa
