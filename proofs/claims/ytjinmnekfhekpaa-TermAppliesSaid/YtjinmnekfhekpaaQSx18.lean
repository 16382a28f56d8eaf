/-
  The document's grown: walked with letter frames. No condition but where the terms lie.
-/
import Derived.Test.YtjinmnekfhekpaaQSx13
import Derived.Test.YtjinmnekfhekpaaQSx10
namespace Go.Proofs.Ytjinmnekfhekpaa
open Go.RowKit Go.Maps
set_option linter.unusedVariables false
set_option linter.unusedSimpArgs false
mutual
def grT (f:Tm→Nat):Tm→Nat
  | .node k nm i args=>if k=4 then 1 + grTL f args else f (.node k nm i args)
def grTL (f:Tm→Nat):List Tm→Nat
  | []=>0
  | t::ts=>grT f t + grTL f ts
end
theorem grT_4 {f:Tm→Nat} {t:Tm} (h:t.k=4):grT f t=1 + grTL f t.args:=by cases t;simp only [Tm.k] at h;rw [grT,if_pos h];rfl
theorem grT_n {f:Tm→Nat} {t:Tm} (h:¬ t.k=4):grT f t=f t:=by cases t;simp only [Tm.k] at h;rw [grT,if_neg h]
theorem grTL_app (f:Tm→Nat):∀ (a b:List Tm),grTL f (a ++ b)=grTL f a + grTL f b
  | [],b=>by rw [List.nil_append,grTL];omega
  | x::a,b=>by rw [List.cons_append,grTL,grTL,grTL_app f a b];omega
def grL (bs:List BP) (t:Tm):Nat:=if t.k=1 then (match bs.find? (fun q=>q.1 == t.i) with | some q=>min q.2.1.ns 2001 | none=>1) else 1
theorem grL_le (bs:List BP) (t:Tm):grL bs t ≤ 2001:=by
  unfold grL;split
  · split <;> omega
  · omega
theorem grT_le (bs:List BP):∀ t:Tm,grT (grL bs) t ≤ 2001 * t.ns:=by
  intro t;induction t using Tm.ind with
  | h k nm i args ih =>
    by_cases h4:(Tm.node k nm i args).k=4
    · rw [grT_4 h4,Tm.ns_eq,if_pos h4];have go:∀ l:List Tm,(∀ x ∈ l,grT (grL bs) x ≤ 2001 * x.ns)→grTL (grL bs) l ≤ 2001 * nsL l:=by
        intro l;induction l with
        | nil=>intro _;rw [grTL];omega
        | cons x l ih2 =>
          intro h;rw [grTL,nsL_cons];have h1:=h x List.mem_cons_self;have h2:=ih2 fun y hy=>h y (List.mem_cons_of_mem _ hy);omega
      have:=go args ih;show 1 + grTL (grL bs) args ≤ 2001 * (1 + nsL args);omega
    · rw [grT_n h4,Tm.ns_eq,if_neg h4];have:=grL_le bs (Tm.node k nm i args);omega
def grA (bs:List BP) (t:Tm) (j:Nat):Nat:=1 + grTL (grL bs) (t.args.take j)
theorem grA_succ {bs:List BP} {t x:Tm} {j:Nat} (h:t.args[j]? = some x):grA bs t (j + 1)=grA bs t j + grT (grL bs) x:=by
  obtain ⟨hj,he⟩:=List.getElem?_eq_some_iff.1 h;unfold grA;rw [List.take_succ_eq_append_getElem hj,grTL_app,he,grTL,grTL];omega
theorem grA_le {bs:List BP} {t:Tm} (j:Nat) (h4:t.k=4) (hn:t.ns ≤ 2000):grA bs t j ≤ 5000000:=by
  have h1:=grT_le bs t;rw [grT_4 h4] at h1;have h2:grTL (grL bs) t.args=grTL (grL bs) (t.args.take j) + grTL (grL bs) (t.args.drop j):=by rw [← grTL_app,List.take_append_drop]
  unfold grA;omega
theorem grA_all {bs:List BP} {t:Tm} {j:Nat} (h4:t.k=4) (hj:t.args.length ≤ j):grT (grL bs) t=grA bs t j:=by
  unfold grA;rw [List.take_of_length_le hj,grT_4 h4]
theorem gr_hit {bs:List BP} {t:Tm} {i:Nat} {q:BP} (h1:t.k=1) (hq:bs[i]? = some q) (he:q.1=t.i) (hn:∀ r ∈ bs.take i,r.1 ≠ t.i):grT (grL bs) t=min q.2.1.ns 2001:=by
  rw [grT_n (by omega)];unfold grL;rw [if_pos h1];obtain ⟨hi,hg⟩:=List.getElem?_eq_some_iff.1 hq;have hb:bs=bs.take i ++ q::bs.drop (i + 1):=by rw [← hg,← List.drop_eq_getElem_cons hi,List.take_append_drop]
  have hf:bs.find? (fun q=>q.1 == t.i)=some q:=by
    rw [hb,List.find?_append];have h0:(bs.take i).find? (fun q=>q.1 == t.i)=none:=List.find?_eq_none.2 fun r hr=>by simpa using hn r hr
    rw [h0];simp [he]
  rw [hf]
theorem gr_miss {bs:List BP} {t:Tm} {i:Nat} (h1:t.k=1) (hi:bs.length ≤ i) (hn:∀ r ∈ bs.take i,r.1 ≠ t.i):grT (grL bs) t=1:=by
  rw [grT_n (by omega)];unfold grL;rw [if_pos h1,List.find?_eq_none.2 fun r hr=>by rw [List.take_of_length_le hi] at hn;simpa using hn r hr]
theorem gr_no {bs:List BP} {t:Tm} (h1:¬ t.k=1) (h4:¬ t.k=4):grT (grL bs) t=1:=by
  rw [grT_n h4];unfold grL;rw [if_neg h1]
def o69_0_0:Oper:=⟨some 2,.box 24 (.tmp 0),0, "ref.go:369",#[],none⟩
def o69_0_1:Oper:=⟨some 4,.assign (.const (.int .i64 0)),3, "ref.go:369",#[],none⟩
def O69_0:Array Oper:=#[o69_0_0,o69_0_1]
def c69_1:Code:=.region 0 O69_0 false
def o69_1_0:Oper:=⟨some 8,.fieldAddr 24 (.tmp 2) 0,0, "ref.go:370",#[],none⟩
def o69_1_1:Oper:=⟨some 9,.load 3 (.tmp 8),3, "ref.go:370",#[ed_ 0],none⟩
def o69_1_2:Oper:=⟨some 10,.binOp .eql 3 (.tmp 9) (.const (.int .i64 1)) 3,4, "ref.go:370",#[ed_ 1],none⟩
def O69_1:Array Oper:=#[o69_1_0,o69_1_1,o69_1_2]
def c69_4:Code:=.region 1 O69_1 false
def o69_2_0:Oper:=⟨some 5,.assign (.const (.int .i64 0)),3, "ref.go:371",#[],none⟩
def O69_2:Array Oper:=#[o69_2_0]
def c69_7:Code:=.region 2 O69_2 false
def o69_3_0:Oper:=⟨some 11,.move (.tmp 5),3, "ref.go:371",#[],none⟩
def o69_3_1:Oper:=⟨some 12,.move (.tmp 1),25, "ref.go:371",#[],none⟩
def o69_3_2:Oper:=⟨some 13,.call { callee:=.builtin .len,args:=#[.tmp 12],argTypes:=#[25] },3, "ref.go:371",#[ed_ 1],none⟩
def o69_3_3:Oper:=⟨some 14,.binOp .lss 3 (.tmp 11) (.tmp 13) 3,4, "ref.go:371",#[ed_ 0,ed_ 2],none⟩
def O69_3:Array Oper:=#[o69_3_0,o69_3_1,o69_3_2,o69_3_3]
def c69_12:Code:=.region 3 O69_3 false
def c69_15:Code:=.exit 0
def c69_13:Code:=.cond (Operand.tmp 14) Code.skip c69_15
def c69_11:Code:=.seq c69_12 c69_13
def o69_5_0:Oper:=⟨some 17,.move (.tmp 1),25, "ref.go:372",#[],none⟩
def o69_5_1:Oper:=⟨some 18,.move (.tmp 5),3, "ref.go:372",#[],none⟩
def o69_5_2:Oper:=⟨some 19,.indexAddr 25 (.tmp 17) (.tmp 18),0, "ref.go:372",#[ed_ 0,ed_ 1],none⟩
def o69_5_3:Oper:=⟨some 20,.fieldAddr 29 (.tmp 19) 0,0, "ref.go:372",#[ed_ 2],none⟩
def o69_5_4:Oper:=⟨some 21,.load 2 (.tmp 20),2, "ref.go:372",#[ed_ 3],none⟩
def o69_5_5:Oper:=⟨some 22,.fieldAddr 24 (.tmp 2) 2,0, "ref.go:372",#[],none⟩
def o69_5_6:Oper:=⟨some 23,.load 2 (.tmp 22),2, "ref.go:372",#[ed_ 5],none⟩
def o69_5_7:Oper:=⟨some 24,.binOp .eql 2 (.tmp 21) (.tmp 23) 2,4, "ref.go:372",#[ed_ 4,ed_ 6],none⟩
def O69_5:Array Oper:=#[o69_5_0,o69_5_1,o69_5_2,o69_5_3,o69_5_4,o69_5_5,o69_5_6,o69_5_7]
theorem ns69_5:Region.noSelect O69_5=true:=by kernel_rfl
def c69_19:Code:=.region 5 O69_5 true
def o69_6_0:Oper:=⟨some 25,.move (.tmp 1),25, "ref.go:373",#[],none⟩
def o69_6_1:Oper:=⟨some 26,.move (.tmp 5),3, "ref.go:373",#[],none⟩
def o69_6_2:Oper:=⟨some 27,.indexAddr 25 (.tmp 25) (.tmp 26),0, "ref.go:373",#[ed_ 0,ed_ 1],none⟩
def o69_6_3:Oper:=⟨some 28,.fieldAddr 29 (.tmp 27) 1,0, "ref.go:373",#[ed_ 2],none⟩
def o69_6_4:Oper:=⟨some 29,.load 24 (.tmp 28),24, "ref.go:373",#[ed_ 3],none⟩
def o69_6_5:Oper:=⟨some 30,.call { callee:=.value (.func 42),args:=#[.tmp 29,.const (.int .i64 2000)],argTypes:=#[24,3] },3, "ref.go:373",#[ed_ 4],none⟩
def o69_6_6:Oper:=⟨some 4,.assign (.tmp 30),3, "ref.go:373",#[ed_ 5,ec_ 5,ep_ 0,ep_ 1,ep_ 2,ep_ 3,ep_ 4,ep_ 5],none⟩
def O69_6:Array Oper:=#[o69_6_0,o69_6_1,o69_6_2,o69_6_3,o69_6_4,o69_6_5,o69_6_6]
def c69_22:Code:=.region 6 O69_6 false
def c69_21:Code:=.seq c69_22 Code.ret
def c69_20:Code:=.cond (Operand.tmp 24) c69_21 Code.skip
def c69_18:Code:=.seq c69_19 c69_20
def c69_17:Code:=.block 1 c69_18
def o69_4_0:Oper:=⟨some 15,.move (.tmp 5),3, "ref.go:371",#[],none⟩
def o69_4_1:Oper:=⟨some 16,.binOp .add 3 (.tmp 15) (.const (.int .i64 1)) 3,3, "ref.go:371",#[ed_ 0],none⟩
def o69_4_2:Oper:=⟨some 5,.assign (.tmp 16),3, "ref.go:371",#[ed_ 1,ep_ 0,ep_ 1],none⟩
def O69_4:Array Oper:=#[o69_4_0,o69_4_1,o69_4_2]
def c69_25:Code:=.region 4 O69_4 false
def c69_16:Code:=.seq c69_17 c69_25
def c69_10:Code:=.seq c69_11 c69_16
def c69_9:Code:=.loop c69_10
def c69_8:Code:=.block 0 c69_9
def c69_6:Code:=.seq c69_7 c69_8
def c69_5:Code:=.cond (Operand.tmp 10) c69_6 Code.skip
def c69_3:Code:=.seq c69_4 c69_5
def o69_7_0:Oper:=⟨some 6,.assign (.const (.int .i64 1)),3, "ref.go:377",#[],none⟩
def O69_7:Array Oper:=#[o69_7_0]
def c69_28:Code:=.region 7 O69_7 false
def o69_8_0:Oper:=⟨some 31,.fieldAddr 24 (.tmp 2) 0,0, "ref.go:378",#[],none⟩
def o69_8_1:Oper:=⟨some 32,.load 3 (.tmp 31),3, "ref.go:378",#[ed_ 0],none⟩
def o69_8_2:Oper:=⟨some 33,.binOp .eql 3 (.tmp 32) (.const (.int .i64 4)) 3,4, "ref.go:378",#[ed_ 1],none⟩
def O69_8:Array Oper:=#[o69_8_0,o69_8_1,o69_8_2]
def c69_31:Code:=.region 8 O69_8 false
def o69_9_0:Oper:=⟨some 7,.assign (.const (.int .i64 0)),3, "ref.go:379",#[],none⟩
def O69_9:Array Oper:=#[o69_9_0]
def c69_34:Code:=.region 9 O69_9 false
def o69_10_0:Oper:=⟨some 34,.move (.tmp 7),3, "ref.go:379",#[],none⟩
def o69_10_1:Oper:=⟨some 35,.fieldAddr 24 (.tmp 2) 3,0, "ref.go:379",#[],none⟩
def o69_10_2:Oper:=⟨some 36,.load 22 (.tmp 35),22, "ref.go:379",#[ed_ 1],none⟩
def o69_10_3:Oper:=⟨some 37,.call { callee:=.builtin .len,args:=#[.tmp 36],argTypes:=#[22] },3, "ref.go:379",#[ed_ 2],none⟩
def o69_10_4:Oper:=⟨some 38,.binOp .lss 3 (.tmp 34) (.tmp 37) 3,4, "ref.go:379",#[ed_ 0,ed_ 3],none⟩
def O69_10:Array Oper:=#[o69_10_0,o69_10_1,o69_10_2,o69_10_3,o69_10_4]
def c69_39:Code:=.region 10 O69_10 false
def c69_42:Code:=.exit 2
def c69_40:Code:=.cond (Operand.tmp 38) Code.skip c69_42
def c69_38:Code:=.seq c69_39 c69_40
def o69_12_0:Oper:=⟨some 41,.move (.tmp 6),3, "ref.go:380",#[],none⟩
def o69_12_1:Oper:=⟨some 42,.fieldAddr 24 (.tmp 2) 3,0, "ref.go:380",#[],none⟩
def o69_12_2:Oper:=⟨some 43,.load 22 (.tmp 42),22, "ref.go:380",#[ed_ 1],none⟩
def o69_12_3:Oper:=⟨some 44,.move (.tmp 7),3, "ref.go:380",#[],none⟩
def o69_12_4:Oper:=⟨some 45,.indexAddr 22 (.tmp 43) (.tmp 44),0, "ref.go:380",#[ed_ 2,ed_ 3],none⟩
def o69_12_5:Oper:=⟨some 46,.load 24 (.tmp 45),24, "ref.go:380",#[ed_ 4],none⟩
def o69_12_6:Oper:=⟨some 47,.move (.tmp 1),25, "ref.go:380",#[],none⟩
def o69_12_7:Oper:=⟨some 48,.call { callee:=.value (.func 51),args:=#[.tmp 46,.tmp 47],argTypes:=#[24,25] },3, "ref.go:380",#[ed_ 5,ed_ 6],none⟩
def o69_12_8:Oper:=⟨some 49,.binOp .add 3 (.tmp 41) (.tmp 48) 3,3, "ref.go:380",#[ed_ 0,ed_ 7],none⟩
def o69_12_9:Oper:=⟨some 6,.assign (.tmp 49),3, "ref.go:380",#[ed_ 8,ec_ 7,ep_ 0,ep_ 1,ep_ 2,ep_ 3,ep_ 4,ep_ 5,ep_ 6,ep_ 7,ep_ 8],none⟩
def O69_12:Array Oper:=#[o69_12_0,o69_12_1,o69_12_2,o69_12_3,o69_12_4,o69_12_5,o69_12_6,o69_12_7,o69_12_8,o69_12_9]
def c69_45:Code:=.region 12 O69_12 false
def c69_44:Code:=.block 3 c69_45
def o69_11_0:Oper:=⟨some 39,.move (.tmp 7),3, "ref.go:379",#[],none⟩
def o69_11_1:Oper:=⟨some 40,.binOp .add 3 (.tmp 39) (.const (.int .i64 1)) 3,3, "ref.go:379",#[ed_ 0],none⟩
def o69_11_2:Oper:=⟨some 7,.assign (.tmp 40),3, "ref.go:379",#[ed_ 1,ep_ 0,ep_ 1],none⟩
def O69_11:Array Oper:=#[o69_11_0,o69_11_1,o69_11_2]
def c69_46:Code:=.region 11 O69_11 false
def c69_43:Code:=.seq c69_44 c69_46
def c69_37:Code:=.seq c69_38 c69_43
def c69_36:Code:=.loop c69_37
def c69_35:Code:=.block 2 c69_36
def c69_33:Code:=.seq c69_34 c69_35
def c69_32:Code:=.cond (Operand.tmp 33) c69_33 Code.skip
def c69_30:Code:=.seq c69_31 c69_32
def o69_13_0:Oper:=⟨some 50,.move (.tmp 6),3, "ref.go:383",#[],none⟩
def o69_13_1:Oper:=⟨some 4,.assign (.tmp 50),3, "ref.go:383",#[ed_ 0,ep_ 0],none⟩
def O69_13:Array Oper:=#[o69_13_0,o69_13_1]
def c69_49:Code:=.region 13 O69_13 false
def c69_48:Code:=.seq c69_49 Code.ret
def c69_29:Code:=.seq c69_30 c69_48
def c69_27:Code:=.seq c69_28 c69_29
def c69_2:Code:=.seq c69_3 c69_27
def c69_0:Code:=.seq c69_1 c69_2
theorem en69_69:Enters Try.prog 51:=enters_of Try.func51 (by kernel_rfl) rfl
theorem body69:Try.f51.body=some c69_0:=by kernel_rfl
set_option maxRecDepth 100000 in
set_option maxHeartbeats 4000000 in
theorem grown_w {W:World} {t:Tm} {a sa:Option Addr} {c sc:Nat} {bs:List BP} {f0:Act} {w0:World} (R:FrS 51 f0) (h0:f0.tmps[0]? = some (.agg #[.int .i64 t.k,.string (str t.nm),.int .i64 t.i,.slice a t.args.length c])) (h1:f0.tmps[1]? = some (.slice sa bs.length sc)) (K1:Keep (fun g=>g < W.heap.size) W w0)  (HT:Hid (TmAt W.heap.size W t a c)) (HN:Hid (t.ns ≤ 2000)) (HS:Hid (BSl W.heap.size W sa bs)) (HLB:Hid (bs.length ≤ 100000)) (HIH:Hid (∀ x ∈ t.args,x.ns ≤ 2000→∀ (w:World) (a:Option Addr) (c:Nat) (sa:Option Addr) (sc:Nat),TmAt w.heap.size w x a c→BSl w.heap.size w sa bs→Calls Try.prog 51 #[tv x a c,.slice sa bs.length sc] w fun e w'=>e=.returned (.int .i64 ((grT (grL bs) x:Nat):Int))∧Keep (fun g=>g < w.heap.size) w w')):c69_0.wp Try.prog (bodyPost Try.prog Try.f51 (fun e w'=>e=.returned (.int .i64 ((grT (grL bs) t:Nat):Int))∧Keep (fun g=>g < W.heap.size) W w')) f0 w0:=by
 refine wp_seq (x:=c69_1) (y:=c69_2) ?_;refine reg_in (l:=[0,1]) rfl ?_;have F:=fe_ R;clear R;have Y:(execOp f0.eval o69_0_0).run Try.prog w0=.ok (.value (.pointer (some ⟨w0.heap.size,0,none⟩))) (w0.alloc (.cells #[.int .i64 t.k,.string (str t.nm),.int .i64 t.i,.slice a t.args.length c] 24)):=by have r0:=F.of h0;unfold o69_0_0;go_simp
 have B1:=Blk.new w0 24 #[.int .i64 t.k,.string (str t.nm),.int .i64 t.i,.slice a t.args.length c];obtain ⟨w2,hw⟩:∃ x,x=w0.alloc (.cells #[.int .i64 t.k,.string (str t.nm),.int .i64 t.i,.slice a t.args.length c] 24):=⟨_,rfl⟩;rw [← hw] at Y B1;obtain ⟨b1,hb⟩:∃ x,x=w0.heap.size:=⟨_,rfl⟩;rw [← hb] at Y B1;have LK1_b1:=lk_ hb K1;replace K1:=ka_ hw K1;clear hw hb;refine sw_ rfl Y F fun a3 F h2=>?_;clear Y;have Y:Yv a3 o69_0_1 w2 (.int .i64 0):=by unfold Yv o69_0_1;go_simp
 refine swe_ rfl Y F fun a4 e F h4=>?_;clear Y;replace h2:=so_ e h2;clear e;refine st_end ?_;clear h0;replace h1:=F.of h1;have R:=F.r;clear F;refine wp_seq (x:=c69_3) (y:=c69_27) ?_;refine wp_seq (x:=c69_4) (y:=c69_5) ?_;refine reg_in (l:=[0,1,2]) rfl ?_;have F:=fe_ R;clear R;refine sw_ rfl (yf0_ rfl (F.of h2)) F fun a5 F h8=>?_;refine sw_ rfl (yk0_ rfl h8 B1) F fun a6 F h9=>?_;clear h8;obtain ⟨b7,hb7⟩:∃ x,(((t.k:Int) == (1:Int)))=x:=⟨_,rfl⟩;have Y:Yv a6 o69_1_2 w2 (.bool b7):=by rw [← hb7];unfold Yv o69_1_2;go_simp
 refine sw_ rfl Y F fun a8 F h10=>?_;clear Y h9;refine st_end ?_;have⟨h1,h2,h4⟩:=F.o3 h1 h2 h4;have R:=F.r;clear F;cases b7 with
 | false =>
  have fb7:=hb7;clear hb7;simp only [dd_] at fb7;refine wp_cond_false (x:=c69_6) (y:=Code.skip) (eval_slot h10) ?_;refine wp_skip ?_;refine wp_seq (x:=c69_28) (y:=c69_29) ?_;refine reg_in (l:=[0]) rfl ?_;have F:=fe_ R;clear R;have Y:Yv a8 o69_7_0 w2 (.int .i64 1):=by unfold Yv o69_7_0;go_simp
  refine sw_ rfl Y F fun a9 F h6=>?_;clear Y;refine st_end ?_;have⟨h1,h2,h4⟩:=F.o3 h1 h2 h4;clear h10;have R:=F.r;clear F;refine wp_seq (x:=c69_30) (y:=c69_48) ?_;refine wp_seq (x:=c69_31) (y:=c69_32) ?_;refine reg_in (l:=[0,1,2]) rfl ?_;have F:=fe_ R;clear R;refine sw_ rfl (yf0_ rfl (F.of h2)) F fun a10 F h31=>?_;refine sw_ rfl (yk0_ rfl h31 B1) F fun a11 F h32=>?_;clear h31;obtain ⟨b12,hb12⟩:∃ x,(((t.k:Int) == (4:Int)))=x:=⟨_,rfl⟩;have Y:Yv a11 o69_8_2 w2 (.bool b12):=by rw [← hb12];unfold Yv o69_8_2;go_simp
  refine sw_ rfl Y F fun a13 F h33=>?_;clear Y h32;refine st_end ?_;have⟨h1,h2,h4,h6⟩:=F.o4 h1 h2 h4 h6;have R:=F.r;clear F;cases b12 with
  | false =>
   have fb12:=hb12;clear hb12;simp only [dd_] at fb12;refine wp_cond_false (x:=c69_33) (y:=Code.skip) (eval_slot h33) ?_;refine wp_skip ?_;refine wp_seq (x:=c69_49) (y:=Code.ret) ?_;refine reg_in (l:=[0,1]) rfl ?_;have F:=fe_ R;clear R;refine sw_ rfl (ym_ rfl (F.of h6)) F fun a14 F h50=>?_;refine sw_ rfl (ya_ rfl h50) F fun a15 F h4=>?_;clear h50;refine st_end ?_;clear h1;clear h2;clear h6;clear h33;have R:=F.r;clear F;refine wp_ret ?_;change bodyPost Try.prog Try.f51 (fun e w'=>e=.returned (.int .i64 ((grT (grL bs) t:Nat):Int))∧Keep (fun g=>g < W.heap.size) W w') .ret a15 w2;refine ret_one rfl R h4 ?_
   first | exact ⟨by rw [gr_no (by omega) (by omega)];rfl,K1⟩ | exact ⟨by rw [gr_miss (by omega) (by omega) HNO.out];rfl,K1⟩
  | true =>
   have fb12:=hb12;clear hb12;simp only [dd_] at fb12;refine wp_cond_true (x:=c69_33) (y:=Code.skip) (eval_slot h33) ?_;refine wp_seq (x:=c69_34) (y:=c69_35) ?_;refine reg_in (l:=[0]) rfl ?_;have F:=fe_ R;clear R;have Y:Yv a13 o69_9_0 w2 (.int .i64 0):=by unfold Yv o69_9_0;go_simp
   refine sw_ rfl Y F fun a16 F h7=>?_;clear Y;refine st_end ?_;have⟨h1,h2,h4,h6⟩:=F.o4 h1 h2 h4 h6;clear h33;have R:=F.r;clear F;refine wp_block (id:=2) (c:=c69_36) ?_;have HLN:Hid (t.args.length ≤ 2000):=Lib.hid (Nat.le_trans (args_ns (by omega)) HN.out);refine wp_loop_ghost (c:=c69_37) (fun n fX wX=>∃ j:Nat,n=t.args.length - j∧FrS 51 fX∧fX.tmps[1]? = some (.slice sa bs.length sc)∧fX.tmps[2]? = some (.pointer (some ⟨b1,0,none⟩))∧fX.tmps[4]? = some (.int .i64 0)∧fX.tmps[6]? = some (.int .i64 ((grA bs t j:Nat):Int))∧fX.tmps[7]? = some (.int .i64 (j:Int))∧Keep (fun g=>g < W.heap.size) W wX∧Blk wX b1 24 #[.int .i64 t.k,.string (str t.nm),.int .i64 t.i,.slice a t.args.length c]∧j ≤ t.args.length) (t.args.length - 0) ⟨0,rfl,R,h1,h2,h4,h6,h7,K1,B1,Nat.zero_le _⟩ ?_;clear R h1 h2 h4 h6 h7 K1 B1;rintro n19 a17 w18 ⟨j,rfl,R,h1,h2,h4,h6,h7,K1,B1,hj⟩;have hl8:=HLN.out;refine wp_seq (x:=c69_38) (y:=c69_43) ?_;refine wp_seq (x:=c69_39) (y:=c69_40) ?_;refine reg_in (l:=[0,1,2,3,4]) rfl ?_;have F:=fe_ R;clear R;refine sw_ rfl (ym_ rfl (F.of h7)) F fun a20 F h34=>?_;refine swe_ rfl (yf3_ rfl (F.of h2)) F fun a21 e F h35=>?_;replace h34:=so_ e h34;clear e;refine swe_ rfl (yk3_ rfl h35 B1) F fun a22 e F h36=>?_;have⟨h34,h35⟩:=s2_ e h34 h35;clear e;have Y:Yv a22 o69_10_3 w18 (.int .i64 t.args.length):=by unfold Yv o69_10_3;go_simp
   refine swe_ rfl Y F fun a23 e F h37=>?_;clear Y;have⟨h34,h35,h36⟩:=s3_ e h34 h35 h36;clear e;obtain ⟨b24,hb24⟩:∃ x,(decide ((j:Int) < (t.args.length:Int)))=x:=⟨_,rfl⟩;have Y:Yv a23 o69_10_4 w18 (.bool b24):=by rw [← hb24];unfold Yv o69_10_4;go_simp
   refine swe_ rfl Y F fun a25 e F h38=>?_;clear Y;have⟨h34,h35,h36,h37⟩:=s4_ e h34 h35 h36 h37;clear e;refine st_end ?_;have⟨h1,h2,h4,h6⟩:=F.o4 h1 h2 h4 h6;replace h7:=F.of h7;have R:=F.r;clear F;cases b24 with
   | false =>
    have fb24:=hb24;clear hb24;simp only [dd_] at fb24;refine wp_cond_false (x:=Code.skip) (y:=c69_42) (eval_slot h38) ?_;refine wp_exit ?_;refine wp_seq (x:=c69_49) (y:=Code.ret) ?_;refine reg_in (l:=[0,1]) rfl ?_;have F:=fe_ R;clear R;refine sw_ rfl (ym_ rfl (F.of h6)) F fun a26 F h50=>?_;refine sw_ rfl (ya_ rfl h50) F fun a27 F h4=>?_;clear h50;refine st_end ?_;have⟨h1,h2,h6,h7,h34,h35,h36,h37⟩:=F.o8 h1 h2 h6 h7 h34 h35 h36 h37;replace h38:=F.of h38;have R:=F.r;clear F;refine wp_ret ?_;change bodyPost Try.prog Try.f51 (fun e w'=>e=.returned (.int .i64 ((grT (grL bs) t:Nat):Int))∧Keep (fun g=>g < W.heap.size) W w') .ret a27 w18;refine ret_one rfl R h4 ?_;exact ⟨by rw [grA_all (j:=j) (by omega) (by omega)],K1⟩
   | true =>
    have fb24:=hb24;clear hb24;simp only [dd_] at fb24;refine wp_cond_true (x:=Code.skip) (y:=c69_42) (eval_slot h38) ?_;refine wp_skip ?_;refine wp_seq (x:=c69_44) (y:=c69_46) ?_;refine wp_block (id:=3) (c:=c69_45) ?_;refine reg_in (l:=[0,1,2,3,4,5,6,7,8,9]) rfl ?_;have F:=fe_ R;clear R;refine sw_ rfl (ym_ rfl (F.of h6)) F fun a28 F h41=>?_;refine swe_ rfl (yf3_ rfl (F.of h2)) F fun a29 e F h42=>?_;replace h41:=so_ e h41;clear e;refine swe_ rfl (yk3_ rfl h42 B1) F fun a30 e F h43=>?_;have⟨h41,h42⟩:=s2_ e h41 h42;clear e;refine swe_ rfl (ym_ rfl (F.of h7)) F fun a31 e F h44=>?_;have⟨h41,h42,h43⟩:=s3_ e h41 h42 h43;clear e;obtain ⟨y0,hx0⟩:∃ q,t.args[j]? = some q:=⟨_,List.getElem?_eq_getElem (by omega)⟩;obtain ⟨bA,oA,ax,cx,hA,hbA,hTx,u0,u1,u2,u3⟩:=(HT.out).arg hx0;simp only [← Nat.add_assoc] at u0 u1 u2 u3;have HU:=Lib.hid (And.intro u0 (And.intro u1 (And.intro u2 u3)));clear u0 u1 u2 u3;have HX:=Lib.hid hx0;clear hx0;have HTX:=Lib.hid hTx;clear hTx;have HA:=Lib.hid hA;clear hA;have hltA:(j:Int) < (t.args.length:Int):=by omega
    have Y:Yv a31 o69_12_4 w18 (.pointer (some ⟨bA,oA + j * 4,none⟩)):=by have hA:=HA.out;unfold Yv o69_12_4;go_simp
    refine swe_ rfl Y F fun a32 e F h45=>?_;clear Y;have⟨h41,h42,h43,h44⟩:=s4_ e h41 h42 h43 h44;clear e;have Y:Yv a32 o69_12_5 w18 (.agg #[.int .i64 y0.k,.string (str y0.nm),.int .i64 y0.i,.slice ax y0.args.length cx]):=by obtain ⟨u0,u1,u2,u3⟩:=HU.out;have u0:=cell_kept u0 K1;have u1:=cell_kept u1 K1;have u2:=cell_kept u2 K1;have u3:=cell_kept u3 K1;unfold Yv o69_12_5;go_simp
    refine swe_ rfl Y F fun a33 e F h46=>?_;clear Y;have⟨h41,h42,h43,h44⟩:=s4_ e h41 h42 h43 h44;replace h45:=so_ e h45;clear e;refine swe_ rfl (ym_ rfl (F.of h1)) F fun a34 e F h47=>?_;have⟨h41,h42,h43,h44,h45,h46⟩:=s6_ e h41 h42 h43 h44 h45 h46;clear e;have hcall:=HIH.out y0 (List.mem_of_getElem? HX.out) (by have h:=arg_ns (t:=t) (by omega) (List.mem_of_getElem? HX.out);have:=HN.out;omega) w18 ax cx sa sc (HTX.out.on K1) (bsl_on HS.out K1);obtain ⟨g0,hg0⟩:∃ q,grT (grL bs) y0=q:=⟨_,rfl⟩;have HGA:Hid (grA bs t (j + 1)=grA bs t j + g0∧grA bs t (j + 1) ≤ 5000000):=Lib.hid ⟨by rw [← hg0];exact grA_succ HX.out,grA_le _ (by omega) HN.out⟩;rw [hg0] at hcall;clear hg0;refine st_call rfl rfl (wanted_free rfl) (yc2_ en69_69 rfl h46 h47) ((hcall).mono ?_);rintro e9 w35 ⟨rfl,kk⟩;replace K1:=keep_onto K1 kk;replace B1:=blk_on B1 kk;clear kk;clear hcall;refine ⟨_,rfl,fun a36 e=>?_⟩;have h48:=pt_ F e;replace F:=pu_ F e;have⟨h41,h42,h43,h44,h45,h46⟩:=s6_ e h41 h42 h43 h44 h45 h46;replace h47:=so_ e h47;clear e;have Y:(execOp a36.eval o69_12_8).run Try.prog w35=.ok (.value (.int .i64 ((grA bs t (j + 1):Nat):Int))) w35:=by have hga:=HGA.out;have hwg:IntKind.i64.wrap (((grA bs t j:Nat):Int) + (g0:Int))=((grA bs t (j + 1):Nat):Int):=(by rw [IntKind.wrap_i64];omega);clear hga;unfold o69_12_8;go_simp
    refine swe_ rfl Y F fun a37 e F h49=>?_;clear Y;have⟨h41,h42,h43,h44,h45,h46,h47,h48⟩:=s8_ e h41 h42 h43 h44 h45 h46 h47 h48;clear e;refine swe_ rfl (ya_ rfl h49) F fun a38 e F h6=>?_;have⟨h41,h42,h43,h44,h45,h46,h47,h48⟩:=s8_ e h41 h42 h43 h44 h45 h46 h47 h48;replace h49:=so_ e h49;clear e;refine st_end ?_;have⟨h1,h2,h4,h7,h34,h35,h36,h37⟩:=F.o8 h1 h2 h4 h7 h34 h35 h36 h37;replace h38:=F.of h38;have R:=F.r;clear F;change (c69_46).wp _ _ _ _;refine reg_in (l:=[0,1,2]) rfl ?_;have F:=fe_ R;clear R;refine sw_ rfl (ym_ rfl (F.of h7)) F fun a39 F h39=>?_;have Y:Yv a39 o69_11_1 w35 (.int .i64 ((j:Int) + 1)):=by have hwj:IntKind.i64.wrap ((j:Int) + 1)=(j:Int) + 1:=(by rw [IntKind.wrap_i64];omega);unfold Yv o69_11_1;go_simp
    refine swe_ rfl Y F fun a40 e F h40=>?_;clear Y;replace h39:=so_ e h39;clear e;refine swe_ rfl (ya_ rfl h40) F fun a41 e F h7=>?_;have⟨h39,h40⟩:=s2_ e h39 h40;clear e;refine st_end ?_;have⟨h1,h2,h4,h6,h34,h35,h36,h37⟩:=F.o8 h1 h2 h4 h6 h34 h35 h36 h37;have⟨h38,h41,h42,h43,h44,h45,h46,h47⟩:=F.o8 h38 h41 h42 h43 h44 h45 h46 h47;have⟨h48,h49⟩:=F.o2 h48 h49;have R:=F.r;clear F;exact ⟨_,by omega,j + 1,rfl,R,h1,h2,h4,h6,h7,K1,B1,(by omega)⟩
 | true =>
  have fb7:=hb7;clear hb7;simp only [dd_] at fb7;refine wp_cond_true (x:=c69_6) (y:=Code.skip) (eval_slot h10) ?_;refine wp_seq (x:=c69_7) (y:=c69_8) ?_;refine reg_in (l:=[0]) rfl ?_;have F:=fe_ R;clear R;have Y:Yv a8 o69_2_0 w2 (.int .i64 0):=by unfold Yv o69_2_0;go_simp
  refine sw_ rfl Y F fun a42 F h5=>?_;clear Y;refine st_end ?_;have⟨h1,h2,h4⟩:=F.o3 h1 h2 h4;clear h10;have R:=F.r;clear F;refine wp_block (id:=0) (c:=c69_9) ?_;refine wp_loop_ghost (c:=c69_10) (fun n fX wX=>∃ i:Nat,n=bs.length - i∧FrS 51 fX∧fX.tmps[1]? = some (.slice sa bs.length sc)∧fX.tmps[2]? = some (.pointer (some ⟨b1,0,none⟩))∧fX.tmps[4]? = some (.int .i64 0)∧fX.tmps[5]? = some (.int .i64 (i:Int))∧Keep (fun g=>g < W.heap.size) W wX∧Blk wX b1 24 #[.int .i64 t.k,.string (str t.nm),.int .i64 t.i,.slice a t.args.length c]∧i ≤ bs.length∧Hid (∀ r ∈ bs.take i,r.1 ≠ t.i)) (bs.length - 0) ⟨0,rfl,R,h1,h2,h4,h5,K1,B1,Nat.zero_le _,(Lib.hid fun r hr=>by simp at hr)⟩ ?_;clear R h1 h2 h4 h5 K1 B1;rintro n45 a43 w44 ⟨i,rfl,R,h1,h2,h4,h5,K1,B1,hi,HNO⟩;have hl8:=HLB.out;refine wp_seq (x:=c69_11) (y:=c69_16) ?_;refine wp_seq (x:=c69_12) (y:=c69_13) ?_;refine reg_in (l:=[0,1,2,3]) rfl ?_;have F:=fe_ R;clear R;refine sw_ rfl (ym_ rfl (F.of h5)) F fun a46 F h11=>?_;refine swe_ rfl (ym_ rfl (F.of h1)) F fun a47 e F h12=>?_;replace h11:=so_ e h11;clear e;have Y:Yv a47 o69_3_2 w44 (.int .i64 bs.length):=by unfold Yv o69_3_2;go_simp
  refine swe_ rfl Y F fun a48 e F h13=>?_;clear Y;have⟨h11,h12⟩:=s2_ e h11 h12;clear e;obtain ⟨b49,hb49⟩:∃ x,(decide ((i:Int) < (bs.length:Int)))=x:=⟨_,rfl⟩;have Y:Yv a48 o69_3_3 w44 (.bool b49):=by rw [← hb49];unfold Yv o69_3_3;go_simp
  refine swe_ rfl Y F fun a50 e F h14=>?_;clear Y;have⟨h11,h12,h13⟩:=s3_ e h11 h12 h13;clear e;refine st_end ?_;have⟨h1,h2,h4,h5⟩:=F.o4 h1 h2 h4 h5;have R:=F.r;clear F;cases b49 with
  | false =>
   have fb49:=hb49;clear hb49;simp only [dd_] at fb49;refine wp_cond_false (x:=Code.skip) (y:=c69_15) (eval_slot h14) ?_;refine wp_exit ?_;refine wp_seq (x:=c69_28) (y:=c69_29) ?_;refine reg_in (l:=[0]) rfl ?_;have F:=fe_ R;clear R;have Y:Yv a50 o69_7_0 w44 (.int .i64 1):=by unfold Yv o69_7_0;go_simp
   refine sw_ rfl Y F fun a51 F h6=>?_;clear Y;refine st_end ?_;have⟨h1,h2,h4,h5,h11,h12,h13,h14⟩:=F.o8 h1 h2 h4 h5 h11 h12 h13 h14;have R:=F.r;clear F;refine wp_seq (x:=c69_30) (y:=c69_48) ?_;refine wp_seq (x:=c69_31) (y:=c69_32) ?_;refine reg_in (l:=[0,1,2]) rfl ?_;have F:=fe_ R;clear R;refine sw_ rfl (yf0_ rfl (F.of h2)) F fun a52 F h31=>?_;refine sw_ rfl (yk0_ rfl h31 B1) F fun a53 F h32=>?_;clear h31;have Y:Yv a53 o69_8_2 w44 (.bool false):=by have h4:¬ t.k=4:=(by omega);unfold Yv o69_8_2;go_simp
   refine sw_ rfl Y F fun a54 F h33=>?_;clear Y h32;refine st_end ?_;have⟨h1,h2,h4,h5,h6,h11,h12,h13⟩:=F.o8 h1 h2 h4 h5 h6 h11 h12 h13;replace h14:=F.of h14;have R:=F.r;clear F;refine wp_cond_false (x:=c69_33) (y:=Code.skip) (eval_slot h33) ?_;refine wp_skip ?_;refine wp_seq (x:=c69_49) (y:=Code.ret) ?_;refine reg_in (l:=[0,1]) rfl ?_;have F:=fe_ R;clear R;refine sw_ rfl (ym_ rfl (F.of h6)) F fun a55 F h50=>?_;refine sw_ rfl (ya_ rfl h50) F fun a56 F h4=>?_;clear h50;refine st_end ?_;have⟨h1,h2,h5,h6,h11,h12,h13,h14⟩:=F.o8 h1 h2 h5 h6 h11 h12 h13 h14;clear h33;have R:=F.r;clear F;refine wp_ret ?_;change bodyPost Try.prog Try.f51 (fun e w'=>e=.returned (.int .i64 ((grT (grL bs) t:Nat):Int))∧Keep (fun g=>g < W.heap.size) W w') .ret a56 w44;refine ret_one rfl R h4 ?_
   first | exact ⟨by rw [gr_no (by omega) (by omega)];rfl,K1⟩ | exact ⟨by rw [gr_miss (by omega) (by omega) HNO.out];rfl,K1⟩
  | true =>
   have fb49:=hb49;clear hb49;simp only [dd_] at fb49;refine wp_cond_true (x:=Code.skip) (y:=c69_15) (eval_slot h14) ?_;refine wp_skip ?_;refine wp_seq (x:=c69_17) (y:=c69_25) ?_;refine wp_block (id:=1) (c:=c69_18) ?_;refine wp_seq (x:=c69_19) (y:=c69_20) ?_;change (Code.region 5 O69_5 true).wp _ _ _ _;have D59:=B1;have K57:=(Keep.refl (fun g=>g < w44.heap.size) w44).drew;have EK1:=K1;refine dr_in (S:=(fun W=>Keep (fun g=>g < w44.heap.size) w44 W)) (n:=8) (l:=lb_ 8 0) (by kernel_rfl) K57 rfl (by kernel_rfl) ?_;replace K1:=K1.drew;replace B1:=B1.drew;generalize w44.drew=w58 at K57 K1 B1 ⊢;have F:=fe_ R;clear R;refine dt_ (i:=0) (l':=(lb_ 8 1)) rfl rfl ns69_5 (wanted_free rfl) K57 (fun _ _=>(ym_ rfl (F.of h1))) fun a60 e=>?_;have h17:=pt_ F e;replace F:=pu_ F e;clear e;refine dt_ (i:=1) (l':=(lb_ 8 3)) rfl rfl ns69_5 (wanted_free rfl) K57 (fun _ _=>(ym_ rfl (F.of h5))) fun a61 e=>?_;have h18:=pt_ F e;replace F:=pu_ F e;replace h17:=so_ e h17;clear e;refine dt_ (i:=5) (l':=(lb_ 8 35)) rfl rfl ns69_5 (wanted_free rfl) K57 (fun _ _=>(yf2_ rfl (F.of h2))) fun a62 e=>?_;have h22:=pt_ F e;replace F:=pu_ F e;have⟨h17,h18⟩:=s2_ e h17 h18;clear e;refine dt_ (i:=6) (l':=(lb_ 8 99)) rfl rfl ns69_5 (wanted_free rfl) K57 (fun W7 hS=>(yk2_ rfl h22 (D59.keep hS D59.lt))) fun a63 e=>?_;have h23:=pt_ F e;replace F:=pu_ F e;have⟨h17,h18,h22⟩:=s3_ e h17 h18 h22;clear e;refine dr_only (i:=2) (fuel:=3) (by kernel_rfl) ?_;obtain ⟨q,hq⟩:∃ q,bs[i]? = some q:=⟨_,List.getElem?_eq_getElem (by omega)⟩;obtain ⟨bQ,oQ,hsQ,-⟩:=bsl_addr HS.out (show i < bs.length by omega);have hltQ:(i:Int) < (bs.length:Int):=by omega
   have HQ:=Lib.hid hq;clear hq;have HSQ:=Lib.hid hsQ;clear hsQ;have Y:Yv a63 o69_5_2 w58 (.pointer (some ⟨bQ,oQ + i * 5,none⟩)):=by have hsQ:=HSQ.out;unfold Yv o69_5_2;go_simp
   refine dr_val (l':=(lb_ 8 103)) rfl rfl (by kernel_rfl) (wanted_free rfl) Y K57 fun a64 e=>?_;clear Y;have h19:=pt_ F e;replace F:=pu_ F e;have⟨h17,h18,h22,h23⟩:=s4_ e h17 h18 h22 h23;clear e;have Y:∀ W,Keep (fun g=>g < w44.heap.size) w44 W→(execOp a64.eval o69_5_3).run Try.prog W=.ok (.value (.pointer (some ⟨bQ,oQ + i * 5,none⟩))) W:=by intro W7 hS;unfold o69_5_3;go_simp
   refine dt_ (i:=3) (l':=(lb_ 8 111)) rfl rfl ns69_5 (wanted_free rfl) K57 Y fun a65 e=>?_;clear Y;have h20:=pt_ F e;replace F:=pu_ F e;have⟨h17,h18,h19,h22⟩:=s4_ e h17 h18 h19 h22;replace h23:=so_ e h23;clear e;have Y:∀ W,Keep (fun g=>g < w44.heap.size) w44 W→(execOp a65.eval o69_5_4).run Try.prog W=.ok (.value (.int .i64 q.1)) W:=by intro W7 hS;obtain ⟨⟨c0,c1,c2,c3,c4⟩,-⟩:=bsl_at (bsl_on HS.out (keep_onto EK1 hS)) HSQ.out HQ.out;unfold o69_5_4;go_simp
   refine dt_ (i:=4) (l':=(lb_ 8 127)) rfl rfl ns69_5 (wanted_free rfl) K57 Y fun a66 e=>?_;clear Y;have h21:=pt_ F e;replace F:=pu_ F e;have⟨h17,h18,h19,h20,h22,h23⟩:=s6_ e h17 h18 h19 h20 h22 h23;clear e;obtain ⟨b67,hb67⟩:∃ x,(((q.1:Int) == (t.i:Int)))=x:=⟨_,rfl⟩;have Y:∀ W,Keep (fun g=>g < w44.heap.size) w44 W→(execOp a66.eval o69_5_7).run Try.prog W=.ok (.value (.bool b67)) W:=by intro W7 hS;rw [← hb67];unfold o69_5_7;go_simp
   refine dt_ (i:=7) (l':=(lb_ 8 255)) rfl rfl ns69_5 (wanted_free rfl) K57 Y fun a68 e=>?_;clear Y;have h24:=pt_ F e;replace F:=pu_ F e;have⟨h17,h18,h19,h20,h21,h22⟩:=s6_ e h17 h18 h19 h20 h21 h22;replace h23:=so_ e h23;clear e;refine dr_end (by kernel_rfl) ?_;have⟨h1,h2,h4,h5,h11,h12,h13,h14⟩:=F.o8 h1 h2 h4 h5 h11 h12 h13 h14;have R:=F.r;clear F;clear K57 EK1 D59;cases b67 with
   | false =>
    have fb67:=hb67;clear hb67;simp only [dd_] at fb67;refine wp_cond_false (x:=c69_21) (y:=Code.skip) (eval_slot h24) ?_;refine wp_skip ?_;change (c69_25).wp _ _ _ _;refine reg_in (l:=[0,1,2]) rfl ?_;have F:=fe_ R;clear R;refine sw_ rfl (ym_ rfl (F.of h5)) F fun a69 F h15=>?_;have Y:Yv a69 o69_4_1 w58 (.int .i64 ((i:Int) + 1)):=by have hwj:IntKind.i64.wrap ((i:Int) + 1)=(i:Int) + 1:=(by rw [IntKind.wrap_i64];omega);unfold Yv o69_4_1;go_simp
    refine swe_ rfl Y F fun a70 e F h16=>?_;clear Y;replace h15:=so_ e h15;clear e;refine swe_ rfl (ya_ rfl h16) F fun a71 e F h5=>?_;have⟨h15,h16⟩:=s2_ e h15 h16;clear e;refine st_end ?_;have⟨h1,h2,h4,h11,h12,h13,h14,h17⟩:=F.o8 h1 h2 h4 h11 h12 h13 h14 h17;have⟨h18,h19,h20,h21,h22,h23⟩:=F.o6 h18 h19 h20 h21 h22 h23;replace h24:=F.of h24;have R:=F.r;clear F;exact ⟨_,by omega,i + 1,rfl,R,h1,h2,h4,h5,K1,B1,(by omega),(Lib.hid (no_more HNO.out HQ.out (by omega)))⟩
   | true =>
    have fb67:=hb67;clear hb67;simp only [dd_] at fb67;refine wp_cond_true (x:=c69_21) (y:=Code.skip) (eval_slot h24) ?_;refine wp_seq (x:=c69_22) (y:=Code.ret) ?_;refine reg_in (l:=[0,1,2,3,4,5,6]) rfl ?_;have F:=fe_ R;clear R;refine sw_ rfl (ym_ rfl (F.of h1)) F fun a72 F h25=>?_;refine swe_ rfl (ym_ rfl (F.of h5)) F fun a73 e F h26=>?_;replace h25:=so_ e h25;clear e;have Y:Yv a73 o69_6_2 w58 (.pointer (some ⟨bQ,oQ + i * 5,none⟩)):=by have hsQ:=HSQ.out;unfold Yv o69_6_2;go_simp
    refine swe_ rfl Y F fun a74 e F h27=>?_;clear Y;have⟨h25,h26⟩:=s2_ e h25 h26;clear e;have Y:Yv a74 o69_6_3 w58 (.pointer (some ⟨bQ,oQ + i * 5 + 1,none⟩)):=by unfold Yv o69_6_3;go_simp
    refine swe_ rfl Y F fun a75 e F h28=>?_;clear Y;have⟨h25,h26,h27⟩:=s3_ e h25 h26 h27;clear e;have Y:Yv a75 o69_6_4 w58 (.agg #[.int .i64 q.2.1.k,.string (str q.2.1.nm),.int .i64 q.2.1.i,.slice q.2.2.1 q.2.1.args.length q.2.2.2]):=by obtain ⟨⟨c0,c1,c2,c3,c4⟩,-⟩:=bsl_at (bsl_on HS.out K1) HSQ.out HQ.out;have c2':=c2;have c3':=c3;have c4':=c4;rw [show oQ + i * 5 + 2=oQ + i * 5 + 1 + 1 from rfl] at c2;rw [show oQ + i * 5 + 3=oQ + i * 5 + 1 + 2 from rfl] at c3;rw [show oQ + i * 5 + 4=oQ + i * 5 + 1 + 3 from rfl] at c4;unfold Yv o69_6_4;go_simp
    refine swe_ rfl Y F fun a76 e F h29=>?_;clear Y;have⟨h25,h26,h27,h28⟩:=s4_ e h25 h26 h27 h28;clear e;have Y:(execOp a76.eval o69_6_5).run Try.prog w58=.ok (.enter 42 #[.agg #[.int .i64 q.2.1.k,.string (str q.2.1.nm),.int .i64 q.2.1.i,.slice q.2.2.1 q.2.1.args.length q.2.2.2],.int .i64 2000]) w58:=by unfold o69_6_5;go_simp
    refine st_call rfl rfl (wanted_free rfl) Y ((refsize_sx (m:=2000) (z:=((min q.2.1.ns 2001:Nat):Int)) (bsl_at (bsl_on HS.out K1) HSQ.out HQ.out).2.2 (by decide) (by rfl) rfl).mono ?_);clear Y;rintro e9 w77 ⟨rfl,kk⟩;replace K1:=keep_onto K1 kk;replace B1:=blk_on B1 kk;clear kk;refine ⟨_,rfl,fun a78 e=>?_⟩;have h30:=pt_ F e;replace F:=pu_ F e;have⟨h25,h26,h27,h28⟩:=s4_ e h25 h26 h27 h28;replace h29:=so_ e h29;clear e;refine swe_ rfl (ya_ rfl h30) F fun a79 e F h4=>?_;have⟨h25,h26,h27,h28,h29,h30⟩:=s6_ e h25 h26 h27 h28 h29 h30;clear e;refine st_end ?_;have⟨h1,h2,h5,h11,h12,h13,h14,h17⟩:=F.o8 h1 h2 h5 h11 h12 h13 h14 h17;have⟨h18,h19,h20,h21,h22,h23⟩:=F.o6 h18 h19 h20 h21 h22 h23;replace h24:=F.of h24;have R:=F.r;clear F;refine wp_ret ?_;change bodyPost Try.prog Try.f51 (fun e w'=>e=.returned (.int .i64 ((grT (grL bs) t:Nat):Int))∧Keep (fun g=>g < W.heap.size) W w') .ret a79 w77;refine ret_one rfl R h4 ?_;exact ⟨by rw [gr_hit (by omega) HQ.out (by omega) HNO.out],K1⟩
theorem refgrown_any (bs:List BP) (hlb:bs.length ≤ 100000):∀ (t:Tm),t.ns ≤ 2000→∀ (W:World) (a:Option Addr) (c:Nat) (sa:Option Addr) (sc:Nat),TmAt W.heap.size W t a c→BSl W.heap.size W sa bs→Calls Try.prog 51 #[tv t a c,.slice sa bs.length sc] W fun e w'=>e=.returned (.int .i64 ((grT (grL bs) t:Nat):Int))∧Keep (fun g=>g < W.heap.size) W w':=by
  intro t;induction t using Tm.ind with
  | h k nm i args ih =>
    intro hn W a c sa sc hT hS;refine enter_sx Try.func51 body69 rfl (by show (2:Nat) ≤ 51;decide) fun f0 R hs=>?_;exact grown_w R (hs 0 _ rfl) (hs 1 _ rfl) (Keep.refl _ W) (Lib.hid hT) (Lib.hid hn) (Lib.hid hS) (Lib.hid hlb) (Lib.hid fun x hx hx2=>ih x hx hx2)
end Go.Proofs.Ytjinmnekfhekpaa
