/-
  The document's Bare, Put of the zero term, Copy: plain, and walked with letter frames. No condition but where the terms lie.
-/
import Derived.Test.YtjinmnekfhekpaaJSx7
namespace Go.Proofs.Ytjinmnekfhekpaa
open Go.RowKit Go.Maps
set_option linter.unusedVariables false
set_option linter.unusedSimpArgs false
def bareV (t:Tm):Tm:=if t.k ≤ 2 then .node t.k [] t.i [] else .node t.k t.nm 0 []
mutual
def mapT (f:Tm→Tm):Tm→Tm
  | .node k nm i args=>if k=4 then .node 4 nm 0 (mapTL f args) else f (.node k nm i args)
def mapTL (f:Tm→Tm):List Tm→List Tm
  | []=>[]
  | t::ts=>mapT f t::mapTL f ts
end
theorem mapTL_eq (f:Tm→Tm):∀ ts,mapTL f ts=ts.map (mapT f)
  | []=>by rw [mapTL];rfl
  | t::ts=>by rw [mapTL,mapTL_eq f ts];rfl
theorem mapT_4 {f:Tm→Tm} {t:Tm} (h:t.k=4):mapT f t=.node 4 t.nm 0 (t.args.map (mapT f)):=by
  cases t;simp only [Tm.k] at h;rw [mapT,if_pos h,mapTL_eq];rfl
theorem mapT_n {f:Tm→Tm} {t:Tm} (h:¬ t.k=4):mapT f t=f t:=by
  cases t;simp only [Tm.k] at h;rw [mapT,if_neg h]
def cpL (t:Tm):Tm:=if t.k=1∧t.i=0 then .node 0 [] 0 [] else bareV t
theorem args_ns {t:Tm} (h:t.k=4):t.args.length ≤ t.ns:=by
  have h2:∀ ts:List Tm,ts.length ≤ nsL ts:=fun ts=>by
    induction ts with
    | nil=>exact Nat.zero_le _
    | cons x ts ih => rw [nsL_cons, List.length_cons]; have : 1 ≤ x.ns := by rw [x.ns_eq]; split <;> omega
                      omega
  rw [t.ns_eq,if_pos h];have:=h2 t.args;omega
theorem arg_ns {t x:Tm} (h:t.k=4) (hx:x ∈ t.args):x.ns < t.ns:=by
  have h2:∀ ts:List Tm,∀ x ∈ ts,x.ns ≤ nsL ts:=fun ts=>by
    induction ts with
    | nil=>intro x hx;simp at hx
    | cons y ts ih =>
      intro x hx
      rw [nsL_cons]
      rcases List.mem_cons.1 hx with rfl | hx
      · omega
      · have:=ih x hx;omega
  rw [t.ns_eq,if_pos h];have:=h2 t.args x hx;omega
theorem bare_fr {w:World} {lo hi:Nat} {t:Tm} {a:Option Addr} {c B:Nat} {W:World} (hT:TmAt B W t a c) (h:lo ≤ hi):Fr 0 (fun _=>False) w lo hi (bareV t) none 0:=by
  obtain ⟨h1,h2,h3,h4⟩:=hT.wk
  unfold bareV
  split
  · exact .old (tm_leaf h1 h2 (by simp)) h
  · exact .old (tm_leaf h1 (by decide) h3) h
def o85_0_0:Oper:=⟨some 1,Op.box 24 (Operand.tmp 0),0, "ref.go:159",#[],none⟩
def o85_0_1:Oper:=⟨some 2,Op.alloc 24,0, "ref.go:159",#[],none⟩
def O85_0:Array Oper:=List.toArray (o85_0_0::o85_0_1::[])
theorem g85_0_0:O85_0[0]? = some o85_0_0:=rfl
theorem g85_0_1:O85_0[1]? = some o85_0_1:=rfl
def c85_1:Code:=Code.region 0 O85_0 false
def o85_1_0:Oper:=⟨some 3,Op.fieldAddr 24 (Operand.tmp 1) 0,0, "ref.go:160",#[],none⟩
def o85_1_1:Oper:=⟨some 4,Op.load 3 (Operand.tmp 3),3, "ref.go:160",#[ed_ 0],none⟩
def o85_1_2:Oper:=⟨some 5,Op.binOp Go.BinOp.leq 3 (Operand.tmp 4) (Operand.const (Value.int IntKind.i64 2)) 3,4, "ref.go:160",#[ed_ 1],none⟩
def O85_1:Array Oper:=List.toArray (o85_1_0::o85_1_1::o85_1_2::[])
theorem g85_1_0:O85_1[0]? = some o85_1_0:=rfl
theorem g85_1_1:O85_1[1]? = some o85_1_1:=rfl
theorem g85_1_2:O85_1[2]? = some o85_1_2:=rfl
def c85_4:Code:=Code.region 1 O85_1 false
def o85_2_0:Oper:=⟨some 6,Op.fieldAddr 24 (Operand.tmp 1) 0,0, "ref.go:161",#[],none⟩
def o85_2_1:Oper:=⟨some 7,Op.load 3 (Operand.tmp 6),3, "ref.go:161",#[ed_ 0],none⟩
def o85_2_2:Oper:=⟨some 8,Op.fieldAddr 24 (Operand.tmp 1) 2,0, "ref.go:161",#[],none⟩
def o85_2_3:Oper:=⟨some 9,Op.load 2 (Operand.tmp 8),2, "ref.go:161",#[ed_ 2],none⟩
def o85_2_4:Oper:=⟨some 10,Op.build 24 #[(0,Operand.tmp 7),(2,Operand.tmp 9)],24, "ref.go:161",#[ed_ 1,ed_ 3],none⟩
def o85_2_5:Oper:=⟨none,Op.store 24 (Operand.tmp 2) (Operand.tmp 10),0, "ref.go:161",#[ed_ 4,ep_ 0,ep_ 1,ep_ 2,ep_ 3,ep_ 4],none⟩
def O85_2:Array Oper:=List.toArray (o85_2_0::o85_2_1::o85_2_2::o85_2_3::o85_2_4::o85_2_5::[])
theorem g85_2_0:O85_2[0]? = some o85_2_0:=rfl
theorem g85_2_1:O85_2[1]? = some o85_2_1:=rfl
theorem g85_2_2:O85_2[2]? = some o85_2_2:=rfl
theorem g85_2_3:O85_2[3]? = some o85_2_3:=rfl
theorem g85_2_4:O85_2[4]? = some o85_2_4:=rfl
theorem g85_2_5:O85_2[5]? = some o85_2_5:=rfl
def c85_7:Code:=Code.region 2 O85_2 false
def c85_6:Code:=Code.seq c85_7 Code.ret
def c85_5:Code:=Code.cond (Operand.tmp 5) c85_6 Code.skip
def c85_3:Code:=Code.seq c85_4 c85_5
def o85_3_0:Oper:=⟨some 11,Op.fieldAddr 24 (Operand.tmp 1) 0,0, "ref.go:163",#[],none⟩
def o85_3_1:Oper:=⟨some 12,Op.load 3 (Operand.tmp 11),3, "ref.go:163",#[ed_ 0],none⟩
def o85_3_2:Oper:=⟨some 13,Op.fieldAddr 24 (Operand.tmp 1) 1,0, "ref.go:163",#[],none⟩
def o85_3_3:Oper:=⟨some 14,Op.load 9 (Operand.tmp 13),9, "ref.go:163",#[ed_ 2],none⟩
def o85_3_4:Oper:=⟨some 15,Op.build 24 #[(0,Operand.tmp 12),(1,Operand.tmp 14)],24, "ref.go:163",#[ed_ 1,ed_ 3],none⟩
def o85_3_5:Oper:=⟨none,Op.store 24 (Operand.tmp 2) (Operand.tmp 15),0, "ref.go:163",#[ed_ 4,ep_ 0,ep_ 1,ep_ 2,ep_ 3,ep_ 4],none⟩
def O85_3:Array Oper:=List.toArray (o85_3_0::o85_3_1::o85_3_2::o85_3_3::o85_3_4::o85_3_5::[])
theorem g85_3_0:O85_3[0]? = some o85_3_0:=rfl
theorem g85_3_1:O85_3[1]? = some o85_3_1:=rfl
theorem g85_3_2:O85_3[2]? = some o85_3_2:=rfl
theorem g85_3_3:O85_3[3]? = some o85_3_3:=rfl
theorem g85_3_4:O85_3[4]? = some o85_3_4:=rfl
theorem g85_3_5:O85_3[5]? = some o85_3_5:=rfl
def c85_11:Code:=Code.region 3 O85_3 false
def c85_10:Code:=Code.seq c85_11 Code.ret
def c85_2:Code:=Code.seq c85_3 c85_10
def c85_0:Code:=Code.seq c85_1 c85_2
theorem body85:Try.f70.body=some c85_0:=by kernel_rfl
set_option maxRecDepth 100000 in
set_option maxHeartbeats 4000000 in
theorem bare_w {W:World} {t:Tm} {a:Option Addr} {c:Nat} {f0:Act} {w0:World} (R:FrS 16 f0) (h0:f0.tmps[0]? = some (.agg #[.int .i64 t.k,.string (str t.nm),.int .i64 t.i,.slice a t.args.length c])) (K1:Keep (fun g=>g < W.heap.size) W w0)  : c85_0.wp Try.prog (bodyPost Try.prog Try.f70 (fun e w'=>e=.returned (tv (bareV t) none 0)∧Keep (fun g=>g < W.heap.size) W w')) f0 w0:=by
  refine wp_seq (x:=c85_1) (y:=c85_2) ?_
  change (Code.region 0 O85_0 false).wp _ _ _ _
  refine reg_in (l:=[0,1]) rfl ?_
  have F:FE_ _ [] f0 f0:=⟨R,Ag_.refl _⟩;clear R
  have Y:(execOp f0.eval o85_0_0).run Try.prog w0=.ok (.value (.pointer (some ⟨w0.heap.size,0,none⟩))) (w0.alloc (.cells #[.int .i64 t.k,.string (str t.nm),.int .i64 t.i,.slice a t.args.length c] 24)):=by have r0:=F.of h0;unfold o85_0_0;go_simp
  have B1:=Blk.new w0 24 #[.int .i64 t.k,.string (str t.nm),.int .i64 t.i,.slice a t.args.length c]
  obtain ⟨w2,hw⟩:∃ x,x=w0.alloc (.cells #[.int .i64 t.k,.string (str t.nm),.int .i64 t.i,.slice a t.args.length c] 24):=⟨_,rfl⟩;rw [← hw] at Y B1
  obtain ⟨b1,hb⟩:∃ x,x=w0.heap.size:=⟨_,rfl⟩;rw [← hb] at Y B1
  have LK1_b1:=lk_ hb K1;replace K1:=ka_ hw K1;clear hw hb
  refine sv_ g85_0_0 Y fun a3 e=>?_;clear Y
  have h1:=pt_ F e;replace F:=pu_ F e;clear e
  have Y:(execOp a3.eval o85_0_1).run Try.prog w2=.ok (.value (.pointer (some ⟨w2.heap.size,0,none⟩))) (w2.alloc (.cells #[.int .i64 0,.string (⟨#[]⟩),.int .i64 0,.slice none 0 0] 24)):=by unfold o85_0_1;go_simp
  have B4:=Blk.new w2 24 #[.int .i64 0,.string (⟨#[]⟩),.int .i64 0,.slice none 0 0]
  obtain ⟨w5,hw⟩:∃ x,x=w2.alloc (.cells #[.int .i64 0,.string (⟨#[]⟩),.int .i64 0,.slice none 0 0] 24):=⟨_,rfl⟩;rw [← hw] at Y B4
  obtain ⟨b4,hb⟩:∃ x,x=w2.heap.size:=⟨_,rfl⟩;rw [← hb] at Y B4
  have Nb1_b4:=nb_ hb B1;replace B1:=ba_ hw B1;have LK1_b4:=lk_ hb K1;replace K1:=ka_ hw K1;clear hw hb
  refine sv_ g85_0_1 Y fun a6 e=>?_;clear Y
  have h2:=pt_ F e;replace F:=pu_ F e;replace h1:=so_ e h1;clear e
  refine st_end ?_
  clear h0;have R:=F.r;clear F
  change (c85_2).wp _ _ _ _
  refine wp_seq (x:=c85_3) (y:=c85_10) ?_
  refine wp_seq (x:=c85_4) (y:=c85_5) ?_
  change (Code.region 1 O85_1 false).wp _ _ _ _
  refine reg_in (l:=[0,1,2]) rfl ?_
  have F:FE_ _ [] a6 a6:=⟨R,Ag_.refl _⟩;clear R
  refine sv_ g85_1_0 (yf0_ rfl (F.of h1)) fun a7 e=>?_
  have h3:=pt_ F e;replace F:=pu_ F e;clear e
  refine sv_ g85_1_1 (yk0_ rfl h3 B1) fun a8 e=>?_
  clear h3;have h4:=pt_ F e;replace F:=pu_ F e;clear e
  obtain ⟨b9,hb9⟩:∃ x,(decide ((t.k:Int) ≤ (2:Int)))=x:=⟨_,rfl⟩
  have Y:(execOp a8.eval o85_1_2).run Try.prog w5=.ok (.value (.bool b9)) w5:=by rw [← hb9];unfold o85_1_2;go_simp
  refine sv_ g85_1_2 Y fun a10 e=>?_;clear Y
  clear h4;have h5:=pt_ F e;replace F:=pu_ F e;clear e
  refine st_end ?_
  replace h1:=F.of h1;replace h2:=F.of h2;have R:=F.r;clear F
  change (c85_5).wp _ _ _ _
  cases b9 with
  | false =>
    have fb9:=hb9;clear hb9
    simp only [decide_eq_true_eq,decide_eq_false_iff_not,bne_iff_ne,bne_eq_false_iff_eq,beq_iff_eq,beq_eq_false_iff_ne,ne_eq,Bool.not_eq_true',Bool.not_eq_false',Bool.not_eq_eq_eq_not,Bool.not_true,Bool.not_false] at fb9
    refine wp_cond_false (x:=c85_6) (y:=Code.skip) (eval_slot h5) ?_
    refine wp_skip ?_
    change (c85_10).wp _ _ _ _
    refine wp_seq (x:=c85_11) (y:=Code.ret) ?_
    change (Code.region 3 O85_3 false).wp _ _ _ _
    refine reg_in (l:=[0,1,2,3,4,5]) rfl ?_
    have F:FE_ _ [] a10 a10:=⟨R,Ag_.refl _⟩;clear R
    refine sv_ g85_3_0 (yf0_ rfl (F.of h1)) fun a11 e=>?_
    have h11:=pt_ F e;replace F:=pu_ F e;clear e
    refine sv_ g85_3_1 (yk0_ rfl h11 B1) fun a12 e=>?_
    clear h11;have h12:=pt_ F e;replace F:=pu_ F e;clear e
    refine sv_ g85_3_2 (yf1_ rfl (F.of h1)) fun a13 e=>?_
    have h13:=pt_ F e;replace F:=pu_ F e;replace h12:=so_ e h12;clear e
    refine sv_ g85_3_3 (yk1_ rfl h13 B1) fun a14 e=>?_
    clear h13;have h14:=pt_ F e;replace F:=pu_ F e;replace h12:=so_ e h12;clear e
    have Y:(execOp a14.eval o85_3_4).run Try.prog w5=.ok (.value (.agg #[.int .i64 t.k,.string (str t.nm),.int .i64 0,.slice none 0 0])) w5:=by unfold o85_3_4;go_simp
    refine sv_ g85_3_4 Y fun a15 e=>?_;clear Y
    clear h12 h14;have h15:=pt_ F e;replace F:=pu_ F e;clear e
    obtain ⟨w16,Y,hk,hB⟩:=ys4_ (o:=o85_3_5) rfl (F.of h2) h15 B4
    replace K1:=kx_ hk K1 (Nat.not_lt.2 LK1_b4);replace B1:=bx_ hk B1 Nb1_b4;clear B4;have B4:=hB;clear hB hk
    refine st_skip g85_3_5 rfl (wanted_free rfl) Y ?_;clear Y
    refine st_end ?_
    clear h1;replace h2:=F.of h2;clear h5;clear h15;have R:=F.r;clear F
    change (Code.ret).wp _ _ _ _
    refine wp_ret ?_
    change bodyPost Try.prog Try.f70 (fun e w'=>e=.returned (tv (bareV t) none 0)∧Keep (fun g=>g < W.heap.size) W w') .ret a15 w16
    refine ret_cell (fn:=Try.f70) rfl R h2 B4 ?_
    refine ⟨?_,K1⟩
    first | (rw [show bareV t=.node t.k [] t.i [] from if_pos (by omega)];rfl) | (rw [show bareV t=.node t.k t.nm 0 [] from if_neg (by omega)];rfl)
  | true =>
    have fb9:=hb9;clear hb9
    simp only [decide_eq_true_eq,decide_eq_false_iff_not,bne_iff_ne,bne_eq_false_iff_eq,beq_iff_eq,beq_eq_false_iff_ne,ne_eq,Bool.not_eq_true',Bool.not_eq_false',Bool.not_eq_eq_eq_not,Bool.not_true,Bool.not_false] at fb9
    refine wp_cond_true (x:=c85_6) (y:=Code.skip) (eval_slot h5) ?_
    refine wp_seq (x:=c85_7) (y:=Code.ret) ?_
    change (Code.region 2 O85_2 false).wp _ _ _ _
    refine reg_in (l:=[0,1,2,3,4,5]) rfl ?_
    have F:FE_ _ [] a10 a10:=⟨R,Ag_.refl _⟩;clear R
    refine sv_ g85_2_0 (yf0_ rfl (F.of h1)) fun a17 e=>?_
    have h6:=pt_ F e;replace F:=pu_ F e;clear e
    refine sv_ g85_2_1 (yk0_ rfl h6 B1) fun a18 e=>?_
    clear h6;have h7:=pt_ F e;replace F:=pu_ F e;clear e
    refine sv_ g85_2_2 (yf2_ rfl (F.of h1)) fun a19 e=>?_
    have h8:=pt_ F e;replace F:=pu_ F e;replace h7:=so_ e h7;clear e
    refine sv_ g85_2_3 (yk2_ rfl h8 B1) fun a20 e=>?_
    clear h8;have h9:=pt_ F e;replace F:=pu_ F e;replace h7:=so_ e h7;clear e
    have Y:(execOp a20.eval o85_2_4).run Try.prog w5=.ok (.value (.agg #[.int .i64 t.k,.string (⟨#[]⟩),.int .i64 t.i,.slice none 0 0])) w5:=by unfold o85_2_4;go_simp
    refine sv_ g85_2_4 Y fun a21 e=>?_;clear Y
    clear h7 h9;have h10:=pt_ F e;replace F:=pu_ F e;clear e
    obtain ⟨w22,Y,hk,hB⟩:=ys4_ (o:=o85_2_5) rfl (F.of h2) h10 B4
    replace K1:=kx_ hk K1 (Nat.not_lt.2 LK1_b4);replace B1:=bx_ hk B1 Nb1_b4;clear B4;have B4:=hB;clear hB hk
    refine st_skip g85_2_5 rfl (wanted_free rfl) Y ?_;clear Y
    refine st_end ?_
    replace h1:=F.of h1;replace h2:=F.of h2;clear h5;clear h10;have R:=F.r;clear F
    change (Code.ret).wp _ _ _ _
    refine wp_ret ?_
    change bodyPost Try.prog Try.f70 (fun e w'=>e=.returned (tv (bareV t) none 0)∧Keep (fun g=>g < W.heap.size) W w') .ret a21 w22
    refine ret_cell (fn:=Try.f70) rfl R h2 B4 ?_
    refine ⟨?_,K1⟩
    first | (rw [show bareV t=.node t.k [] t.i [] from if_pos (by omega)];rfl) | (rw [show bareV t=.node t.k t.nm 0 [] from if_neg (by omega)];rfl)
theorem refBare_any (t:Tm) (a:Option Addr) (c:Nat) (W:World):Calls Try.prog 70 #[tv t a c] W fun e w'=>e=.returned (tv (bareV t) none 0)∧Keep (fun g=>g < W.heap.size) W w':=by
  refine enter_sx Try.func70 body85 rfl (by show (1:Nat) ≤ 16;decide) fun f0 R hs=>?_
  exact bare_w R (hs 0 _ rfl) (Keep.refl _ W)
theorem keep_part {W b0 w:World} {BB b7:Nat} (h:Keep (fun g=>g < W.heap.size) W b0) (k:Keep (fun g=>g < BB∧g ≠ b7) b0 w) (h1:W.heap.size ≤ BB) (h2:W.heap.size ≤ b7):Keep (fun g=>g < W.heap.size) W w :=
  h.trans (k.less fun g hg=>⟨by omega,by omega⟩)
theorem cell_kept {w w':World} {b k:Nat} {v:Value} (h:w.cell? ⟨b,k,none⟩=some v) (hk:Keep (fun g=>g < w.heap.size) w w'):w'.cell? ⟨b,k,none⟩=some v:=by
  have hb:b < w.heap.size:=World.block_lt_of_cell? w ⟨b,k,none⟩ h
  have:=hk.block b hb hb
  unfold World.cell? at h ⊢
  simp only at h ⊢
  rw [this];exact h
section
variable {W w:World} {t:Tm} {a:Option Addr} {c:Nat}
theorem fin_zero {g:Tm→Tm} (hT:TmAt W.heap.size W t a c) (K:Keep (fun g=>g < W.heap.size) W w) (he:mapT g t=.node 0 [] 0 []):∃ a' c',Ending.returned (.agg #[.int .i64 0,.string ⟨#[]⟩,.int .i64 0,.slice none 0 0])=.returned (tv (mapT g t) a' c')∧Fr 0 (fun _=>False) w W.heap.size w.heap.size (mapT g t) a' c'∧Keep (fun g=>g < W.heap.size) W w:=by
  rw [he]
  exact ⟨none,0,rfl,.old (tm_leaf (by decide) (by decide) (by simp)) K.size,K⟩
theorem fin_bare {g:Tm→Tm} (hT:TmAt W.heap.size W t a c) (K:Keep (fun g=>g < W.heap.size) W w) (he:mapT g t=bareV t):∃ a' c',Ending.returned (.agg #[.int .i64 (bareV t).k,.string (str (bareV t).nm),.int .i64 (bareV t).i,.slice none (bareV t).args.length 0])=.returned (tv (mapT g t) a' c')∧Fr 0 (fun _=>False) w W.heap.size w.heap.size (mapT g t) a' c'∧Keep (fun g=>g < W.heap.size) W w:=by
  rw [he]
  exact ⟨none,0,rfl,bare_fr hT K.size,K⟩
theorem fin_row {g:Tm→Tm} {BB j vc:Nat} {va:Option Addr} {ps:List TP} (hT:TmAt W.heap.size W t a c) (K:Keep (fun g=>g < W.heap.size) W w) (hR:TRow BB w (.slice va ps.length vc) ps) (hP:ps.map (·.1)=(t.args.take j).map (mapT g)) (hB:W.heap.size ≤ BB) (h4:t.k=4) (hj:t.args.length ≤ j):∃ a' c',Ending.returned (.agg #[.int .i64 4,.string (str t.nm),.int .i64 0,.slice va ps.length vc])=.returned (tv (mapT g t) a' c')∧Fr 0 (fun _=>False) w W.heap.size w.heap.size (mapT g t) a' c'∧Keep (fun g=>g < W.heap.size) W w:=by
  obtain ⟨-,-,hn,hl⟩:=hT.wk
  rw [List.take_of_length_le hj] at hP
  have hlen:ps.length=t.args.length:=by have:=congrArg List.length hP;simpa using this
  obtain ⟨a',c',he,hf⟩:=hR.done (k:=4) (i:=0) (nm:=t.nm) (by decide) (by decide) hn (by omega)
  injection he with e1 e2 e3
  subst e1;subst e3
  rw [mapT_4 h4,← hP]
  refine ⟨va,vc,?_,hf.up (Nat.le_refl _) hB,K⟩
  show _=Ending.returned (.agg #[.int .i64 4,.string (str t.nm),.int .i64 0,.slice va (ps.map (·.1)).length vc])
  rw [List.length_map]
end
theorem cp_0 {t:Tm} (h1:t.k=1) (h2:t.i=0):mapT cpL t=.node 0 [] 0 []:=by rw [mapT_n (by omega)];exact if_pos ⟨h1,h2⟩
theorem cp_b {t:Tm} (h1:¬ t.k=4) (h2:¬ (t.k=1∧t.i=0)):mapT cpL t=bareV t:=by rw [mapT_n h1];exact if_neg h2
def o68_0_0:Oper:=⟨some 3,Op.box 24 (Operand.tmp 0),0, "ref.go:144",#[],none⟩
def o68_0_1:Oper:=⟨some 5,Op.box 24 (Operand.tmp 2),0, "ref.go:144",#[],none⟩
def o68_0_2:Oper:=⟨some 6,Op.alloc 24,0, "ref.go:144",#[],none⟩
def O68_0:Array Oper:=List.toArray (o68_0_0::o68_0_1::o68_0_2::[])
theorem g68_0_0:O68_0[0]? = some o68_0_0:=rfl
theorem g68_0_1:O68_0[1]? = some o68_0_1:=rfl
theorem g68_0_2:O68_0[2]? = some o68_0_2:=rfl
def c68_1:Code:=Code.region 0 O68_0 false
def o68_1_0:Oper:=⟨some 9,Op.fieldAddr 24 (Operand.tmp 3) 0,0, "ref.go:145",#[],none⟩
def o68_1_1:Oper:=⟨some 10,Op.load 3 (Operand.tmp 9),3, "ref.go:145",#[ed_ 0],none⟩
def o68_1_2:Oper:=⟨some 11,Op.binOp Go.BinOp.eql 3 (Operand.tmp 10) (Operand.const (Value.int IntKind.i64 1)) 3,4, "ref.go:145",#[ed_ 1],none⟩
def o68_1_3:Oper:=⟨some 12,Op.move (Operand.tmp 11),4, "ref.go:145",#[ed_ 2],none⟩
def o68_1_4:Oper:=⟨some 13,Op.fieldAddr 24 (Operand.tmp 3) 2,0, "ref.go:145",#[eg_ 3],some (3,true)⟩
def o68_1_5:Oper:=⟨some 14,Op.load 2 (Operand.tmp 13),2, "ref.go:145",#[ed_ 4,eg_ 3],some (3,true)⟩
def o68_1_6:Oper:=⟨some 15,Op.move (Operand.tmp 1),2, "ref.go:145",#[eg_ 3],some (3,true)⟩
def o68_1_7:Oper:=⟨some 16,Op.binOp Go.BinOp.eql 2 (Operand.tmp 14) (Operand.tmp 15) 2,4, "ref.go:145",#[ed_ 5,ed_ 6,eg_ 3],some (3,true)⟩
def o68_1_8:Oper:=⟨some 17,Op.pick (Operand.tmp 12) (Operand.tmp 16) (Operand.const (Value.bool false)),4, "ref.go:145",#[ed_ 3,ed_ 7],none⟩
def O68_1:Array Oper:=List.toArray (o68_1_0::o68_1_1::o68_1_2::o68_1_3::o68_1_4::o68_1_5::o68_1_6::o68_1_7::o68_1_8::[])
theorem g68_1_0:O68_1[0]? = some o68_1_0:=rfl
theorem g68_1_1:O68_1[1]? = some o68_1_1:=rfl
theorem g68_1_2:O68_1[2]? = some o68_1_2:=rfl
theorem g68_1_3:O68_1[3]? = some o68_1_3:=rfl
theorem g68_1_4:O68_1[4]? = some o68_1_4:=rfl
theorem g68_1_5:O68_1[5]? = some o68_1_5:=rfl
theorem g68_1_6:O68_1[6]? = some o68_1_6:=rfl
theorem g68_1_7:O68_1[7]? = some o68_1_7:=rfl
theorem g68_1_8:O68_1[8]? = some o68_1_8:=rfl
def c68_4:Code:=Code.region 1 O68_1 false
def o68_2_0:Oper:=⟨some 18,Op.load 24 (Operand.tmp 5),24, "ref.go:146",#[],none⟩
def o68_2_1:Oper:=⟨none,Op.store 24 (Operand.tmp 6) (Operand.tmp 18),0, "ref.go:146",#[ed_ 0,ep_ 0],none⟩
def O68_2:Array Oper:=List.toArray (o68_2_0::o68_2_1::[])
theorem g68_2_0:O68_2[0]? = some o68_2_0:=rfl
theorem g68_2_1:O68_2[1]? = some o68_2_1:=rfl
def c68_7:Code:=Code.region 2 O68_2 false
def c68_6:Code:=Code.seq c68_7 Code.ret
def c68_5:Code:=Code.cond (Operand.tmp 17) c68_6 Code.skip
def c68_3:Code:=Code.seq c68_4 c68_5
def o68_3_0:Oper:=⟨some 19,Op.fieldAddr 24 (Operand.tmp 3) 0,0, "ref.go:148",#[],none⟩
def o68_3_1:Oper:=⟨some 20,Op.load 3 (Operand.tmp 19),3, "ref.go:148",#[ed_ 0],none⟩
def o68_3_2:Oper:=⟨some 21,Op.binOp Go.BinOp.neq 3 (Operand.tmp 20) (Operand.const (Value.int IntKind.i64 4)) 3,4, "ref.go:148",#[ed_ 1],none⟩
def O68_3:Array Oper:=List.toArray (o68_3_0::o68_3_1::o68_3_2::[])
theorem g68_3_0:O68_3[0]? = some o68_3_0:=rfl
theorem g68_3_1:O68_3[1]? = some o68_3_1:=rfl
theorem g68_3_2:O68_3[2]? = some o68_3_2:=rfl
def c68_12:Code:=Code.region 3 O68_3 false
def o68_4_0:Oper:=⟨some 22,Op.load 24 (Operand.tmp 3),24, "ref.go:149",#[],none⟩
def o68_4_1:Oper:=⟨some 23,Op.call { callee:=Callee.value (Operand.func 70),args:=#[Operand.tmp 22],argTypes:=#[24] },24, "ref.go:149",#[ed_ 0],none⟩
def o68_4_2:Oper:=⟨none,Op.store 24 (Operand.tmp 6) (Operand.tmp 23),0, "ref.go:149",#[ed_ 1,ec_ 1,ep_ 0,ep_ 1],none⟩
def O68_4:Array Oper:=List.toArray (o68_4_0::o68_4_1::o68_4_2::[])
theorem g68_4_0:O68_4[0]? = some o68_4_0:=rfl
theorem g68_4_1:O68_4[1]? = some o68_4_1:=rfl
theorem g68_4_2:O68_4[2]? = some o68_4_2:=rfl
def c68_15:Code:=Code.region 4 O68_4 false
def c68_14:Code:=Code.seq c68_15 Code.ret
def c68_13:Code:=Code.cond (Operand.tmp 21) c68_14 Code.skip
def c68_11:Code:=Code.seq c68_12 c68_13
def o68_5_0:Oper:=⟨some 24,Op.fieldAddr 24 (Operand.tmp 3) 1,0, "ref.go:151",#[],none⟩
def o68_5_1:Oper:=⟨some 25,Op.load 9 (Operand.tmp 24),9, "ref.go:151",#[ed_ 0],none⟩
def o68_5_2:Oper:=⟨some 26,Op.build 24 #[(0,Operand.const (Value.int IntKind.i64 4)),(1,Operand.tmp 25)],24, "ref.go:151",#[ed_ 1],none⟩
def o68_5_3:Oper:=⟨some 7,Op.alloc 24,0, "ref.go:151",#[],none⟩
def o68_5_4:Oper:=⟨none,Op.store 24 (Operand.tmp 7) (Operand.tmp 26),0, "ref.go:151",#[ed_ 3,ed_ 2,ep_ 0,ep_ 1,ep_ 2,ep_ 3],none⟩
def O68_5:Array Oper:=List.toArray (o68_5_0::o68_5_1::o68_5_2::o68_5_3::o68_5_4::[])
theorem g68_5_0:O68_5[0]? = some o68_5_0:=rfl
theorem g68_5_1:O68_5[1]? = some o68_5_1:=rfl
theorem g68_5_2:O68_5[2]? = some o68_5_2:=rfl
theorem g68_5_3:O68_5[3]? = some o68_5_3:=rfl
theorem g68_5_4:O68_5[4]? = some o68_5_4:=rfl
def c68_19:Code:=Code.region 5 O68_5 false
def o68_6_0:Oper:=⟨some 8,Op.assign (Operand.const (Value.int IntKind.i64 0)),3, "ref.go:152",#[],none⟩
def O68_6:Array Oper:=List.toArray (o68_6_0::[])
theorem g68_6_0:O68_6[0]? = some o68_6_0:=rfl
def c68_22:Code:=Code.region 6 O68_6 false
def o68_7_0:Oper:=⟨some 27,Op.move (Operand.tmp 8),3, "ref.go:152",#[],none⟩
def o68_7_1:Oper:=⟨some 28,Op.fieldAddr 24 (Operand.tmp 3) 3,0, "ref.go:152",#[],none⟩
def o68_7_2:Oper:=⟨some 29,Op.load 22 (Operand.tmp 28),22, "ref.go:152",#[ed_ 1],none⟩
def o68_7_3:Oper:=⟨some 30,Op.call { callee:=Callee.builtin Go.Builtin.len,args:=#[Operand.tmp 29],argTypes:=#[22] },3, "ref.go:152",#[ed_ 2],none⟩
def o68_7_4:Oper:=⟨some 31,Op.binOp Go.BinOp.lss 3 (Operand.tmp 27) (Operand.tmp 30) 3,4, "ref.go:152",#[ed_ 0,ed_ 3],none⟩
def O68_7:Array Oper:=List.toArray (o68_7_0::o68_7_1::o68_7_2::o68_7_3::o68_7_4::[])
theorem g68_7_0:O68_7[0]? = some o68_7_0:=rfl
theorem g68_7_1:O68_7[1]? = some o68_7_1:=rfl
theorem g68_7_2:O68_7[2]? = some o68_7_2:=rfl
theorem g68_7_3:O68_7[3]? = some o68_7_3:=rfl
theorem g68_7_4:O68_7[4]? = some o68_7_4:=rfl
def c68_27:Code:=Code.region 7 O68_7 false
def c68_30:Code:=Code.exit 0
def c68_28:Code:=Code.cond (Operand.tmp 31) Code.skip c68_30
def c68_26:Code:=Code.seq c68_27 c68_28
def o68_9_0:Oper:=⟨some 34,Op.fieldAddr 24 (Operand.tmp 7) 3,0, "ref.go:153",#[],none⟩
def o68_9_1:Oper:=⟨some 35,Op.load 22 (Operand.tmp 34),22, "ref.go:153",#[ed_ 0],none⟩
def o68_9_2:Oper:=⟨some 36,Op.fieldAddr 24 (Operand.tmp 3) 3,0, "ref.go:153",#[],none⟩
def o68_9_3:Oper:=⟨some 37,Op.load 22 (Operand.tmp 36),22, "ref.go:153",#[ed_ 2],none⟩
def o68_9_4:Oper:=⟨some 38,Op.move (Operand.tmp 8),3, "ref.go:153",#[],none⟩
def o68_9_5:Oper:=⟨some 39,Op.indexAddr 22 (Operand.tmp 37) (Operand.tmp 38),0, "ref.go:153",#[ed_ 3,ed_ 4],none⟩
def o68_9_6:Oper:=⟨some 40,Op.load 24 (Operand.tmp 39),24, "ref.go:153",#[ed_ 5],none⟩
def o68_9_7:Oper:=⟨some 41,Op.move (Operand.tmp 1),2, "ref.go:153",#[],none⟩
def o68_9_8:Oper:=⟨some 42,Op.load 24 (Operand.tmp 5),24, "ref.go:153",#[],none⟩
def o68_9_9:Oper:=⟨some 43,Op.call { callee:=Callee.value (Operand.func 43),args:=#[Operand.tmp 40,Operand.tmp 41,Operand.tmp 42],argTypes:=#[24,2,24] },24, "ref.go:153",#[ed_ 6,ed_ 7,ed_ 8],none⟩
def o68_9_10:Oper:=⟨some 44,Op.buildSlice 22 1 #[(0,Operand.tmp 43)],22, "ref.go:153",#[ed_ 9],none⟩
def o68_9_11:Oper:=⟨some 45,Op.call { callee:=Callee.builtin Go.Builtin.append,args:=#[Operand.tmp 35,Operand.tmp 44],argTypes:=#[22,22] },22, "ref.go:153",#[ed_ 1,ed_ 10,ec_ 9],none⟩
def o68_9_12:Oper:=⟨some 46,Op.fieldAddr 24 (Operand.tmp 7) 3,0, "ref.go:153",#[ep_ 0,ep_ 1,ep_ 2,ep_ 3,ep_ 4,ep_ 5,ep_ 6,ep_ 7,ep_ 8,ep_ 9,ep_ 10,ep_ 11],none⟩
def o68_9_13:Oper:=⟨none,Op.store 22 (Operand.tmp 46) (Operand.tmp 45),0, "ref.go:153",#[ed_ 12,ed_ 11,ec_ 11,ep_ 0,ep_ 1,ep_ 2,ep_ 3,ep_ 4,ep_ 5,ep_ 6,ep_ 7,ep_ 8,ep_ 9,ep_ 10,ep_ 11],none⟩
def O68_9:Array Oper:=List.toArray (o68_9_0::o68_9_1::o68_9_2::o68_9_3::o68_9_4::o68_9_5::o68_9_6::o68_9_7::o68_9_8::o68_9_9::o68_9_10::o68_9_11::o68_9_12::o68_9_13::[])
theorem g68_9_0:O68_9[0]? = some o68_9_0:=rfl
theorem g68_9_1:O68_9[1]? = some o68_9_1:=rfl
theorem g68_9_2:O68_9[2]? = some o68_9_2:=rfl
theorem g68_9_3:O68_9[3]? = some o68_9_3:=rfl
theorem g68_9_4:O68_9[4]? = some o68_9_4:=rfl
theorem g68_9_5:O68_9[5]? = some o68_9_5:=rfl
theorem g68_9_6:O68_9[6]? = some o68_9_6:=rfl
theorem g68_9_7:O68_9[7]? = some o68_9_7:=rfl
theorem g68_9_8:O68_9[8]? = some o68_9_8:=rfl
theorem g68_9_9:O68_9[9]? = some o68_9_9:=rfl
theorem g68_9_10:O68_9[10]? = some o68_9_10:=rfl
theorem g68_9_11:O68_9[11]? = some o68_9_11:=rfl
theorem g68_9_12:O68_9[12]? = some o68_9_12:=rfl
theorem g68_9_13:O68_9[13]? = some o68_9_13:=rfl
theorem ns68_9:Region.noSelect O68_9=true:=by kernel_rfl
def c68_33:Code:=Code.region 9 O68_9 true
def c68_32:Code:=Code.block 1 c68_33
def o68_8_0:Oper:=⟨some 32,Op.move (Operand.tmp 8),3, "ref.go:152",#[],none⟩
def o68_8_1:Oper:=⟨some 33,Op.binOp Go.BinOp.add 3 (Operand.tmp 32) (Operand.const (Value.int IntKind.i64 1)) 3,3, "ref.go:152",#[ed_ 0],none⟩
def o68_8_2:Oper:=⟨some 8,Op.assign (Operand.tmp 33),3, "ref.go:152",#[ed_ 1,ep_ 0,ep_ 1],none⟩
def O68_8:Array Oper:=List.toArray (o68_8_0::o68_8_1::o68_8_2::[])
theorem g68_8_0:O68_8[0]? = some o68_8_0:=rfl
theorem g68_8_1:O68_8[1]? = some o68_8_1:=rfl
theorem g68_8_2:O68_8[2]? = some o68_8_2:=rfl
def c68_34:Code:=Code.region 8 O68_8 false
def c68_31:Code:=Code.seq c68_32 c68_34
def c68_25:Code:=Code.seq c68_26 c68_31
def c68_24:Code:=Code.loop c68_25
def c68_23:Code:=Code.block 0 c68_24
def c68_21:Code:=Code.seq c68_22 c68_23
def o68_10_0:Oper:=⟨some 47,Op.load 24 (Operand.tmp 7),24, "ref.go:155",#[],none⟩
def o68_10_1:Oper:=⟨none,Op.store 24 (Operand.tmp 6) (Operand.tmp 47),0, "ref.go:155",#[ed_ 0,ep_ 0],none⟩
def O68_10:Array Oper:=List.toArray (o68_10_0::o68_10_1::[])
theorem g68_10_0:O68_10[0]? = some o68_10_0:=rfl
theorem g68_10_1:O68_10[1]? = some o68_10_1:=rfl
def c68_36:Code:=Code.region 10 O68_10 false
def c68_35:Code:=Code.seq c68_36 Code.ret
def c68_20:Code:=Code.seq c68_21 c68_35
def c68_18:Code:=Code.seq c68_19 c68_20
def c68_10:Code:=Code.seq c68_11 c68_18
def c68_2:Code:=Code.seq c68_3 c68_10
def c68_0:Code:=Code.seq c68_1 c68_2
theorem en68_85:Enters Try.prog 70:=enters_of Try.func70 (by kernel_rfl) rfl
theorem body68:Try.f43.body=some c68_0:=by kernel_rfl
set_option maxRecDepth 100000 in
set_option maxHeartbeats 4000000 in
theorem put_w {W:World} {t:Tm} {a:Option Addr} {c:Nat} {f0:Act} {w0:World} (R:FrS 48 f0) (h0:f0.tmps[0]? = some (.agg #[.int .i64 t.k,.string (str t.nm),.int .i64 t.i,.slice a t.args.length c])) (h1:f0.tmps[1]? = some (.int .i64 0)) (h2:f0.tmps[2]? = some (.agg #[.int .i64 0,.string (⟨#[]⟩),.int .i64 0,.slice none 0 0])) (K1:Keep (fun g=>g < W.heap.size) W w0)  (HT:Hid (TmAt W.heap.size W t a c)) (HNZ:Hid (¬ (t.k=1∧t.i=0))) (HN:Hid (t.ns ≤ 2000)) (HIH:Hid (∀ x ∈ t.args,x.ns ≤ 2000→∀ (w:World) (a:Option Addr) (c:Nat),TmAt w.heap.size w x a c→Calls Try.prog 43 #[tv x a c,.int .i64 0,.agg #[.int .i64 0,.string ⟨#[]⟩,.int .i64 0,.slice none 0 0]] w fun e w'=>∃ a' c',e=.returned (tv (mapT cpL x) a' c')∧Fr 0 (fun _=>False) w' w.heap.size w'.heap.size (mapT cpL x) a' c'∧Keep (fun g=>g < w.heap.size) w w')):c68_0.wp Try.prog (bodyPost Try.prog Try.f43 (fun e w'=>∃ a' c',e=.returned (tv (mapT cpL t) a' c')∧Fr 0 (fun _=>False) w' W.heap.size w'.heap.size (mapT cpL t) a' c'∧Keep (fun g=>g < W.heap.size) W w')) f0 w0:=by
  refine wp_seq (x:=c68_1) (y:=c68_2) ?_
  change (Code.region 0 O68_0 false).wp _ _ _ _
  refine reg_in (l:=[0,1,2]) rfl ?_
  have F:FE_ _ [] f0 f0:=⟨R,Ag_.refl _⟩;clear R
  have Y:(execOp f0.eval o68_0_0).run Try.prog w0=.ok (.value (.pointer (some ⟨w0.heap.size,0,none⟩))) (w0.alloc (.cells #[.int .i64 t.k,.string (str t.nm),.int .i64 t.i,.slice a t.args.length c] 24)):=by have r0:=F.of h0;unfold o68_0_0;go_simp
  have B1:=Blk.new w0 24 #[.int .i64 t.k,.string (str t.nm),.int .i64 t.i,.slice a t.args.length c]
  obtain ⟨w2,hw⟩:∃ x,x=w0.alloc (.cells #[.int .i64 t.k,.string (str t.nm),.int .i64 t.i,.slice a t.args.length c] 24):=⟨_,rfl⟩;rw [← hw] at Y B1
  obtain ⟨b1,hb⟩:∃ x,x=w0.heap.size:=⟨_,rfl⟩;rw [← hb] at Y B1
  have LK1_b1:=lk_ hb K1;replace K1:=ka_ hw K1;clear hw hb
  refine sv_ g68_0_0 Y fun a3 e=>?_;clear Y
  have h3:=pt_ F e;replace F:=pu_ F e;clear e
  have Y:(execOp a3.eval o68_0_1).run Try.prog w2=.ok (.value (.pointer (some ⟨w2.heap.size,0,none⟩))) (w2.alloc (.cells #[.int .i64 0,.string (⟨#[]⟩),.int .i64 0,.slice none 0 0] 24)):=by have r2:=F.of h2;unfold o68_0_1;go_simp
  have B4:=Blk.new w2 24 #[.int .i64 0,.string (⟨#[]⟩),.int .i64 0,.slice none 0 0]
  obtain ⟨w5,hw⟩:∃ x,x=w2.alloc (.cells #[.int .i64 0,.string (⟨#[]⟩),.int .i64 0,.slice none 0 0] 24):=⟨_,rfl⟩;rw [← hw] at Y B4
  obtain ⟨b4,hb⟩:∃ x,x=w2.heap.size:=⟨_,rfl⟩;rw [← hb] at Y B4
  have Nb1_b4:=nb_ hb B1;replace B1:=ba_ hw B1;have LK1_b4:=lk_ hb K1;replace K1:=ka_ hw K1;clear hw hb
  refine sv_ g68_0_1 Y fun a6 e=>?_;clear Y
  have h5:=pt_ F e;replace F:=pu_ F e;replace h3:=so_ e h3;clear e
  have Y:(execOp a6.eval o68_0_2).run Try.prog w5=.ok (.value (.pointer (some ⟨w5.heap.size,0,none⟩))) (w5.alloc (.cells #[.int .i64 0,.string (⟨#[]⟩),.int .i64 0,.slice none 0 0] 24)):=by unfold o68_0_2;go_simp
  have B7:=Blk.new w5 24 #[.int .i64 0,.string (⟨#[]⟩),.int .i64 0,.slice none 0 0]
  obtain ⟨w8,hw⟩:∃ x,x=w5.alloc (.cells #[.int .i64 0,.string (⟨#[]⟩),.int .i64 0,.slice none 0 0] 24):=⟨_,rfl⟩;rw [← hw] at Y B7
  obtain ⟨b7,hb⟩:∃ x,x=w5.heap.size:=⟨_,rfl⟩;rw [← hb] at Y B7
  have Nb1_b7:=nb_ hb B1;replace B1:=ba_ hw B1;have Nb4_b7:=nb_ hb B4;replace B4:=ba_ hw B4;have LK1_b7:=lk_ hb K1;replace K1:=ka_ hw K1;clear hw hb
  refine sv_ g68_0_2 Y fun a9 e=>?_;clear Y
  have h6:=pt_ F e;replace F:=pu_ F e;replace h3:=so_ e h3;replace h5:=so_ e h5;clear e
  refine st_end ?_
  clear h0;replace h1:=F.of h1;clear h2;have R:=F.r;clear F
  change (c68_2).wp _ _ _ _
  refine js_ (x:=c68_3) (y:=c68_10) (fun fX wX=>FrS 48 fX∧fX.tmps[1]? = some (.int .i64 0)∧fX.tmps[3]? = some (.pointer (some ⟨b1,0,none⟩))∧fX.tmps[5]? = some (.pointer (some ⟨b4,0,none⟩))∧fX.tmps[6]? = some (.pointer (some ⟨b7,0,none⟩))∧Keep (fun g=>g < W.heap.size) W wX∧Blk wX b1 24 #[.int .i64 t.k,.string (str t.nm),.int .i64 t.i,.slice a t.args.length c]∧Blk wX b4 24 #[.int .i64 0,.string (⟨#[]⟩),.int .i64 0,.slice none 0 0]∧Blk wX b7 24 #[.int .i64 0,.string (⟨#[]⟩),.int .i64 0,.slice none 0 0]) ?_ ?_
  ·
    refine wp_seq (x:=c68_4) (y:=c68_5) ?_
    change (Code.region 1 O68_1 false).wp _ _ _ _
    refine reg_in (l:=[0,1,2,3,4,5,6,7,8]) rfl ?_
    have F:FE_ _ [] a9 a9:=⟨R,Ag_.refl _⟩;clear R
    refine sv_ g68_1_0 (yf0_ rfl (F.of h3)) fun a10 e=>?_
    have h9:=pt_ F e;replace F:=pu_ F e;clear e
    refine sv_ g68_1_1 (yk0_ rfl h9 B1) fun a11 e=>?_
    clear h9;have h10:=pt_ F e;replace F:=pu_ F e;clear e
    obtain ⟨b12,hb12⟩:∃ x,(((t.k:Int) == (1:Int)))=x:=⟨_,rfl⟩
    have Y:(execOp a11.eval o68_1_2).run Try.prog w8=.ok (.value (.bool b12)) w8:=by rw [← hb12];unfold o68_1_2;go_simp
    refine sv_ g68_1_2 Y fun a13 e=>?_;clear Y
    clear h10;have h11:=pt_ F e;replace F:=pu_ F e;clear e
    refine sv_ g68_1_3 (ym_ rfl h11) fun a14 e=>?_
    clear h11;have h12:=pt_ F e;replace F:=pu_ F e;clear e
    cases b12 with
    | false =>
      have fb12:=hb12;clear hb12
      simp only [decide_eq_true_eq,decide_eq_false_iff_not,bne_iff_ne,bne_eq_false_iff_eq,beq_iff_eq,beq_eq_false_iff_ne,ne_eq,Bool.not_eq_true',Bool.not_eq_false',Bool.not_eq_eq_eq_not,Bool.not_true,Bool.not_false] at fb12
      refine st_not g68_1_4 rfl (wanted_is (j:=3) (d:=12) rfl rfl h12 rfl) fun a15 e=>?_
      have h13:=pt_ F e;replace F:=pu_ F e;replace h12:=so_ e h12;clear e
      refine st_not g68_1_5 rfl (wanted_is (j:=3) (d:=12) rfl rfl h12 rfl) fun a16 e=>?_
      clear h13;have h14:=pt_ F e;replace F:=pu_ F e;replace h12:=so_ e h12;clear e
      refine st_not g68_1_6 rfl (wanted_is (j:=3) (d:=12) rfl rfl h12 rfl) fun a17 e=>?_
      have h15:=pt_ F e;replace F:=pu_ F e;replace h12:=so_ e h12;replace h14:=so_ e h14;clear e
      refine st_not g68_1_7 rfl (wanted_is (j:=3) (d:=12) rfl rfl h12 rfl) fun a18 e=>?_
      clear h14 h15;have h16:=pt_ F e;replace F:=pu_ F e;replace h12:=so_ e h12;clear e
      have Y:(execOp a18.eval o68_1_8).run Try.prog w8=.ok (.value (.bool false)) w8:=by unfold o68_1_8;go_simp
      refine sv_ g68_1_8 Y fun a19 e=>?_;clear Y
      clear h12 h16;have h17:=pt_ F e;replace F:=pu_ F e;clear e
      refine st_end ?_
      replace h1:=F.of h1;replace h3:=F.of h3;replace h5:=F.of h5;replace h6:=F.of h6;have R:=F.r;clear F
      change (c68_5).wp _ _ _ _
      refine wp_cond_false (x:=c68_6) (y:=Code.skip) (eval_slot h17) ?_
      refine wp_skip ?_
      exact ⟨R,h1,h3,h5,h6,K1,B1,B4,B7⟩
    | true =>
      have fb12:=hb12;clear hb12
      simp only [decide_eq_true_eq,decide_eq_false_iff_not,bne_iff_ne,bne_eq_false_iff_eq,beq_iff_eq,beq_eq_false_iff_ne,ne_eq,Bool.not_eq_true',Bool.not_eq_false',Bool.not_eq_eq_eq_not,Bool.not_true,Bool.not_false] at fb12
      refine st_val g68_1_4 rfl (wanted_is (j:=3) (d:=12) rfl rfl h12 rfl) (yf2_ rfl (F.of h3)) fun a20 e=>?_
      have h13:=pt_ F e;replace F:=pu_ F e;replace h12:=so_ e h12;clear e
      refine st_val g68_1_5 rfl (wanted_is (j:=3) (d:=12) rfl rfl h12 rfl) (yk2_ rfl h13 B1) fun a21 e=>?_
      clear h13;have h14:=pt_ F e;replace F:=pu_ F e;replace h12:=so_ e h12;clear e
      refine st_val g68_1_6 rfl (wanted_is (j:=3) (d:=12) rfl rfl h12 rfl) (ym_ rfl (F.of h1)) fun a22 e=>?_
      have h15:=pt_ F e;replace F:=pu_ F e;replace h12:=so_ e h12;replace h14:=so_ e h14;clear e
      have Y:(execOp a22.eval o68_1_7).run Try.prog w8=.ok (.value (.bool false)) w8:=by have hnz:¬ t.i=0:=(fun h=>HNZ.out ⟨(by first | assumption | omega),h⟩);unfold o68_1_7;go_simp
      refine st_val g68_1_7 rfl (wanted_is (j:=3) (d:=12) rfl rfl h12 rfl) Y fun a23 e=>?_;clear Y
      clear h14 h15;have h16:=pt_ F e;replace F:=pu_ F e;replace h12:=so_ e h12;clear e
      have Y:(execOp a23.eval o68_1_8).run Try.prog w8=.ok (.value (.bool false)) w8:=by unfold o68_1_8;go_simp
      refine sv_ g68_1_8 Y fun a24 e=>?_;clear Y
      clear h12 h16;have h17:=pt_ F e;replace F:=pu_ F e;clear e
      refine st_end ?_
      replace h1:=F.of h1;replace h3:=F.of h3;replace h5:=F.of h5;replace h6:=F.of h6;have R:=F.r;clear F
      change (c68_5).wp _ _ _ _
      refine wp_cond_false (x:=c68_6) (y:=Code.skip) (eval_slot h17) ?_
      refine wp_skip ?_
      exact ⟨R,h1,h3,h5,h6,K1,B1,B4,B7⟩
  ·
    clear R h1 h3 h5 h6 K1 B1 B4 B7
    rintro a25 w26 ⟨R,h1,h3,h5,h6,K1,B1,B4,B7⟩
    refine wp_seq (x:=c68_11) (y:=c68_18) ?_
    refine wp_seq (x:=c68_12) (y:=c68_13) ?_
    change (Code.region 3 O68_3 false).wp _ _ _ _
    refine reg_in (l:=[0,1,2]) rfl ?_
    have F:FE_ _ [] a25 a25:=⟨R,Ag_.refl _⟩;clear R
    refine sv_ g68_3_0 (yf0_ rfl (F.of h3)) fun a27 e=>?_
    have h19:=pt_ F e;replace F:=pu_ F e;clear e
    refine sv_ g68_3_1 (yk0_ rfl h19 B1) fun a28 e=>?_
    clear h19;have h20:=pt_ F e;replace F:=pu_ F e;clear e
    obtain ⟨b29,hb29⟩:∃ x,(((t.k:Int) != (4:Int)))=x:=⟨_,rfl⟩
    have Y:(execOp a28.eval o68_3_2).run Try.prog w26=.ok (.value (.bool b29)) w26:=by rw [← hb29];unfold o68_3_2;go_simp
    refine sv_ g68_3_2 Y fun a30 e=>?_;clear Y
    clear h20;have h21:=pt_ F e;replace F:=pu_ F e;clear e
    refine st_end ?_
    replace h1:=F.of h1;replace h3:=F.of h3;replace h5:=F.of h5;replace h6:=F.of h6;have R:=F.r;clear F
    change (c68_13).wp _ _ _ _
    cases b29 with
    | false =>
      have fb29:=hb29;clear hb29
      simp only [decide_eq_true_eq,decide_eq_false_iff_not,bne_iff_ne,bne_eq_false_iff_eq,beq_iff_eq,beq_eq_false_iff_ne,ne_eq,Bool.not_eq_true',Bool.not_eq_false',Bool.not_eq_eq_eq_not,Bool.not_true,Bool.not_false] at fb29
      refine wp_cond_false (x:=c68_14) (y:=Code.skip) (eval_slot h21) ?_
      refine wp_skip ?_
      change (c68_18).wp _ _ _ _
      refine wp_seq (x:=c68_19) (y:=c68_20) ?_
      change (Code.region 5 O68_5 false).wp _ _ _ _
      refine reg_in (l:=[0,1,2,3,4]) rfl ?_
      have F:FE_ _ [] a30 a30:=⟨R,Ag_.refl _⟩;clear R
      refine sv_ g68_5_0 (yf1_ rfl (F.of h3)) fun a31 e=>?_
      have h24:=pt_ F e;replace F:=pu_ F e;clear e
      refine sv_ g68_5_1 (yk1_ rfl h24 B1) fun a32 e=>?_
      clear h24;have h25:=pt_ F e;replace F:=pu_ F e;clear e
      have Y:(execOp a32.eval o68_5_2).run Try.prog w26=.ok (.value (.agg #[.int .i64 4,.string (str t.nm),.int .i64 0,.slice none 0 0])) w26:=by unfold o68_5_2;go_simp
      refine sv_ g68_5_2 Y fun a33 e=>?_;clear Y
      clear h25;have h26:=pt_ F e;replace F:=pu_ F e;clear e
      have Y:(execOp a33.eval o68_5_3).run Try.prog w26=.ok (.value (.pointer (some ⟨w26.heap.size,0,none⟩))) (w26.alloc (.cells #[.int .i64 0,.string (⟨#[]⟩),.int .i64 0,.slice none 0 0] 24)):=by unfold o68_5_3;go_simp
      have B34:=Blk.new w26 24 #[.int .i64 0,.string (⟨#[]⟩),.int .i64 0,.slice none 0 0]
      obtain ⟨w35,hw⟩:∃ x,x=w26.alloc (.cells #[.int .i64 0,.string (⟨#[]⟩),.int .i64 0,.slice none 0 0] 24):=⟨_,rfl⟩;rw [← hw] at Y B34
      obtain ⟨b34,hb⟩:∃ x,x=w26.heap.size:=⟨_,rfl⟩;rw [← hb] at Y B34
      have Nb1_b34:=nb_ hb B1;replace B1:=ba_ hw B1;have Nb4_b34:=nb_ hb B4;replace B4:=ba_ hw B4;have Nb7_b34:=nb_ hb B7;replace B7:=ba_ hw B7;have LK1_b34:=lk_ hb K1;replace K1:=ka_ hw K1;clear hw hb
      refine sv_ g68_5_3 Y fun a36 e=>?_;clear Y
      have h7:=pt_ F e;replace F:=pu_ F e;replace h26:=so_ e h26;clear e
      obtain ⟨w37,Y,hk,hB⟩:=ys4_ (o:=o68_5_4) rfl h7 h26 B34
      replace K1:=kx_ hk K1 (Nat.not_lt.2 LK1_b34);replace B1:=bx_ hk B1 Nb1_b34;replace B4:=bx_ hk B4 Nb4_b34;replace B7:=bx_ hk B7 Nb7_b34;clear B34;have B34:=hB;clear hB hk
      refine st_skip g68_5_4 rfl (wanted_free rfl) Y ?_;clear Y
      refine st_end ?_
      replace h1:=F.of h1;replace h3:=F.of h3;replace h5:=F.of h5;replace h6:=F.of h6;clear h21;clear h26;have R:=F.r;clear F
      change (c68_20).wp _ _ _ _
      refine wp_seq (x:=c68_21) (y:=c68_35) ?_
      refine wp_seq (x:=c68_22) (y:=c68_23) ?_
      change (Code.region 6 O68_6 false).wp _ _ _ _
      refine reg_in (l:=[0]) rfl ?_
      have F:FE_ _ [] a36 a36:=⟨R,Ag_.refl _⟩;clear R
      have Y:(execOp a36.eval o68_6_0).run Try.prog w37=.ok (.value (.int .i64 0)) w37:=by unfold o68_6_0;go_simp
      refine sv_ g68_6_0 Y fun a38 e=>?_;clear Y
      have h8:=pt_ F e;replace F:=pu_ F e;clear e
      refine st_end ?_
      replace h1:=F.of h1;replace h3:=F.of h3;replace h5:=F.of h5;replace h6:=F.of h6;replace h7:=F.of h7;have R:=F.r;clear F
      change (c68_23).wp _ _ _ _
      refine wp_block (id:=0) (c:=c68_24) ?_
      obtain ⟨BB,hBB⟩:∃ q,q=w37.heap.size:=⟨_,rfl⟩
      have HTR:Hid (TRow BB w37 (.slice none 0 0) []):=Lib.hid (TRow.nil (by rw [hBB];exact Nat.le_refl _))
      have HWB:W.heap.size ≤ BB:=by rw [hBB];exact K1.size
      have Eb1:b1 < BB:=by rw [hBB];exact B1.lt
      have Eb4:b4 < BB:=by rw [hBB];exact B4.lt
      have Eb7:b7 < BB:=by rw [hBB];exact B7.lt
      have Eb34:b34 < BB:=by rw [hBB];exact B34.lt
      clear hBB
      have HLN:Hid (t.args.length ≤ 2000):=Lib.hid (Nat.le_trans (args_ns (by omega)) HN.out)
      refine wp_loop_ghost (c:=c68_25) (fun n fX wX=>∃ j:Nat,∃ va:Option Addr,∃ vc:Nat,∃ ps:List TP,n=t.args.length - j∧FrS 48 fX∧fX.tmps[1]? = some (.int .i64 0)∧fX.tmps[3]? = some (.pointer (some ⟨b1,0,none⟩))∧fX.tmps[5]? = some (.pointer (some ⟨b4,0,none⟩))∧fX.tmps[6]? = some (.pointer (some ⟨b7,0,none⟩))∧fX.tmps[7]? = some (.pointer (some ⟨b34,0,none⟩))∧fX.tmps[8]? = some (.int .i64 (j:Int))∧Keep (fun g=>g < W.heap.size) W wX∧Blk wX b1 24 #[.int .i64 t.k,.string (str t.nm),.int .i64 t.i,.slice a t.args.length c]∧Blk wX b4 24 #[.int .i64 0,.string (⟨#[]⟩),.int .i64 0,.slice none 0 0]∧Blk wX b7 24 #[.int .i64 0,.string (⟨#[]⟩),.int .i64 0,.slice none 0 0]∧Blk wX b34 24 #[.int .i64 4,.string (str t.nm),.int .i64 0,.slice va ps.length vc]∧j ≤ t.args.length∧Hid (TRow BB wX (.slice va ps.length vc) ps)∧Hid (ps.map (·.1)=(t.args.take j).map (mapT cpL))) (t.args.length - 0) ⟨0,none,0,[],rfl,R,h1,h3,h5,h6,h7,h8,K1,B1,B4,B7,B34,Nat.zero_le _,HTR,(Lib.hid rfl)⟩ ?_
      clear R h1 h3 h5 h6 h7 h8 K1 B1 B4 B7 B34
      rintro n41 a39 w40 ⟨j,va,vc,ps,rfl,R,h1,h3,h5,h6,h7,h8,K1,B1,B4,B7,B34,hj,HTR,HPS⟩
      have hj8:=HLN.out
      have hwj:IntKind.i64.wrap ((j:Int) + 1)=(j:Int) + 1:=by rw [IntKind.wrap_i64];omega
      have KT:=Keep.refl (fun g=>BB ≤ g) w40
      refine wp_seq (x:=c68_26) (y:=c68_31) ?_
      refine wp_seq (x:=c68_27) (y:=c68_28) ?_
      change (Code.region 7 O68_7 false).wp _ _ _ _
      refine reg_in (l:=[0,1,2,3,4]) rfl ?_
      have F:FE_ _ [] a39 a39:=⟨R,Ag_.refl _⟩;clear R
      refine sv_ g68_7_0 (ym_ rfl (F.of h8)) fun a42 e=>?_
      have h27:=pt_ F e;replace F:=pu_ F e;clear e
      refine sv_ g68_7_1 (yf3_ rfl (F.of h3)) fun a43 e=>?_
      have h28:=pt_ F e;replace F:=pu_ F e;replace h27:=so_ e h27;clear e
      refine sv_ g68_7_2 (yk3_ rfl h28 B1) fun a44 e=>?_
      have h29:=pt_ F e;replace F:=pu_ F e;replace h27:=so_ e h27;replace h28:=so_ e h28;clear e
      have Y:(execOp a44.eval o68_7_3).run Try.prog w40=.ok (.value (.int .i64 t.args.length)) w40:=by unfold o68_7_3;go_simp
      refine sv_ g68_7_3 Y fun a45 e=>?_;clear Y
      have h30:=pt_ F e;replace F:=pu_ F e;replace h27:=so_ e h27;replace h28:=so_ e h28;replace h29:=so_ e h29;clear e
      obtain ⟨b46,hb46⟩:∃ x,(decide ((j:Int) < (t.args.length:Int)))=x:=⟨_,rfl⟩
      have Y:(execOp a45.eval o68_7_4).run Try.prog w40=.ok (.value (.bool b46)) w40:=by rw [← hb46];unfold o68_7_4;go_simp
      refine sv_ g68_7_4 Y fun a47 e=>?_;clear Y
      have h31:=pt_ F e;replace F:=pu_ F e;replace h27:=so_ e h27;replace h28:=so_ e h28;replace h29:=so_ e h29;replace h30:=so_ e h30;clear e
      refine st_end ?_
      replace h1:=F.of h1;replace h3:=F.of h3;replace h5:=F.of h5;replace h6:=F.of h6;replace h7:=F.of h7;replace h8:=F.of h8;have R:=F.r;clear F
      change (c68_28).wp _ _ _ _
      cases b46 with
      | false =>
        have fb46:=hb46;clear hb46
        simp only [decide_eq_true_eq,decide_eq_false_iff_not,bne_iff_ne,bne_eq_false_iff_eq,beq_iff_eq,beq_eq_false_iff_ne,ne_eq,Bool.not_eq_true',Bool.not_eq_false',Bool.not_eq_eq_eq_not,Bool.not_true,Bool.not_false] at fb46
        refine wp_cond_false (x:=Code.skip) (y:=c68_30) (eval_slot h31) ?_
        refine wp_exit ?_
        change (c68_35).wp _ _ _ _
        refine wp_seq (x:=c68_36) (y:=Code.ret) ?_
        change (Code.region 10 O68_10 false).wp _ _ _ _
        refine reg_in (l:=[0,1]) rfl ?_
        have F:FE_ _ [] a47 a47:=⟨R,Ag_.refl _⟩;clear R
        refine sv_ g68_10_0 (yl4_ rfl (F.of h7) B34) fun a48 e=>?_
        have h47:=pt_ F e;replace F:=pu_ F e;clear e
        obtain ⟨w49,Y,hk,hB⟩:=ys4_ (o:=o68_10_1) rfl (F.of h6) h47 B7
        replace K1:=kx_ hk K1 (Nat.not_lt.2 LK1_b7);replace KT:=kx_ hk KT (Nat.not_le.2 Eb7);replace B1:=bx_ hk B1 Nb1_b7;replace B4:=bx_ hk B4 Nb4_b7;replace B34:=bx_ hk B34 (Ne.symm Nb7_b34);clear B7;have B7:=hB;clear hB hk
        refine st_skip g68_10_1 rfl (wanted_free rfl) Y ?_;clear Y
        refine st_end ?_
        replace h1:=F.of h1;replace h3:=F.of h3;replace h5:=F.of h5;replace h6:=F.of h6;replace h7:=F.of h7;replace h8:=F.of h8;replace h27:=F.of h27;replace h28:=F.of h28;replace h29:=F.of h29;replace h30:=F.of h30;replace h31:=F.of h31;clear h47;have R:=F.r;clear F
        change (Code.ret).wp _ _ _ _
        refine wp_ret ?_
        change bodyPost Try.prog Try.f43 (fun e w'=>∃ a' c',e=.returned (tv (mapT cpL t) a' c')∧Fr 0 (fun _=>False) w' W.heap.size w'.heap.size (mapT cpL t) a' c'∧Keep (fun g=>g < W.heap.size) W w') .ret a48 w49
        refine ret_cell (fn:=Try.f43) rfl R h6 B7 ?_
        first | exact fin_zero HT.out K1 (cp_0 (by omega) (by omega)) | exact fin_bare HT.out K1 (cp_b (by omega) HNZ.out) | exact fin_row HT.out K1 (HTR.out.onB KT) HPS.out HWB (by omega) (by omega)
      | true =>
        have fb46:=hb46;clear hb46
        simp only [decide_eq_true_eq,decide_eq_false_iff_not,bne_iff_ne,bne_eq_false_iff_eq,beq_iff_eq,beq_eq_false_iff_ne,ne_eq,Bool.not_eq_true',Bool.not_eq_false',Bool.not_eq_eq_eq_not,Bool.not_true,Bool.not_false] at fb46
        refine wp_cond_true (x:=Code.skip) (y:=c68_30) (eval_slot h31) ?_
        refine wp_skip ?_
        change (c68_31).wp _ _ _ _
        refine wp_seq (x:=c68_32) (y:=c68_34) ?_
        refine wp_block (id:=1) (c:=c68_33) ?_
        change (Code.region 9 O68_9 true).wp _ _ _ _
        clear KT
        have KF:=Keep.refl (fun g=>g < w40.heap.size) w40
        have D52:=B1
        have D53:=B4
        have D54:=B7
        have D55:=B34
        have K50:=(Keep.refl (fun g=>g < BB∧g ≠ b34) w40).drew
        have EK1:=K1
        have EKF:=KF
        refine dr_in (S:=(fun W=>Keep (fun g=>g < BB∧g ≠ b34) w40 W)) (n:=14) (l:=lb_ 14 0) (by kernel_rfl) K50 rfl (by kernel_rfl) ?_
        replace K1:=K1.drew
        replace KF:=KF.drew
        replace B1:=B1.drew
        replace B4:=B4.drew
        replace B7:=B7.drew
        replace B34:=B34.drew
        generalize w40.drew=w51 at K50 K1 KF B1 B4 B7 B34 ⊢
        have F:FE_ _ [] a47 a47:=⟨R,Ag_.refl _⟩;clear R
        refine dt_ (i:=0) (l':=(lb_ 14 1)) g68_9_0 rfl ns68_9 (wanted_free rfl) K50 (fun _ _=>(yf3_ rfl (F.of h7))) fun a56 e=>?_
        have h34:=pt_ F e;replace F:=pu_ F e;clear e
        refine dt_ (i:=2) (l':=(lb_ 14 5)) g68_9_2 rfl ns68_9 (wanted_free rfl) K50 (fun _ _=>(yf3_ rfl (F.of h3))) fun a57 e=>?_
        have h36:=pt_ F e;replace F:=pu_ F e;replace h34:=so_ e h34;clear e
        refine dt_ (i:=3) (l':=(lb_ 14 13)) g68_9_3 rfl ns68_9 (wanted_free rfl) K50 (fun W7 hS=>(yk3_ rfl h36 (D52.keep hS ⟨Eb1,Nb1_b34⟩))) fun a58 e=>?_
        have h37:=pt_ F e;replace F:=pu_ F e;replace h34:=so_ e h34;replace h36:=so_ e h36;clear e
        refine dt_ (i:=4) (l':=(lb_ 14 29)) g68_9_4 rfl ns68_9 (wanted_free rfl) K50 (fun _ _=>(ym_ rfl (F.of h8))) fun a59 e=>?_
        have h38:=pt_ F e;replace F:=pu_ F e;replace h34:=so_ e h34;replace h36:=so_ e h36;replace h37:=so_ e h37;clear e
        refine dt_ (i:=7) (l':=(lb_ 14 157)) g68_9_7 rfl ns68_9 (wanted_free rfl) K50 (fun _ _=>(ym_ rfl (F.of h1))) fun a60 e=>?_
        have h41:=pt_ F e;replace F:=pu_ F e;replace h34:=so_ e h34;replace h36:=so_ e h36;replace h37:=so_ e h37;replace h38:=so_ e h38;clear e
        refine dt_ (i:=8) (l':=(lb_ 14 413)) g68_9_8 rfl ns68_9 (wanted_free rfl) K50 (fun W7 hS=>(yl4_ rfl (F.of h5) (D53.keep hS ⟨Eb4,Nb4_b34⟩))) fun a61 e=>?_
        have h42:=pt_ F e;replace F:=pu_ F e;replace h34:=so_ e h34;replace h36:=so_ e h36;replace h37:=so_ e h37;replace h38:=so_ e h38;replace h41:=so_ e h41;clear e
        refine dr_two (i:=1) (k:=5) (fuel:=7) (by kernel_rfl) ?_ ?_
        ·
          refine dr_val (l':=(lb_ 14 415)) g68_9_1 rfl (by kernel_rfl) (wanted_free rfl) (yk3_ rfl h34 B34) K50 fun a62 e=>?_
          have h35:=pt_ F e;replace F:=pu_ F e;replace h34:=so_ e h34;replace h36:=so_ e h36;replace h37:=so_ e h37;replace h38:=so_ e h38;replace h41:=so_ e h41;replace h42:=so_ e h42;clear e
          refine dr_only (i:=5) (fuel:=6) (by kernel_rfl) ?_
          obtain ⟨y0,hx0⟩:∃ q,t.args[j]? = some q:=⟨_,List.getElem?_eq_getElem (by omega)⟩
          obtain ⟨bA,oA,ax,cx,hA,hbA,hTx,u0,u1,u2,u3⟩:=(HT.out).arg hx0
          simp only [← Nat.add_assoc] at u0 u1 u2 u3
          have HU:=Lib.hid (And.intro u0 (And.intro u1 (And.intro u2 u3)));clear u0 u1 u2 u3
          have HX:=Lib.hid hx0;clear hx0
          have HTX:=Lib.hid hTx;clear hTx
          have HA:=Lib.hid (And.intro hA hbA);clear hA hbA
          have hltA:(j:Int) < (t.args.length:Int):=by omega
          have Y:(execOp a62.eval o68_9_5).run Try.prog w51=.ok (.value (.pointer (some ⟨bA,oA + j * 4,none⟩))) w51:=by have hA:=HA.out.1;unfold o68_9_5;go_simp
          refine dr_val (l':=(lb_ 14 447)) g68_9_5 rfl (by kernel_rfl) (wanted_free rfl) Y K50 fun a63 e=>?_;clear Y
          have h39:=pt_ F e;replace F:=pu_ F e;replace h34:=so_ e h34;replace h35:=so_ e h35;replace h36:=so_ e h36;replace h37:=so_ e h37;replace h38:=so_ e h38;replace h41:=so_ e h41;replace h42:=so_ e h42;clear e
          have Y:∀ W,Keep (fun g=>g < BB∧g ≠ b34) w40 W→(execOp a63.eval o68_9_6).run Try.prog W=.ok (.value (.agg #[.int .i64 y0.k,.string (str y0.nm),.int .i64 y0.i,.slice ax y0.args.length cx])) W:=by intro W7 hS;obtain ⟨u0,u1,u2,u3⟩:=HU.out;have hkp:=keep_part EK1 hS HWB LK1_b34;have u0:=cell_kept u0 hkp;have u1:=cell_kept u1 hkp;have u2:=cell_kept u2 hkp;have u3:=cell_kept u3 hkp;clear hkp;unfold o68_9_6;go_simp
          refine dt_ (i:=6) (l':=(lb_ 14 511)) g68_9_6 rfl ns68_9 (wanted_free rfl) K50 Y fun a64 e=>?_;clear Y
          have h40:=pt_ F e;replace F:=pu_ F e;replace h34:=so_ e h34;replace h35:=so_ e h35;replace h36:=so_ e h36;replace h37:=so_ e h37;replace h38:=so_ e h38;replace h39:=so_ e h39;replace h41:=so_ e h41;replace h42:=so_ e h42;clear e
          refine dr_only (i:=9) (fuel:=4) (by kernel_rfl) ?_
          have Y:(execOp a64.eval o68_9_9).run Try.prog w51=.ok (.enter 43 #[.agg #[.int .i64 y0.k,.string (str y0.nm),.int .i64 y0.i,.slice ax y0.args.length cx],.int .i64 0,.agg #[.int .i64 0,.string (⟨#[]⟩),.int .i64 0,.slice none 0 0]]) w51:=by unfold o68_9_9;go_simp
          obtain ⟨y,hy⟩:∃ q,mapT cpL y0=q:=⟨_,rfl⟩
          have hcall:=HIH.out y0 (List.mem_of_getElem? HX.out) (by have h:=arg_ns (t:=t) (by omega) (List.mem_of_getElem? HX.out);have:=HN.out;omega) w51 ax cx (HTX.out.on K1)
          rw [hy] at hcall;have HY:=Lib.hid hy;clear hy
          have HLO:=Lib.hid KF.size
          refine dr_call (l':=(lb_ 14 1023)) g68_9_9 rfl (by kernel_rfl) (wanted_free rfl) Y ((hcall).mono ?_);clear Y
          rintro e9 w65 ⟨ay,cy,rfl,hfr,kk⟩
          replace K1:=keep_onto K1 kk
          replace KF:=keep_onto KF kk
          replace K50:=K50.trans kk.all
          replace B1:=blk_on B1 kk
          replace B4:=blk_on B4 kk
          replace B7:=blk_on B7 kk
          replace B34:=blk_on B34 kk
          clear kk
          clear hcall
          have HFR:=Lib.hid hfr;clear hfr
          have HKA:=Lib.hid KF;clear KF
          have KC:=Keep.refl (fun g=>g < w65.heap.size) w65
          refine ⟨_,rfl,K50,fun a66 e=>?_⟩
          have h43:=pt_ F e;replace F:=pu_ F e;replace h34:=so_ e h34;replace h35:=so_ e h35;replace h36:=so_ e h36;replace h37:=so_ e h37;replace h38:=so_ e h38;replace h39:=so_ e h39;replace h40:=so_ e h40;replace h41:=so_ e h41;replace h42:=so_ e h42;clear e
          refine dr_only (i:=10) (fuel:=3) (by kernel_rfl) ?_
          have Y:(execOp a66.eval o68_9_10).run Try.prog w65=.ok (.value (.slice (some ⟨w65.heap.size,0,none⟩) 1 1)) (w65.alloc (.cells #[.int .i64 y.k,.string (str y.nm),.int .i64 y.i,.slice ay y.args.length cy] 24)):=by unfold o68_9_10;go_simp
          have B67:=Blk.new w65 24 #[.int .i64 y.k,.string (str y.nm),.int .i64 y.i,.slice ay y.args.length cy]
          obtain ⟨w68,hw⟩:∃ x,x=w65.alloc (.cells #[.int .i64 y.k,.string (str y.nm),.int .i64 y.i,.slice ay y.args.length cy] 24):=⟨_,rfl⟩;rw [← hw] at Y B67
          obtain ⟨b67,hb⟩:∃ x,x=w65.heap.size:=⟨_,rfl⟩;rw [← hb] at Y B67
          have Nb1_b67:=nb_ hb B1;replace B1:=ba_ hw B1;have Nb4_b67:=nb_ hb B4;replace B4:=ba_ hw B4;have Nb7_b67:=nb_ hb B7;replace B7:=ba_ hw B7;have Nb34_b67:=nb_ hb B34;replace B34:=ba_ hw B34;have LK1_b67:=lk_ hb K1;replace K1:=ka_ hw K1;have LK50_b67:=lk_ hb K50;replace K50:=ka_ hw K50;have LKC_b67:=lk_ hb KC;replace KC:=ka_ hw KC;clear hw hb
          refine dr_val (l':=(lb_ 14 2047)) g68_9_10 rfl (by kernel_rfl) (wanted_free rfl) Y K50 fun a69 e=>?_;clear Y
          have h44:=pt_ F e;replace F:=pu_ F e;replace h34:=so_ e h34;replace h35:=so_ e h35;replace h36:=so_ e h36;replace h37:=so_ e h37;replace h38:=so_ e h38;replace h39:=so_ e h39;replace h40:=so_ e h40;replace h41:=so_ e h41;replace h42:=so_ e h42;replace h43:=so_ e h43;clear e
          refine dr_only (i:=11) (fuel:=2) (by kernel_rfl) ?_
          obtain ⟨v8,w8,hap,htr,⟨va2,vc2,rfl⟩,kap⟩:=TRow.push (ty:=o68_9_11.type) (p:=(y,ay,cy)) (c2:=1) HTR.out HKA.out HLO.out HFR.out KC B67 (by have h:=congrArg List.length HPS.out;simp at h;have:=HLN.out;omega)
          have Y:(execOp a69.eval o68_9_11).run Try.prog w68=.ok (.value (.slice va2 (ps ++ [(y,ay,cy)]).length vc2)) w8:=by
            unfold o68_9_11 at hap ⊢;unfold execOp;simp only [resolve,invoke,builtin,Sem.run_bind,Sem.run_pure,Result.andThen_ok,List.map_toArray,List.map_cons,List.map_nil,eval_slot h35,eval_slot h44];rw [hap];rfl
          have HTR2:=Lib.hid htr;clear htr HTR hap;have HTR:=HTR2;clear HTR2
          replace K1:=K1.trans (kap.less fun g hg=>Nat.lt_of_lt_of_le hg HWB)
          replace K50:=K50.trans (kap.less fun g hg=>hg.1)
          clear KC
          replace B1:=B1.keep kap Eb1
          replace B4:=B4.keep kap Eb4
          replace B7:=B7.keep kap Eb7
          replace B34:=B34.keep kap Eb34
          clear B67
          clear kap
          have KT:=Keep.refl (fun g=>BB ≤ g) w8
          refine dr_val (l':=(lb_ 14 4095)) g68_9_11 rfl (by kernel_rfl) (wanted_free rfl) Y K50 fun a70 e=>?_;clear Y
          have h45:=pt_ F e;replace F:=pu_ F e;replace h34:=so_ e h34;replace h35:=so_ e h35;replace h36:=so_ e h36;replace h37:=so_ e h37;replace h38:=so_ e h38;replace h39:=so_ e h39;replace h40:=so_ e h40;replace h41:=so_ e h41;replace h42:=so_ e h42;replace h43:=so_ e h43;replace h44:=so_ e h44;clear e
          refine dt_ (i:=12) (l':=(lb_ 14 8191)) g68_9_12 rfl ns68_9 (wanted_free rfl) K50 (fun _ _=>(yf3_ rfl (F.of h7))) fun a71 e=>?_
          have h46:=pt_ F e;replace F:=pu_ F e;replace h34:=so_ e h34;replace h35:=so_ e h35;replace h36:=so_ e h36;replace h37:=so_ e h37;replace h38:=so_ e h38;replace h39:=so_ e h39;replace h40:=so_ e h40;replace h41:=so_ e h41;replace h42:=so_ e h42;replace h43:=so_ e h43;replace h44:=so_ e h44;replace h45:=so_ e h45;clear e
          refine dr_only (i:=13) (fuel:=0) (by kernel_rfl) ?_
          have Y:(execOp a71.eval o68_9_13).run Try.prog w8=.ok .skip (w8.setCell ⟨b34,3,none⟩ (.slice va2 ((ps ++ [(y,ay,cy)]).length) vc2)):=by have qq0:w8.cell? ⟨b34,0,none⟩=some (.int .i64 4):=B34.cell 0;have qq1:w8.cell? ⟨b34,1,none⟩=some (.string (str t.nm)):=B34.cell 1;have qq2:w8.cell? ⟨b34,2,none⟩=some (.int .i64 0):=B34.cell 2;have qq3:w8.cell? ⟨b34,3,none⟩=some (.slice va ps.length vc):=B34.cell 3;have z0:=B34.frozen 3;unfold o68_9_13;go_simp
          obtain ⟨w72,hw⟩:∃ x,x=(w8.setCell ⟨b34,3,none⟩ (.slice va2 ((ps ++ [(y,ay,cy)]).length) vc2)):=⟨_,rfl⟩;rw [← hw] at Y
          have hk:Keep (fun g=>g ≠ b34) w8 w72:=by rw [hw];exact (Keep.refl _ _).setCell (fun h=>h rfl) _
          replace K1:=kx_ hk K1 (Nat.not_lt.2 LK1_b34);replace K50:=kx_ hk K50 (fun hx=>hx.2 rfl);replace KT:=kx_ hk KT (Nat.not_le.2 Eb34);replace B1:=bx_ hk B1 Nb1_b34;replace B4:=bx_ hk B4 Nb4_b34;replace B7:=bx_ hk B7 Nb7_b34;replace B34:Blk w72 b34 24 #[.int .i64 4,.string (str t.nm),.int .i64 0,.slice va2 ((ps ++ [(y,ay,cy)]).length) vc2]:=(by rw [hw];exact (B34.set_ 3 _));clear hw hk
          refine dr_skip (l':=(lb_ 14 16383)) g68_9_13 rfl (by kernel_rfl) (wanted_free rfl) Y K50 ?_;clear Y
          refine dr_end (by kernel_rfl) ?_
          replace h1:=F.of h1;replace h3:=F.of h3;replace h5:=F.of h5;replace h6:=F.of h6;replace h7:=F.of h7;replace h8:=F.of h8;replace h27:=F.of h27;replace h28:=F.of h28;replace h29:=F.of h29;replace h30:=F.of h30;replace h31:=F.of h31;have R:=F.r;clear F
          clear K50 EK1 EKF D52 D53 D54 D55
          change (c68_34).wp _ _ _ _
          change (Code.region 8 O68_8 false).wp _ _ _ _
          refine reg_in (l:=[0,1,2]) rfl ?_
          have F:FE_ _ [] a71 a71:=⟨R,Ag_.refl _⟩;clear R
          refine sv_ g68_8_0 (ym_ rfl (F.of h8)) fun a73 e=>?_
          have h32:=pt_ F e;replace F:=pu_ F e;clear e
          have Y:(execOp a73.eval o68_8_1).run Try.prog w72=.ok (.value (.int .i64 ((j:Int) + 1))) w72:=by unfold o68_8_1;go_simp
          refine sv_ g68_8_1 Y fun a74 e=>?_;clear Y
          have h33:=pt_ F e;replace F:=pu_ F e;replace h32:=so_ e h32;clear e
          refine sv_ g68_8_2 (ya_ rfl h33) fun a75 e=>?_
          clear h8;have h8:=pt_ F e;replace F:=pu_ F e;replace h32:=so_ e h32;replace h33:=so_ e h33;clear e
          refine st_end ?_
          replace h1:=F.of h1;replace h3:=F.of h3;replace h5:=F.of h5;replace h6:=F.of h6;replace h7:=F.of h7;replace h27:=F.of h27;replace h28:=F.of h28;replace h29:=F.of h29;replace h30:=F.of h30;replace h31:=F.of h31;replace h34:=F.of h34;replace h35:=F.of h35;replace h36:=F.of h36;replace h37:=F.of h37;replace h38:=F.of h38;replace h39:=F.of h39;replace h40:=F.of h40;replace h41:=F.of h41;replace h42:=F.of h42;replace h43:=F.of h43;replace h44:=F.of h44;replace h45:=F.of h45;replace h46:=F.of h46;have R:=F.r;clear F
          exact ⟨_,by omega,j + 1,va2,vc2,ps ++ [(y,ay,cy)],rfl,R,h1,h3,h5,h6,h7,h8,K1,B1,B4,B7,B34,(by omega),(Lib.hid (HTR.out.onB KT)),(Lib.hid (by rw [List.map_append,HPS.out,List.take_succ_eq_append_getElem (by omega),List.map_append];have h:=HX.out;rw [List.getElem?_eq_getElem (by omega)] at h;rw [Option.some.inj h];simp only [List.map_cons,List.map_nil,HY.out]))⟩
        ·
          obtain ⟨y0,hx0⟩:∃ q,t.args[j]? = some q:=⟨_,List.getElem?_eq_getElem (by omega)⟩
          obtain ⟨bA,oA,ax,cx,hA,hbA,hTx,u0,u1,u2,u3⟩:=(HT.out).arg hx0
          simp only [← Nat.add_assoc] at u0 u1 u2 u3
          have HU:=Lib.hid (And.intro u0 (And.intro u1 (And.intro u2 u3)));clear u0 u1 u2 u3
          have HX:=Lib.hid hx0;clear hx0
          have HTX:=Lib.hid hTx;clear hTx
          have HA:=Lib.hid (And.intro hA hbA);clear hA hbA
          have hltA:(j:Int) < (t.args.length:Int):=by omega
          have Y:(execOp a61.eval o68_9_5).run Try.prog w51=.ok (.value (.pointer (some ⟨bA,oA + j * 4,none⟩))) w51:=by have hA:=HA.out.1;unfold o68_9_5;go_simp
          refine dr_val (l':=(lb_ 14 445)) g68_9_5 rfl (by kernel_rfl) (wanted_free rfl) Y K50 fun a76 e=>?_;clear Y
          have h39:=pt_ F e;replace F:=pu_ F e;replace h34:=so_ e h34;replace h36:=so_ e h36;replace h37:=so_ e h37;replace h38:=so_ e h38;replace h41:=so_ e h41;replace h42:=so_ e h42;clear e
          have Y:∀ W,Keep (fun g=>g < BB∧g ≠ b34) w40 W→(execOp a76.eval o68_9_6).run Try.prog W=.ok (.value (.agg #[.int .i64 y0.k,.string (str y0.nm),.int .i64 y0.i,.slice ax y0.args.length cx])) W:=by intro W7 hS;obtain ⟨u0,u1,u2,u3⟩:=HU.out;have hkp:=keep_part EK1 hS HWB LK1_b34;have u0:=cell_kept u0 hkp;have u1:=cell_kept u1 hkp;have u2:=cell_kept u2 hkp;have u3:=cell_kept u3 hkp;clear hkp;unfold o68_9_6;go_simp
          refine dt_ (i:=6) (l':=(lb_ 14 509)) g68_9_6 rfl ns68_9 (wanted_free rfl) K50 Y fun a77 e=>?_;clear Y
          have h40:=pt_ F e;replace F:=pu_ F e;replace h34:=so_ e h34;replace h36:=so_ e h36;replace h37:=so_ e h37;replace h38:=so_ e h38;replace h39:=so_ e h39;replace h41:=so_ e h41;replace h42:=so_ e h42;clear e
          refine dr_two (i:=1) (k:=9) (fuel:=5) (by kernel_rfl) ?_ ?_
          ·
            refine dr_val (l':=(lb_ 14 511)) g68_9_1 rfl (by kernel_rfl) (wanted_free rfl) (yk3_ rfl h34 B34) K50 fun a78 e=>?_
            have h35:=pt_ F e;replace F:=pu_ F e;replace h34:=so_ e h34;replace h36:=so_ e h36;replace h37:=so_ e h37;replace h38:=so_ e h38;replace h39:=so_ e h39;replace h40:=so_ e h40;replace h41:=so_ e h41;replace h42:=so_ e h42;clear e
            refine dr_only (i:=9) (fuel:=4) (by kernel_rfl) ?_
            have Y:(execOp a78.eval o68_9_9).run Try.prog w51=.ok (.enter 43 #[.agg #[.int .i64 y0.k,.string (str y0.nm),.int .i64 y0.i,.slice ax y0.args.length cx],.int .i64 0,.agg #[.int .i64 0,.string (⟨#[]⟩),.int .i64 0,.slice none 0 0]]) w51:=by unfold o68_9_9;go_simp
            obtain ⟨y,hy⟩:∃ q,mapT cpL y0=q:=⟨_,rfl⟩
            have hcall:=HIH.out y0 (List.mem_of_getElem? HX.out) (by have h:=arg_ns (t:=t) (by omega) (List.mem_of_getElem? HX.out);have:=HN.out;omega) w51 ax cx (HTX.out.on K1)
            rw [hy] at hcall;have HY:=Lib.hid hy;clear hy
            have HLO:=Lib.hid KF.size
            refine dr_call (l':=(lb_ 14 1023)) g68_9_9 rfl (by kernel_rfl) (wanted_free rfl) Y ((hcall).mono ?_);clear Y
            rintro e9 w79 ⟨ay,cy,rfl,hfr,kk⟩
            replace K1:=keep_onto K1 kk
            replace KF:=keep_onto KF kk
            replace K50:=K50.trans kk.all
            replace B1:=blk_on B1 kk
            replace B4:=blk_on B4 kk
            replace B7:=blk_on B7 kk
            replace B34:=blk_on B34 kk
            clear kk
            clear hcall
            have HFR:=Lib.hid hfr;clear hfr
            have HKA:=Lib.hid KF;clear KF
            have KC:=Keep.refl (fun g=>g < w79.heap.size) w79
            refine ⟨_,rfl,K50,fun a80 e=>?_⟩
            have h43:=pt_ F e;replace F:=pu_ F e;replace h34:=so_ e h34;replace h35:=so_ e h35;replace h36:=so_ e h36;replace h37:=so_ e h37;replace h38:=so_ e h38;replace h39:=so_ e h39;replace h40:=so_ e h40;replace h41:=so_ e h41;replace h42:=so_ e h42;clear e
            refine dr_only (i:=10) (fuel:=3) (by kernel_rfl) ?_
            have Y:(execOp a80.eval o68_9_10).run Try.prog w79=.ok (.value (.slice (some ⟨w79.heap.size,0,none⟩) 1 1)) (w79.alloc (.cells #[.int .i64 y.k,.string (str y.nm),.int .i64 y.i,.slice ay y.args.length cy] 24)):=by unfold o68_9_10;go_simp
            have B81:=Blk.new w79 24 #[.int .i64 y.k,.string (str y.nm),.int .i64 y.i,.slice ay y.args.length cy]
            obtain ⟨w82,hw⟩:∃ x,x=w79.alloc (.cells #[.int .i64 y.k,.string (str y.nm),.int .i64 y.i,.slice ay y.args.length cy] 24):=⟨_,rfl⟩;rw [← hw] at Y B81
            obtain ⟨b81,hb⟩:∃ x,x=w79.heap.size:=⟨_,rfl⟩;rw [← hb] at Y B81
            have Nb1_b81:=nb_ hb B1;replace B1:=ba_ hw B1;have Nb4_b81:=nb_ hb B4;replace B4:=ba_ hw B4;have Nb7_b81:=nb_ hb B7;replace B7:=ba_ hw B7;have Nb34_b81:=nb_ hb B34;replace B34:=ba_ hw B34;have LK1_b81:=lk_ hb K1;replace K1:=ka_ hw K1;have LK50_b81:=lk_ hb K50;replace K50:=ka_ hw K50;have LKC_b81:=lk_ hb KC;replace KC:=ka_ hw KC;clear hw hb
            refine dr_val (l':=(lb_ 14 2047)) g68_9_10 rfl (by kernel_rfl) (wanted_free rfl) Y K50 fun a83 e=>?_;clear Y
            have h44:=pt_ F e;replace F:=pu_ F e;replace h34:=so_ e h34;replace h35:=so_ e h35;replace h36:=so_ e h36;replace h37:=so_ e h37;replace h38:=so_ e h38;replace h39:=so_ e h39;replace h40:=so_ e h40;replace h41:=so_ e h41;replace h42:=so_ e h42;replace h43:=so_ e h43;clear e
            refine dr_only (i:=11) (fuel:=2) (by kernel_rfl) ?_
            obtain ⟨v8,w8,hap,htr,⟨va2,vc2,rfl⟩,kap⟩:=TRow.push (ty:=o68_9_11.type) (p:=(y,ay,cy)) (c2:=1) HTR.out HKA.out HLO.out HFR.out KC B81 (by have h:=congrArg List.length HPS.out;simp at h;have:=HLN.out;omega)
            have Y:(execOp a83.eval o68_9_11).run Try.prog w82=.ok (.value (.slice va2 (ps ++ [(y,ay,cy)]).length vc2)) w8:=by
              unfold o68_9_11 at hap ⊢;unfold execOp;simp only [resolve,invoke,builtin,Sem.run_bind,Sem.run_pure,Result.andThen_ok,List.map_toArray,List.map_cons,List.map_nil,eval_slot h35,eval_slot h44];rw [hap];rfl
            have HTR2:=Lib.hid htr;clear htr HTR hap;have HTR:=HTR2;clear HTR2
            replace K1:=K1.trans (kap.less fun g hg=>Nat.lt_of_lt_of_le hg HWB)
            replace K50:=K50.trans (kap.less fun g hg=>hg.1)
            clear KC
            replace B1:=B1.keep kap Eb1
            replace B4:=B4.keep kap Eb4
            replace B7:=B7.keep kap Eb7
            replace B34:=B34.keep kap Eb34
            clear B81
            clear kap
            have KT:=Keep.refl (fun g=>BB ≤ g) w8
            refine dr_val (l':=(lb_ 14 4095)) g68_9_11 rfl (by kernel_rfl) (wanted_free rfl) Y K50 fun a84 e=>?_;clear Y
            have h45:=pt_ F e;replace F:=pu_ F e;replace h34:=so_ e h34;replace h35:=so_ e h35;replace h36:=so_ e h36;replace h37:=so_ e h37;replace h38:=so_ e h38;replace h39:=so_ e h39;replace h40:=so_ e h40;replace h41:=so_ e h41;replace h42:=so_ e h42;replace h43:=so_ e h43;replace h44:=so_ e h44;clear e
            refine dt_ (i:=12) (l':=(lb_ 14 8191)) g68_9_12 rfl ns68_9 (wanted_free rfl) K50 (fun _ _=>(yf3_ rfl (F.of h7))) fun a85 e=>?_
            have h46:=pt_ F e;replace F:=pu_ F e;replace h34:=so_ e h34;replace h35:=so_ e h35;replace h36:=so_ e h36;replace h37:=so_ e h37;replace h38:=so_ e h38;replace h39:=so_ e h39;replace h40:=so_ e h40;replace h41:=so_ e h41;replace h42:=so_ e h42;replace h43:=so_ e h43;replace h44:=so_ e h44;replace h45:=so_ e h45;clear e
            refine dr_only (i:=13) (fuel:=0) (by kernel_rfl) ?_
            have Y:(execOp a85.eval o68_9_13).run Try.prog w8=.ok .skip (w8.setCell ⟨b34,3,none⟩ (.slice va2 ((ps ++ [(y,ay,cy)]).length) vc2)):=by have qq0:w8.cell? ⟨b34,0,none⟩=some (.int .i64 4):=B34.cell 0;have qq1:w8.cell? ⟨b34,1,none⟩=some (.string (str t.nm)):=B34.cell 1;have qq2:w8.cell? ⟨b34,2,none⟩=some (.int .i64 0):=B34.cell 2;have qq3:w8.cell? ⟨b34,3,none⟩=some (.slice va ps.length vc):=B34.cell 3;have z0:=B34.frozen 3;unfold o68_9_13;go_simp
            obtain ⟨w86,hw⟩:∃ x,x=(w8.setCell ⟨b34,3,none⟩ (.slice va2 ((ps ++ [(y,ay,cy)]).length) vc2)):=⟨_,rfl⟩;rw [← hw] at Y
            have hk:Keep (fun g=>g ≠ b34) w8 w86:=by rw [hw];exact (Keep.refl _ _).setCell (fun h=>h rfl) _
            replace K1:=kx_ hk K1 (Nat.not_lt.2 LK1_b34);replace K50:=kx_ hk K50 (fun hx=>hx.2 rfl);replace KT:=kx_ hk KT (Nat.not_le.2 Eb34);replace B1:=bx_ hk B1 Nb1_b34;replace B4:=bx_ hk B4 Nb4_b34;replace B7:=bx_ hk B7 Nb7_b34;replace B34:Blk w86 b34 24 #[.int .i64 4,.string (str t.nm),.int .i64 0,.slice va2 ((ps ++ [(y,ay,cy)]).length) vc2]:=(by rw [hw];exact (B34.set_ 3 _));clear hw hk
            refine dr_skip (l':=(lb_ 14 16383)) g68_9_13 rfl (by kernel_rfl) (wanted_free rfl) Y K50 ?_;clear Y
            refine dr_end (by kernel_rfl) ?_
            replace h1:=F.of h1;replace h3:=F.of h3;replace h5:=F.of h5;replace h6:=F.of h6;replace h7:=F.of h7;replace h8:=F.of h8;replace h27:=F.of h27;replace h28:=F.of h28;replace h29:=F.of h29;replace h30:=F.of h30;replace h31:=F.of h31;have R:=F.r;clear F
            clear K50 EK1 EKF D52 D53 D54 D55
            change (c68_34).wp _ _ _ _
            change (Code.region 8 O68_8 false).wp _ _ _ _
            refine reg_in (l:=[0,1,2]) rfl ?_
            have F:FE_ _ [] a85 a85:=⟨R,Ag_.refl _⟩;clear R
            refine sv_ g68_8_0 (ym_ rfl (F.of h8)) fun a87 e=>?_
            have h32:=pt_ F e;replace F:=pu_ F e;clear e
            have Y:(execOp a87.eval o68_8_1).run Try.prog w86=.ok (.value (.int .i64 ((j:Int) + 1))) w86:=by unfold o68_8_1;go_simp
            refine sv_ g68_8_1 Y fun a88 e=>?_;clear Y
            have h33:=pt_ F e;replace F:=pu_ F e;replace h32:=so_ e h32;clear e
            refine sv_ g68_8_2 (ya_ rfl h33) fun a89 e=>?_
            clear h8;have h8:=pt_ F e;replace F:=pu_ F e;replace h32:=so_ e h32;replace h33:=so_ e h33;clear e
            refine st_end ?_
            replace h1:=F.of h1;replace h3:=F.of h3;replace h5:=F.of h5;replace h6:=F.of h6;replace h7:=F.of h7;replace h27:=F.of h27;replace h28:=F.of h28;replace h29:=F.of h29;replace h30:=F.of h30;replace h31:=F.of h31;replace h34:=F.of h34;replace h35:=F.of h35;replace h36:=F.of h36;replace h37:=F.of h37;replace h38:=F.of h38;replace h39:=F.of h39;replace h40:=F.of h40;replace h41:=F.of h41;replace h42:=F.of h42;replace h43:=F.of h43;replace h44:=F.of h44;replace h45:=F.of h45;replace h46:=F.of h46;have R:=F.r;clear F
            exact ⟨_,by omega,j + 1,va2,vc2,ps ++ [(y,ay,cy)],rfl,R,h1,h3,h5,h6,h7,h8,K1,B1,B4,B7,B34,(by omega),(Lib.hid (HTR.out.onB KT)),(Lib.hid (by rw [List.map_append,HPS.out,List.take_succ_eq_append_getElem (by omega),List.map_append];have h:=HX.out;rw [List.getElem?_eq_getElem (by omega)] at h;rw [Option.some.inj h];simp only [List.map_cons,List.map_nil,HY.out]))⟩
          ·
            have Y:(execOp a77.eval o68_9_9).run Try.prog w51=.ok (.enter 43 #[.agg #[.int .i64 y0.k,.string (str y0.nm),.int .i64 y0.i,.slice ax y0.args.length cx],.int .i64 0,.agg #[.int .i64 0,.string (⟨#[]⟩),.int .i64 0,.slice none 0 0]]) w51:=by unfold o68_9_9;go_simp
            obtain ⟨y,hy⟩:∃ q,mapT cpL y0=q:=⟨_,rfl⟩
            have hcall:=HIH.out y0 (List.mem_of_getElem? HX.out) (by have h:=arg_ns (t:=t) (by omega) (List.mem_of_getElem? HX.out);have:=HN.out;omega) w51 ax cx (HTX.out.on K1)
            rw [hy] at hcall;have HY:=Lib.hid hy;clear hy
            have HLO:=Lib.hid KF.size
            refine dr_call (l':=(lb_ 14 1021)) g68_9_9 rfl (by kernel_rfl) (wanted_free rfl) Y ((hcall).mono ?_);clear Y
            rintro e9 w90 ⟨ay,cy,rfl,hfr,kk⟩
            replace K1:=keep_onto K1 kk
            replace KF:=keep_onto KF kk
            replace K50:=K50.trans kk.all
            replace B1:=blk_on B1 kk
            replace B4:=blk_on B4 kk
            replace B7:=blk_on B7 kk
            replace B34:=blk_on B34 kk
            clear kk
            clear hcall
            have HFR:=Lib.hid hfr;clear hfr
            have HKA:=Lib.hid KF;clear KF
            have KC:=Keep.refl (fun g=>g < w90.heap.size) w90
            refine ⟨_,rfl,K50,fun a91 e=>?_⟩
            have h43:=pt_ F e;replace F:=pu_ F e;replace h34:=so_ e h34;replace h36:=so_ e h36;replace h37:=so_ e h37;replace h38:=so_ e h38;replace h39:=so_ e h39;replace h40:=so_ e h40;replace h41:=so_ e h41;replace h42:=so_ e h42;clear e
            refine dr_two (i:=1) (k:=10) (fuel:=4) (by kernel_rfl) ?_ ?_
            ·
              refine dr_val (l':=(lb_ 14 1023)) g68_9_1 rfl (by kernel_rfl) (wanted_free rfl) (yk3_ rfl h34 B34) K50 fun a92 e=>?_
              have h35:=pt_ F e;replace F:=pu_ F e;replace h34:=so_ e h34;replace h36:=so_ e h36;replace h37:=so_ e h37;replace h38:=so_ e h38;replace h39:=so_ e h39;replace h40:=so_ e h40;replace h41:=so_ e h41;replace h42:=so_ e h42;replace h43:=so_ e h43;clear e
              refine dr_only (i:=10) (fuel:=3) (by kernel_rfl) ?_
              have Y:(execOp a92.eval o68_9_10).run Try.prog w90=.ok (.value (.slice (some ⟨w90.heap.size,0,none⟩) 1 1)) (w90.alloc (.cells #[.int .i64 y.k,.string (str y.nm),.int .i64 y.i,.slice ay y.args.length cy] 24)):=by unfold o68_9_10;go_simp
              have B93:=Blk.new w90 24 #[.int .i64 y.k,.string (str y.nm),.int .i64 y.i,.slice ay y.args.length cy]
              obtain ⟨w94,hw⟩:∃ x,x=w90.alloc (.cells #[.int .i64 y.k,.string (str y.nm),.int .i64 y.i,.slice ay y.args.length cy] 24):=⟨_,rfl⟩;rw [← hw] at Y B93
              obtain ⟨b93,hb⟩:∃ x,x=w90.heap.size:=⟨_,rfl⟩;rw [← hb] at Y B93
              have Nb1_b93:=nb_ hb B1;replace B1:=ba_ hw B1;have Nb4_b93:=nb_ hb B4;replace B4:=ba_ hw B4;have Nb7_b93:=nb_ hb B7;replace B7:=ba_ hw B7;have Nb34_b93:=nb_ hb B34;replace B34:=ba_ hw B34;have LK1_b93:=lk_ hb K1;replace K1:=ka_ hw K1;have LK50_b93:=lk_ hb K50;replace K50:=ka_ hw K50;have LKC_b93:=lk_ hb KC;replace KC:=ka_ hw KC;clear hw hb
              refine dr_val (l':=(lb_ 14 2047)) g68_9_10 rfl (by kernel_rfl) (wanted_free rfl) Y K50 fun a95 e=>?_;clear Y
              have h44:=pt_ F e;replace F:=pu_ F e;replace h34:=so_ e h34;replace h35:=so_ e h35;replace h36:=so_ e h36;replace h37:=so_ e h37;replace h38:=so_ e h38;replace h39:=so_ e h39;replace h40:=so_ e h40;replace h41:=so_ e h41;replace h42:=so_ e h42;replace h43:=so_ e h43;clear e
              refine dr_only (i:=11) (fuel:=2) (by kernel_rfl) ?_
              obtain ⟨v8,w8,hap,htr,⟨va2,vc2,rfl⟩,kap⟩:=TRow.push (ty:=o68_9_11.type) (p:=(y,ay,cy)) (c2:=1) HTR.out HKA.out HLO.out HFR.out KC B93 (by have h:=congrArg List.length HPS.out;simp at h;have:=HLN.out;omega)
              have Y:(execOp a95.eval o68_9_11).run Try.prog w94=.ok (.value (.slice va2 (ps ++ [(y,ay,cy)]).length vc2)) w8:=by
                unfold o68_9_11 at hap ⊢;unfold execOp;simp only [resolve,invoke,builtin,Sem.run_bind,Sem.run_pure,Result.andThen_ok,List.map_toArray,List.map_cons,List.map_nil,eval_slot h35,eval_slot h44];rw [hap];rfl
              have HTR2:=Lib.hid htr;clear htr HTR hap;have HTR:=HTR2;clear HTR2
              replace K1:=K1.trans (kap.less fun g hg=>Nat.lt_of_lt_of_le hg HWB)
              replace K50:=K50.trans (kap.less fun g hg=>hg.1)
              clear KC
              replace B1:=B1.keep kap Eb1
              replace B4:=B4.keep kap Eb4
              replace B7:=B7.keep kap Eb7
              replace B34:=B34.keep kap Eb34
              clear B93
              clear kap
              have KT:=Keep.refl (fun g=>BB ≤ g) w8
              refine dr_val (l':=(lb_ 14 4095)) g68_9_11 rfl (by kernel_rfl) (wanted_free rfl) Y K50 fun a96 e=>?_;clear Y
              have h45:=pt_ F e;replace F:=pu_ F e;replace h34:=so_ e h34;replace h35:=so_ e h35;replace h36:=so_ e h36;replace h37:=so_ e h37;replace h38:=so_ e h38;replace h39:=so_ e h39;replace h40:=so_ e h40;replace h41:=so_ e h41;replace h42:=so_ e h42;replace h43:=so_ e h43;replace h44:=so_ e h44;clear e
              refine dt_ (i:=12) (l':=(lb_ 14 8191)) g68_9_12 rfl ns68_9 (wanted_free rfl) K50 (fun _ _=>(yf3_ rfl (F.of h7))) fun a97 e=>?_
              have h46:=pt_ F e;replace F:=pu_ F e;replace h34:=so_ e h34;replace h35:=so_ e h35;replace h36:=so_ e h36;replace h37:=so_ e h37;replace h38:=so_ e h38;replace h39:=so_ e h39;replace h40:=so_ e h40;replace h41:=so_ e h41;replace h42:=so_ e h42;replace h43:=so_ e h43;replace h44:=so_ e h44;replace h45:=so_ e h45;clear e
              refine dr_only (i:=13) (fuel:=0) (by kernel_rfl) ?_
              have Y:(execOp a97.eval o68_9_13).run Try.prog w8=.ok .skip (w8.setCell ⟨b34,3,none⟩ (.slice va2 ((ps ++ [(y,ay,cy)]).length) vc2)):=by have qq0:w8.cell? ⟨b34,0,none⟩=some (.int .i64 4):=B34.cell 0;have qq1:w8.cell? ⟨b34,1,none⟩=some (.string (str t.nm)):=B34.cell 1;have qq2:w8.cell? ⟨b34,2,none⟩=some (.int .i64 0):=B34.cell 2;have qq3:w8.cell? ⟨b34,3,none⟩=some (.slice va ps.length vc):=B34.cell 3;have z0:=B34.frozen 3;unfold o68_9_13;go_simp
              obtain ⟨w98,hw⟩:∃ x,x=(w8.setCell ⟨b34,3,none⟩ (.slice va2 ((ps ++ [(y,ay,cy)]).length) vc2)):=⟨_,rfl⟩;rw [← hw] at Y
              have hk:Keep (fun g=>g ≠ b34) w8 w98:=by rw [hw];exact (Keep.refl _ _).setCell (fun h=>h rfl) _
              replace K1:=kx_ hk K1 (Nat.not_lt.2 LK1_b34);replace K50:=kx_ hk K50 (fun hx=>hx.2 rfl);replace KT:=kx_ hk KT (Nat.not_le.2 Eb34);replace B1:=bx_ hk B1 Nb1_b34;replace B4:=bx_ hk B4 Nb4_b34;replace B7:=bx_ hk B7 Nb7_b34;replace B34:Blk w98 b34 24 #[.int .i64 4,.string (str t.nm),.int .i64 0,.slice va2 ((ps ++ [(y,ay,cy)]).length) vc2]:=(by rw [hw];exact (B34.set_ 3 _));clear hw hk
              refine dr_skip (l':=(lb_ 14 16383)) g68_9_13 rfl (by kernel_rfl) (wanted_free rfl) Y K50 ?_;clear Y
              refine dr_end (by kernel_rfl) ?_
              replace h1:=F.of h1;replace h3:=F.of h3;replace h5:=F.of h5;replace h6:=F.of h6;replace h7:=F.of h7;replace h8:=F.of h8;replace h27:=F.of h27;replace h28:=F.of h28;replace h29:=F.of h29;replace h30:=F.of h30;replace h31:=F.of h31;have R:=F.r;clear F
              clear K50 EK1 EKF D52 D53 D54 D55
              change (c68_34).wp _ _ _ _
              change (Code.region 8 O68_8 false).wp _ _ _ _
              refine reg_in (l:=[0,1,2]) rfl ?_
              have F:FE_ _ [] a97 a97:=⟨R,Ag_.refl _⟩;clear R
              refine sv_ g68_8_0 (ym_ rfl (F.of h8)) fun a99 e=>?_
              have h32:=pt_ F e;replace F:=pu_ F e;clear e
              have Y:(execOp a99.eval o68_8_1).run Try.prog w98=.ok (.value (.int .i64 ((j:Int) + 1))) w98:=by unfold o68_8_1;go_simp
              refine sv_ g68_8_1 Y fun a100 e=>?_;clear Y
              have h33:=pt_ F e;replace F:=pu_ F e;replace h32:=so_ e h32;clear e
              refine sv_ g68_8_2 (ya_ rfl h33) fun a101 e=>?_
              clear h8;have h8:=pt_ F e;replace F:=pu_ F e;replace h32:=so_ e h32;replace h33:=so_ e h33;clear e
              refine st_end ?_
              replace h1:=F.of h1;replace h3:=F.of h3;replace h5:=F.of h5;replace h6:=F.of h6;replace h7:=F.of h7;replace h27:=F.of h27;replace h28:=F.of h28;replace h29:=F.of h29;replace h30:=F.of h30;replace h31:=F.of h31;replace h34:=F.of h34;replace h35:=F.of h35;replace h36:=F.of h36;replace h37:=F.of h37;replace h38:=F.of h38;replace h39:=F.of h39;replace h40:=F.of h40;replace h41:=F.of h41;replace h42:=F.of h42;replace h43:=F.of h43;replace h44:=F.of h44;replace h45:=F.of h45;replace h46:=F.of h46;have R:=F.r;clear F
              exact ⟨_,by omega,j + 1,va2,vc2,ps ++ [(y,ay,cy)],rfl,R,h1,h3,h5,h6,h7,h8,K1,B1,B4,B7,B34,(by omega),(Lib.hid (HTR.out.onB KT)),(Lib.hid (by rw [List.map_append,HPS.out,List.take_succ_eq_append_getElem (by omega),List.map_append];have h:=HX.out;rw [List.getElem?_eq_getElem (by omega)] at h;rw [Option.some.inj h];simp only [List.map_cons,List.map_nil,HY.out]))⟩
            ·
              have Y:(execOp a91.eval o68_9_10).run Try.prog w90=.ok (.value (.slice (some ⟨w90.heap.size,0,none⟩) 1 1)) (w90.alloc (.cells #[.int .i64 y.k,.string (str y.nm),.int .i64 y.i,.slice ay y.args.length cy] 24)):=by unfold o68_9_10;go_simp
              have B102:=Blk.new w90 24 #[.int .i64 y.k,.string (str y.nm),.int .i64 y.i,.slice ay y.args.length cy]
              obtain ⟨w103,hw⟩:∃ x,x=w90.alloc (.cells #[.int .i64 y.k,.string (str y.nm),.int .i64 y.i,.slice ay y.args.length cy] 24):=⟨_,rfl⟩;rw [← hw] at Y B102
              obtain ⟨b102,hb⟩:∃ x,x=w90.heap.size:=⟨_,rfl⟩;rw [← hb] at Y B102
              have Nb1_b102:=nb_ hb B1;replace B1:=ba_ hw B1;have Nb4_b102:=nb_ hb B4;replace B4:=ba_ hw B4;have Nb7_b102:=nb_ hb B7;replace B7:=ba_ hw B7;have Nb34_b102:=nb_ hb B34;replace B34:=ba_ hw B34;have LK1_b102:=lk_ hb K1;replace K1:=ka_ hw K1;have LK50_b102:=lk_ hb K50;replace K50:=ka_ hw K50;have LKC_b102:=lk_ hb KC;replace KC:=ka_ hw KC;clear hw hb
              refine dr_val (l':=(lb_ 14 2045)) g68_9_10 rfl (by kernel_rfl) (wanted_free rfl) Y K50 fun a104 e=>?_;clear Y
              have h44:=pt_ F e;replace F:=pu_ F e;replace h34:=so_ e h34;replace h36:=so_ e h36;replace h37:=so_ e h37;replace h38:=so_ e h38;replace h39:=so_ e h39;replace h40:=so_ e h40;replace h41:=so_ e h41;replace h42:=so_ e h42;replace h43:=so_ e h43;clear e
              refine dr_only (i:=1) (fuel:=3) (by kernel_rfl) ?_
              refine dr_val (l':=(lb_ 14 2047)) g68_9_1 rfl (by kernel_rfl) (wanted_free rfl) (yk3_ rfl h34 B34) K50 fun a105 e=>?_
              have h35:=pt_ F e;replace F:=pu_ F e;replace h34:=so_ e h34;replace h36:=so_ e h36;replace h37:=so_ e h37;replace h38:=so_ e h38;replace h39:=so_ e h39;replace h40:=so_ e h40;replace h41:=so_ e h41;replace h42:=so_ e h42;replace h43:=so_ e h43;replace h44:=so_ e h44;clear e
              refine dr_only (i:=11) (fuel:=2) (by kernel_rfl) ?_
              obtain ⟨v8,w8,hap,htr,⟨va2,vc2,rfl⟩,kap⟩:=TRow.push (ty:=o68_9_11.type) (p:=(y,ay,cy)) (c2:=1) HTR.out HKA.out HLO.out HFR.out KC B102 (by have h:=congrArg List.length HPS.out;simp at h;have:=HLN.out;omega)
              have Y:(execOp a105.eval o68_9_11).run Try.prog w103=.ok (.value (.slice va2 (ps ++ [(y,ay,cy)]).length vc2)) w8:=by
                unfold o68_9_11 at hap ⊢;unfold execOp;simp only [resolve,invoke,builtin,Sem.run_bind,Sem.run_pure,Result.andThen_ok,List.map_toArray,List.map_cons,List.map_nil,eval_slot h35,eval_slot h44];rw [hap];rfl
              have HTR2:=Lib.hid htr;clear htr HTR hap;have HTR:=HTR2;clear HTR2
              replace K1:=K1.trans (kap.less fun g hg=>Nat.lt_of_lt_of_le hg HWB)
              replace K50:=K50.trans (kap.less fun g hg=>hg.1)
              clear KC
              replace B1:=B1.keep kap Eb1
              replace B4:=B4.keep kap Eb4
              replace B7:=B7.keep kap Eb7
              replace B34:=B34.keep kap Eb34
              clear B102
              clear kap
              have KT:=Keep.refl (fun g=>BB ≤ g) w8
              refine dr_val (l':=(lb_ 14 4095)) g68_9_11 rfl (by kernel_rfl) (wanted_free rfl) Y K50 fun a106 e=>?_;clear Y
              have h45:=pt_ F e;replace F:=pu_ F e;replace h34:=so_ e h34;replace h35:=so_ e h35;replace h36:=so_ e h36;replace h37:=so_ e h37;replace h38:=so_ e h38;replace h39:=so_ e h39;replace h40:=so_ e h40;replace h41:=so_ e h41;replace h42:=so_ e h42;replace h43:=so_ e h43;replace h44:=so_ e h44;clear e
              refine dt_ (i:=12) (l':=(lb_ 14 8191)) g68_9_12 rfl ns68_9 (wanted_free rfl) K50 (fun _ _=>(yf3_ rfl (F.of h7))) fun a107 e=>?_
              have h46:=pt_ F e;replace F:=pu_ F e;replace h34:=so_ e h34;replace h35:=so_ e h35;replace h36:=so_ e h36;replace h37:=so_ e h37;replace h38:=so_ e h38;replace h39:=so_ e h39;replace h40:=so_ e h40;replace h41:=so_ e h41;replace h42:=so_ e h42;replace h43:=so_ e h43;replace h44:=so_ e h44;replace h45:=so_ e h45;clear e
              refine dr_only (i:=13) (fuel:=0) (by kernel_rfl) ?_
              have Y:(execOp a107.eval o68_9_13).run Try.prog w8=.ok .skip (w8.setCell ⟨b34,3,none⟩ (.slice va2 ((ps ++ [(y,ay,cy)]).length) vc2)):=by have qq0:w8.cell? ⟨b34,0,none⟩=some (.int .i64 4):=B34.cell 0;have qq1:w8.cell? ⟨b34,1,none⟩=some (.string (str t.nm)):=B34.cell 1;have qq2:w8.cell? ⟨b34,2,none⟩=some (.int .i64 0):=B34.cell 2;have qq3:w8.cell? ⟨b34,3,none⟩=some (.slice va ps.length vc):=B34.cell 3;have z0:=B34.frozen 3;unfold o68_9_13;go_simp
              obtain ⟨w108,hw⟩:∃ x,x=(w8.setCell ⟨b34,3,none⟩ (.slice va2 ((ps ++ [(y,ay,cy)]).length) vc2)):=⟨_,rfl⟩;rw [← hw] at Y
              have hk:Keep (fun g=>g ≠ b34) w8 w108:=by rw [hw];exact (Keep.refl _ _).setCell (fun h=>h rfl) _
              replace K1:=kx_ hk K1 (Nat.not_lt.2 LK1_b34);replace K50:=kx_ hk K50 (fun hx=>hx.2 rfl);replace KT:=kx_ hk KT (Nat.not_le.2 Eb34);replace B1:=bx_ hk B1 Nb1_b34;replace B4:=bx_ hk B4 Nb4_b34;replace B7:=bx_ hk B7 Nb7_b34;replace B34:Blk w108 b34 24 #[.int .i64 4,.string (str t.nm),.int .i64 0,.slice va2 ((ps ++ [(y,ay,cy)]).length) vc2]:=(by rw [hw];exact (B34.set_ 3 _));clear hw hk
              refine dr_skip (l':=(lb_ 14 16383)) g68_9_13 rfl (by kernel_rfl) (wanted_free rfl) Y K50 ?_;clear Y
              refine dr_end (by kernel_rfl) ?_
              replace h1:=F.of h1;replace h3:=F.of h3;replace h5:=F.of h5;replace h6:=F.of h6;replace h7:=F.of h7;replace h8:=F.of h8;replace h27:=F.of h27;replace h28:=F.of h28;replace h29:=F.of h29;replace h30:=F.of h30;replace h31:=F.of h31;have R:=F.r;clear F
              clear K50 EK1 EKF D52 D53 D54 D55
              change (c68_34).wp _ _ _ _
              change (Code.region 8 O68_8 false).wp _ _ _ _
              refine reg_in (l:=[0,1,2]) rfl ?_
              have F:FE_ _ [] a107 a107:=⟨R,Ag_.refl _⟩;clear R
              refine sv_ g68_8_0 (ym_ rfl (F.of h8)) fun a109 e=>?_
              have h32:=pt_ F e;replace F:=pu_ F e;clear e
              have Y:(execOp a109.eval o68_8_1).run Try.prog w108=.ok (.value (.int .i64 ((j:Int) + 1))) w108:=by unfold o68_8_1;go_simp
              refine sv_ g68_8_1 Y fun a110 e=>?_;clear Y
              have h33:=pt_ F e;replace F:=pu_ F e;replace h32:=so_ e h32;clear e
              refine sv_ g68_8_2 (ya_ rfl h33) fun a111 e=>?_
              clear h8;have h8:=pt_ F e;replace F:=pu_ F e;replace h32:=so_ e h32;replace h33:=so_ e h33;clear e
              refine st_end ?_
              replace h1:=F.of h1;replace h3:=F.of h3;replace h5:=F.of h5;replace h6:=F.of h6;replace h7:=F.of h7;replace h27:=F.of h27;replace h28:=F.of h28;replace h29:=F.of h29;replace h30:=F.of h30;replace h31:=F.of h31;replace h34:=F.of h34;replace h35:=F.of h35;replace h36:=F.of h36;replace h37:=F.of h37;replace h38:=F.of h38;replace h39:=F.of h39;replace h40:=F.of h40;replace h41:=F.of h41;replace h42:=F.of h42;replace h43:=F.of h43;replace h44:=F.of h44;replace h45:=F.of h45;replace h46:=F.of h46;have R:=F.r;clear F
              exact ⟨_,by omega,j + 1,va2,vc2,ps ++ [(y,ay,cy)],rfl,R,h1,h3,h5,h6,h7,h8,K1,B1,B4,B7,B34,(by omega),(Lib.hid (HTR.out.onB KT)),(Lib.hid (by rw [List.map_append,HPS.out,List.take_succ_eq_append_getElem (by omega),List.map_append];have h:=HX.out;rw [List.getElem?_eq_getElem (by omega)] at h;rw [Option.some.inj h];simp only [List.map_cons,List.map_nil,HY.out]))⟩
    | true =>
      have fb29:=hb29;clear hb29
      simp only [decide_eq_true_eq,decide_eq_false_iff_not,bne_iff_ne,bne_eq_false_iff_eq,beq_iff_eq,beq_eq_false_iff_ne,ne_eq,Bool.not_eq_true',Bool.not_eq_false',Bool.not_eq_eq_eq_not,Bool.not_true,Bool.not_false] at fb29
      refine wp_cond_true (x:=c68_14) (y:=Code.skip) (eval_slot h21) ?_
      refine wp_seq (x:=c68_15) (y:=Code.ret) ?_
      change (Code.region 4 O68_4 false).wp _ _ _ _
      refine reg_in (l:=[0,1,2]) rfl ?_
      have F:FE_ _ [] a30 a30:=⟨R,Ag_.refl _⟩;clear R
      refine sv_ g68_4_0 (yl4_ rfl (F.of h3) B1) fun a112 e=>?_
      have h22:=pt_ F e;replace F:=pu_ F e;clear e
      refine st_call g68_4_1 rfl (wanted_free rfl) (yc1_ en68_85 rfl h22) ((refBare_any t a c w26).mono ?_)
      rintro e9 w113 ⟨rfl,kk⟩
      replace K1:=keep_onto K1 kk
      replace B1:=blk_on B1 kk
      replace B4:=blk_on B4 kk
      replace B7:=blk_on B7 kk
      clear kk
      refine ⟨_,rfl,fun a114 e=>?_⟩
      clear h22;have h23:=pt_ F e;replace F:=pu_ F e;clear e
      obtain ⟨w115,Y,hk,hB⟩:=ys4_ (o:=o68_4_2) rfl (F.of h6) h23 B7
      replace K1:=kx_ hk K1 (Nat.not_lt.2 LK1_b7);replace B1:=bx_ hk B1 Nb1_b7;replace B4:=bx_ hk B4 Nb4_b7;clear B7;have B7:=hB;clear hB hk
      refine st_skip g68_4_2 rfl (wanted_free rfl) Y ?_;clear Y
      refine st_end ?_
      replace h1:=F.of h1;replace h3:=F.of h3;replace h5:=F.of h5;replace h6:=F.of h6;clear h21;clear h23;have R:=F.r;clear F
      change (Code.ret).wp _ _ _ _
      refine wp_ret ?_
      change bodyPost Try.prog Try.f43 (fun e w'=>∃ a' c',e=.returned (tv (mapT cpL t) a' c')∧Fr 0 (fun _=>False) w' W.heap.size w'.heap.size (mapT cpL t) a' c'∧Keep (fun g=>g < W.heap.size) W w') .ret a114 w115
      refine ret_cell (fn:=Try.f43) rfl R h6 B7 ?_
      first | exact fin_zero HT.out K1 (cp_0 (by omega) (by omega)) | exact fin_bare HT.out K1 (cp_b (by omega) HNZ.out) | exact fin_row HT.out K1 (HTR.out.onB KT) HPS.out HWB (by omega) (by omega)
set_option maxRecDepth 100000 in
set_option maxHeartbeats 4000000 in
theorem put_z {W:World} {t:Tm} {a:Option Addr} {c:Nat} {f0:Act} {w0:World} (R:FrS 48 f0) (h0:f0.tmps[0]? = some (.agg #[.int .i64 t.k,.string (str t.nm),.int .i64 t.i,.slice a t.args.length c])) (h1:f0.tmps[1]? = some (.int .i64 0)) (h2:f0.tmps[2]? = some (.agg #[.int .i64 0,.string (⟨#[]⟩),.int .i64 0,.slice none 0 0])) (K1:Keep (fun g=>g < W.heap.size) W w0)  (HT:Hid (TmAt W.heap.size W t a c)) (HZ:Hid (t.k=1∧t.i=0)):c68_0.wp Try.prog (bodyPost Try.prog Try.f43 (fun e w'=>∃ a' c',e=.returned (tv (mapT cpL t) a' c')∧Fr 0 (fun _=>False) w' W.heap.size w'.heap.size (mapT cpL t) a' c'∧Keep (fun g=>g < W.heap.size) W w')) f0 w0:=by
  refine wp_seq (x:=c68_1) (y:=c68_2) ?_
  change (Code.region 0 O68_0 false).wp _ _ _ _
  refine reg_in (l:=[0,1,2]) rfl ?_
  have F:FE_ _ [] f0 f0:=⟨R,Ag_.refl _⟩;clear R
  have Y:(execOp f0.eval o68_0_0).run Try.prog w0=.ok (.value (.pointer (some ⟨w0.heap.size,0,none⟩))) (w0.alloc (.cells #[.int .i64 t.k,.string (str t.nm),.int .i64 t.i,.slice a t.args.length c] 24)):=by have r0:=F.of h0;unfold o68_0_0;go_simp
  have B116:=Blk.new w0 24 #[.int .i64 t.k,.string (str t.nm),.int .i64 t.i,.slice a t.args.length c]
  obtain ⟨w117,hw⟩:∃ x,x=w0.alloc (.cells #[.int .i64 t.k,.string (str t.nm),.int .i64 t.i,.slice a t.args.length c] 24):=⟨_,rfl⟩;rw [← hw] at Y B116
  obtain ⟨b116,hb⟩:∃ x,x=w0.heap.size:=⟨_,rfl⟩;rw [← hb] at Y B116
  have LK1_b116:=lk_ hb K1;replace K1:=ka_ hw K1;clear hw hb
  refine sv_ g68_0_0 Y fun a118 e=>?_;clear Y
  have h3:=pt_ F e;replace F:=pu_ F e;clear e
  have Y:(execOp a118.eval o68_0_1).run Try.prog w117=.ok (.value (.pointer (some ⟨w117.heap.size,0,none⟩))) (w117.alloc (.cells #[.int .i64 0,.string (⟨#[]⟩),.int .i64 0,.slice none 0 0] 24)):=by have r2:=F.of h2;unfold o68_0_1;go_simp
  have B119:=Blk.new w117 24 #[.int .i64 0,.string (⟨#[]⟩),.int .i64 0,.slice none 0 0]
  obtain ⟨w120,hw⟩:∃ x,x=w117.alloc (.cells #[.int .i64 0,.string (⟨#[]⟩),.int .i64 0,.slice none 0 0] 24):=⟨_,rfl⟩;rw [← hw] at Y B119
  obtain ⟨b119,hb⟩:∃ x,x=w117.heap.size:=⟨_,rfl⟩;rw [← hb] at Y B119
  have Nb116_b119:=nb_ hb B116;replace B116:=ba_ hw B116;have LK1_b119:=lk_ hb K1;replace K1:=ka_ hw K1;clear hw hb
  refine sv_ g68_0_1 Y fun a121 e=>?_;clear Y
  have h5:=pt_ F e;replace F:=pu_ F e;replace h3:=so_ e h3;clear e
  have Y:(execOp a121.eval o68_0_2).run Try.prog w120=.ok (.value (.pointer (some ⟨w120.heap.size,0,none⟩))) (w120.alloc (.cells #[.int .i64 0,.string (⟨#[]⟩),.int .i64 0,.slice none 0 0] 24)):=by unfold o68_0_2;go_simp
  have B122:=Blk.new w120 24 #[.int .i64 0,.string (⟨#[]⟩),.int .i64 0,.slice none 0 0]
  obtain ⟨w123,hw⟩:∃ x,x=w120.alloc (.cells #[.int .i64 0,.string (⟨#[]⟩),.int .i64 0,.slice none 0 0] 24):=⟨_,rfl⟩;rw [← hw] at Y B122
  obtain ⟨b122,hb⟩:∃ x,x=w120.heap.size:=⟨_,rfl⟩;rw [← hb] at Y B122
  have Nb116_b122:=nb_ hb B116;replace B116:=ba_ hw B116;have Nb119_b122:=nb_ hb B119;replace B119:=ba_ hw B119;have LK1_b122:=lk_ hb K1;replace K1:=ka_ hw K1;clear hw hb
  refine sv_ g68_0_2 Y fun a124 e=>?_;clear Y
  have h6:=pt_ F e;replace F:=pu_ F e;replace h3:=so_ e h3;replace h5:=so_ e h5;clear e
  refine st_end ?_
  clear h0;replace h1:=F.of h1;clear h2;have R:=F.r;clear F
  change (c68_2).wp _ _ _ _
  refine wp_seq (x:=c68_3) (y:=c68_10) ?_
  refine wp_seq (x:=c68_4) (y:=c68_5) ?_
  change (Code.region 1 O68_1 false).wp _ _ _ _
  refine reg_in (l:=[0,1,2,3,4,5,6,7,8]) rfl ?_
  have F:FE_ _ [] a124 a124:=⟨R,Ag_.refl _⟩;clear R
  refine sv_ g68_1_0 (yf0_ rfl (F.of h3)) fun a125 e=>?_
  have h9:=pt_ F e;replace F:=pu_ F e;clear e
  refine sv_ g68_1_1 (yk0_ rfl h9 B116) fun a126 e=>?_
  clear h9;have h10:=pt_ F e;replace F:=pu_ F e;clear e
  have Y:(execOp a126.eval o68_1_2).run Try.prog w123=.ok (.value (.bool true)) w123:=by have hk1:=HZ.out.1;unfold o68_1_2;go_simp
  refine sv_ g68_1_2 Y fun a127 e=>?_;clear Y
  clear h10;have h11:=pt_ F e;replace F:=pu_ F e;clear e
  refine sv_ g68_1_3 (ym_ rfl h11) fun a128 e=>?_
  clear h11;have h12:=pt_ F e;replace F:=pu_ F e;clear e
  refine st_val g68_1_4 rfl (wanted_is (j:=3) (d:=12) rfl rfl h12 rfl) (yf2_ rfl (F.of h3)) fun a129 e=>?_
  have h13:=pt_ F e;replace F:=pu_ F e;replace h12:=so_ e h12;clear e
  refine st_val g68_1_5 rfl (wanted_is (j:=3) (d:=12) rfl rfl h12 rfl) (yk2_ rfl h13 B116) fun a130 e=>?_
  clear h13;have h14:=pt_ F e;replace F:=pu_ F e;replace h12:=so_ e h12;clear e
  refine st_val g68_1_6 rfl (wanted_is (j:=3) (d:=12) rfl rfl h12 rfl) (ym_ rfl (F.of h1)) fun a131 e=>?_
  have h15:=pt_ F e;replace F:=pu_ F e;replace h12:=so_ e h12;replace h14:=so_ e h14;clear e
  have Y:(execOp a131.eval o68_1_7).run Try.prog w123=.ok (.value (.bool true)) w123:=by have hk1:=HZ.out.2;unfold o68_1_7;go_simp
  refine st_val g68_1_7 rfl (wanted_is (j:=3) (d:=12) rfl rfl h12 rfl) Y fun a132 e=>?_;clear Y
  clear h14 h15;have h16:=pt_ F e;replace F:=pu_ F e;replace h12:=so_ e h12;clear e
  have Y:(execOp a132.eval o68_1_8).run Try.prog w123=.ok (.value (.bool true)) w123:=by unfold o68_1_8;go_simp
  refine sv_ g68_1_8 Y fun a133 e=>?_;clear Y
  clear h12 h16;have h17:=pt_ F e;replace F:=pu_ F e;clear e
  refine st_end ?_
  replace h1:=F.of h1;replace h3:=F.of h3;replace h5:=F.of h5;replace h6:=F.of h6;have R:=F.r;clear F
  change (c68_5).wp _ _ _ _
  refine wp_cond_true (x:=c68_6) (y:=Code.skip) (eval_slot h17) ?_
  refine wp_seq (x:=c68_7) (y:=Code.ret) ?_
  change (Code.region 2 O68_2 false).wp _ _ _ _
  refine reg_in (l:=[0,1]) rfl ?_
  have F:FE_ _ [] a133 a133:=⟨R,Ag_.refl _⟩;clear R
  refine sv_ g68_2_0 (yl4_ rfl (F.of h5) B119) fun a134 e=>?_
  have h18:=pt_ F e;replace F:=pu_ F e;clear e
  obtain ⟨w135,Y,hk,hB⟩:=ys4_ (o:=o68_2_1) rfl (F.of h6) h18 B122
  replace K1:=kx_ hk K1 (Nat.not_lt.2 LK1_b122);replace B116:=bx_ hk B116 Nb116_b122;replace B119:=bx_ hk B119 Nb119_b122;clear B122;have B122:=hB;clear hB hk
  refine st_skip g68_2_1 rfl (wanted_free rfl) Y ?_;clear Y
  refine st_end ?_
  replace h1:=F.of h1;replace h3:=F.of h3;replace h5:=F.of h5;replace h6:=F.of h6;clear h17;clear h18;have R:=F.r;clear F
  change (Code.ret).wp _ _ _ _
  refine wp_ret ?_
  change bodyPost Try.prog Try.f43 (fun e w'=>∃ a' c',e=.returned (tv (mapT cpL t) a' c')∧Fr 0 (fun _=>False) w' W.heap.size w'.heap.size (mapT cpL t) a' c'∧Keep (fun g=>g < W.heap.size) W w') .ret a134 w135
  refine ret_cell (fn:=Try.f43) rfl R h6 B122 ?_
  exact fin_zero HT.out K1 (cp_0 HZ.out.1 HZ.out.2)
theorem refPut_any:∀ (t:Tm),t.ns ≤ 2000→∀ (W:World) (a:Option Addr) (c:Nat),TmAt W.heap.size W t a c→Calls Try.prog 43 #[tv t a c,.int .i64 0,.agg #[.int .i64 0,.string ⟨#[]⟩,.int .i64 0,.slice none 0 0]] W fun e w'=>∃ a' c',e=.returned (tv (mapT cpL t) a' c')∧Fr 0 (fun _=>False) w' W.heap.size w'.heap.size (mapT cpL t) a' c'∧Keep (fun g=>g < W.heap.size) W w':=by
  intro t
  induction t using Tm.ind with
  | h k nm i args ih =>
    intro hn W a c hT
    refine enter_sx Try.func43 body68 rfl (by show (3:Nat) ≤ 48;decide) fun f0 R hs=>?_
    by_cases hz:(Tm.node k nm i args).k=1∧(Tm.node k nm i args).i=0
    · exact put_z R (hs 0 _ rfl) (hs 1 _ rfl) (hs 2 _ rfl) (Keep.refl _ W) (Lib.hid hT) (Lib.hid hz)
    exact put_w R (hs 0 _ rfl) (hs 1 _ rfl) (hs 2 _ rfl) (Keep.refl _ W) (Lib.hid hT) (Lib.hid hz) (Lib.hid hn) (Lib.hid fun x hx hx2=>ih x hx hx2)
theorem fr_onB {w w1:World} {lo hi c:Nat} {t:Tm} {a:Option Addr} (h:Fr 0 (fun _=>False) w lo hi t a c) (k:Keep (fun g=>lo ≤ g) w w1):Fr 0 (fun _=>False) w1 lo hi t a c :=
  h.keepR k (fun j hj=>by rcases hj with hj | hj;omega;exact hj.1)
def o34_0_0:Oper:=⟨some 1,Op.box 24 (Operand.tmp 0),0, "ref.go:167",#[],none⟩
def o34_0_1:Oper:=⟨some 2,Op.alloc 24,0, "ref.go:167",#[],none⟩
def O34_0:Array Oper:=List.toArray (o34_0_0::o34_0_1::[])
theorem g34_0_0:O34_0[0]? = some o34_0_0:=rfl
theorem g34_0_1:O34_0[1]? = some o34_0_1:=rfl
def c34_1:Code:=Code.region 0 O34_0 false
def o34_1_0:Oper:=⟨some 3,Op.load 24 (Operand.tmp 1),24, "ref.go:167",#[],none⟩
def o34_1_1:Oper:=⟨some 4,Op.build 24 #[],24, "ref.go:167",#[],none⟩
def o34_1_2:Oper:=⟨some 5,Op.call { callee:=Callee.value (Operand.func 43),args:=#[Operand.tmp 3,Operand.const (Value.int IntKind.i64 0),Operand.tmp 4],argTypes:=#[24,2,24] },24, "ref.go:167",#[ed_ 0,ed_ 1],none⟩
def o34_1_3:Oper:=⟨none,Op.store 24 (Operand.tmp 2) (Operand.tmp 5),0, "ref.go:167",#[ed_ 2,ec_ 2,ep_ 0,ep_ 1,ep_ 2],none⟩
def O34_1:Array Oper:=List.toArray (o34_1_0::o34_1_1::o34_1_2::o34_1_3::[])
theorem g34_1_0:O34_1[0]? = some o34_1_0:=rfl
theorem g34_1_1:O34_1[1]? = some o34_1_1:=rfl
theorem g34_1_2:O34_1[2]? = some o34_1_2:=rfl
theorem g34_1_3:O34_1[3]? = some o34_1_3:=rfl
def c34_3:Code:=Code.region 1 O34_1 false
def c34_2:Code:=Code.seq c34_3 Code.ret
def c34_0:Code:=Code.seq c34_1 c34_2
theorem body34:Try.f8.body=some c34_0:=by kernel_rfl
set_option maxRecDepth 100000 in
set_option maxHeartbeats 4000000 in
theorem copy_w {W:World} {t:Tm} {a:Option Addr} {c:Nat} {f0:Act} {w0:World} (R:FrS 6 f0) (h0:f0.tmps[0]? = some (.agg #[.int .i64 t.k,.string (str t.nm),.int .i64 t.i,.slice a t.args.length c])) (K1:Keep (fun g=>g < W.heap.size) W w0)  (HT:Hid (TmAt W.heap.size W t a c)) (HN:Hid (t.ns ≤ 2000)):c34_0.wp Try.prog (bodyPost Try.prog Try.f8 (fun e w'=>∃ a' c',e=.returned (tv (mapT cpL t) a' c')∧Fr 0 (fun _=>False) w' W.heap.size w'.heap.size (mapT cpL t) a' c'∧Keep (fun g=>g < W.heap.size) W w')) f0 w0:=by
  refine wp_seq (x:=c34_1) (y:=c34_2) ?_
  change (Code.region 0 O34_0 false).wp _ _ _ _
  refine reg_in (l:=[0,1]) rfl ?_
  have F:FE_ _ [] f0 f0:=⟨R,Ag_.refl _⟩;clear R
  have Y:(execOp f0.eval o34_0_0).run Try.prog w0=.ok (.value (.pointer (some ⟨w0.heap.size,0,none⟩))) (w0.alloc (.cells #[.int .i64 t.k,.string (str t.nm),.int .i64 t.i,.slice a t.args.length c] 24)):=by have r0:=F.of h0;unfold o34_0_0;go_simp
  have B1:=Blk.new w0 24 #[.int .i64 t.k,.string (str t.nm),.int .i64 t.i,.slice a t.args.length c]
  obtain ⟨w2,hw⟩:∃ x,x=w0.alloc (.cells #[.int .i64 t.k,.string (str t.nm),.int .i64 t.i,.slice a t.args.length c] 24):=⟨_,rfl⟩;rw [← hw] at Y B1
  obtain ⟨b1,hb⟩:∃ x,x=w0.heap.size:=⟨_,rfl⟩;rw [← hb] at Y B1
  have LK1_b1:=lk_ hb K1;replace K1:=ka_ hw K1;clear hw hb
  refine sv_ g34_0_0 Y fun a3 e=>?_;clear Y
  have h1:=pt_ F e;replace F:=pu_ F e;clear e
  have Y:(execOp a3.eval o34_0_1).run Try.prog w2=.ok (.value (.pointer (some ⟨w2.heap.size,0,none⟩))) (w2.alloc (.cells #[.int .i64 0,.string (⟨#[]⟩),.int .i64 0,.slice none 0 0] 24)):=by unfold o34_0_1;go_simp
  have B4:=Blk.new w2 24 #[.int .i64 0,.string (⟨#[]⟩),.int .i64 0,.slice none 0 0]
  obtain ⟨w5,hw⟩:∃ x,x=w2.alloc (.cells #[.int .i64 0,.string (⟨#[]⟩),.int .i64 0,.slice none 0 0] 24):=⟨_,rfl⟩;rw [← hw] at Y B4
  obtain ⟨b4,hb⟩:∃ x,x=w2.heap.size:=⟨_,rfl⟩;rw [← hb] at Y B4
  have Nb1_b4:=nb_ hb B1;replace B1:=ba_ hw B1;have LK1_b4:=lk_ hb K1;replace K1:=ka_ hw K1;clear hw hb
  refine sv_ g34_0_1 Y fun a6 e=>?_;clear Y
  have h2:=pt_ F e;replace F:=pu_ F e;replace h1:=so_ e h1;clear e
  refine st_end ?_
  clear h0;have R:=F.r;clear F
  change (c34_2).wp _ _ _ _
  refine wp_seq (x:=c34_3) (y:=Code.ret) ?_
  change (Code.region 1 O34_1 false).wp _ _ _ _
  refine reg_in (l:=[0,1,2,3]) rfl ?_
  have F:FE_ _ [] a6 a6:=⟨R,Ag_.refl _⟩;clear R
  refine sv_ g34_1_0 (yl4_ rfl (F.of h1) B1) fun a7 e=>?_
  have h3:=pt_ F e;replace F:=pu_ F e;clear e
  have Y:(execOp a7.eval o34_1_1).run Try.prog w5=.ok (.value (.agg #[.int .i64 0,.string (⟨#[]⟩),.int .i64 0,.slice none 0 0])) w5:=by unfold o34_1_1;go_simp
  refine sv_ g34_1_1 Y fun a8 e=>?_;clear Y
  have h4:=pt_ F e;replace F:=pu_ F e;replace h3:=so_ e h3;clear e
  have Y:(execOp a8.eval o34_1_2).run Try.prog w5=.ok (.enter 43 #[.agg #[.int .i64 t.k,.string (str t.nm),.int .i64 t.i,.slice a t.args.length c],.int .i64 0,.agg #[.int .i64 0,.string (⟨#[]⟩),.int .i64 0,.slice none 0 0]]) w5:=by unfold o34_1_2;go_simp
  obtain ⟨LO,hLO⟩:∃ q,q=w5.heap.size:=⟨_,rfl⟩
  have Eb1:b1 < LO:=by rw [hLO];exact B1.lt
  have Eb4:b4 < LO:=by rw [hLO];exact B4.lt
  have HWL:W.heap.size ≤ LO:=by rw [hLO];exact K1.size
  have hcall:=refPut_any t HN.out w5 a c (HT.out.on K1)
  refine st_call g34_1_2 rfl (wanted_free rfl) Y ((hcall).mono ?_);clear Y
  rintro e9 w9 ⟨ay,cy,rfl,hfr,kk⟩
  replace K1:=keep_onto K1 kk
  replace B1:=blk_on B1 kk
  replace B4:=blk_on B4 kk
  clear kk
  clear hcall
  rw [← hLO] at hfr;clear hLO
  have HFR:=Lib.hid hfr;clear hfr
  have KT:=Keep.refl (fun g=>LO ≤ g) w9
  refine ⟨_,rfl,fun a10 e=>?_⟩
  clear h3 h4;have h5:=pt_ F e;replace F:=pu_ F e;clear e
  obtain ⟨w11,Y,hk,hB⟩:=ys4_ (o:=o34_1_3) rfl (F.of h2) h5 B4
  replace K1:=kx_ hk K1 (Nat.not_lt.2 LK1_b4);replace KT:=kx_ hk KT (Nat.not_le.2 Eb4);replace B1:=bx_ hk B1 Nb1_b4;clear B4;have B4:=hB;clear hB hk
  refine st_skip g34_1_3 rfl (wanted_free rfl) Y ?_;clear Y
  refine st_end ?_
  clear h1;replace h2:=F.of h2;clear h5;have R:=F.r;clear F
  change (Code.ret).wp _ _ _ _
  refine wp_ret ?_
  change bodyPost Try.prog Try.f8 (fun e w'=>∃ a' c',e=.returned (tv (mapT cpL t) a' c')∧Fr 0 (fun _=>False) w' W.heap.size w'.heap.size (mapT cpL t) a' c'∧Keep (fun g=>g < W.heap.size) W w') .ret a10 w11
  refine ret_cell (fn:=Try.f8) rfl R h2 B4 ?_
  exact ⟨ay,cy,rfl,(fr_onB HFR.out KT).up KT.size HWL,K1⟩
theorem refCopy_any {W:World} {t:Tm} {a:Option Addr} {c:Nat} (hT:TmAt W.heap.size W t a c) (hn:t.ns ≤ 2000):Calls Try.prog 8 #[tv t a c] W fun e w'=>∃ a' c',e=.returned (tv (mapT cpL t) a' c')∧Fr 0 (fun _=>False) w' W.heap.size w'.heap.size (mapT cpL t) a' c'∧Keep (fun g=>g < W.heap.size) W w':=by
  refine enter_sx Try.func8 body34 rfl (by show (1:Nat) ≤ 6;decide) fun f0 R hs=>?_
  exact copy_w R (hs 0 _ rfl) (Keep.refl _ W) (Lib.hid hT) (Lib.hid hn)
end Go.Proofs.Ytjinmnekfhekpaa
