/-
  Any call of the program's post leaves a post in which each other queue is as long as it was; a law's own call ('does') over no document's post: walked with letter frames. No condition.
-/
import Derived.Test.YtnfcbalppecnfaaGreatPPo8
import Derived.Test.YtnfcbalppecnfaaGreatPPo11
import Derived.Test.YtnfcbalppecnfaaGreatPPz1
namespace Go.Proofs.YtnfcbalppecnfaaGreat
open Go.RowKit Go.Maps
set_option linter.unusedVariables false
set_option linter.unusedSimpArgs false
def Chg (B:Nat) (R:Nat→Prop) (w w':World) (b0 mb:Nat) (made:Int) (f:Int→Option Qu) (k:Int):Prop :=
  (∃ (R':Nat→Prop) (made':Int) (f':Int→Option Qu) (n':Nat),PoAt B R' w' b0 mb made' f' n'∧made ≤ made'∧made' ≤ made + 1∧∀ x,x ≠ k→x ≤ made→(f' x).map (fun q=>q.ps.length)=(f x).map (fun q=>q.ps.length))∧Keep (fun g=>g < w.heap.size∧¬ R g) w w'
section
variable {W W' W2:World} {B b0 mb n:Nat} {R:Nat→Prop} {made k er:Int} {f:Int→Option Qu} {t:Tm} {a:Option Addr} {c:Nat} {q:Qu}
theorem Chg.same (h:PoAt B R W b0 mb made f n) (hk:Keep (fun g=>g < W.heap.size) W W'):Chg B R W W' b0 mb made f k :=
  ⟨⟨R,made,f,n,h.on hk,Int.le_refl _,by omega,fun _ _ _=>rfl⟩,hk.less fun g hg=>hg.1⟩
theorem Chg.on (h:Chg B R W W' b0 mb made f k) (hk:Keep (fun g=>g < W'.heap.size) W' W2):Chg B R W W2 b0 mb made f k:=by
  obtain ⟨⟨R',made',f',n',h1,h2⟩,h3⟩:=h
  exact ⟨⟨R',made',f',n',h1.on hk,h2⟩,h3.trans hk.all⟩
theorem Chg.onto (hk:Keep (fun g=>g < W.heap.size∧¬ R g) W W') (h:Chg B R W' W2 b0 mb made f k) (hl:W.heap.size ≤ W'.heap.size):Chg B R W W2 b0 mb made f k :=
  ⟨h.1,hk.trans (h.2.less fun g hg=>⟨Nat.lt_of_lt_of_le hg.1 hl,hg.2⟩)⟩
theorem make_c {most:Int} (h:PoAt B R W b0 mb made f n) (hmd:made ≤ 4611686018427387904):Calls Tryz.prog 14 #[.pointer (some ⟨b0,0,none⟩),.int .i64 most] W fun e w'=>∃ q er:Int,e=.returned (.tuple #[.int .i64 q,.int .i64 er])∧Chg B R W w' b0 mb made f k:=by
  by_cases hn:n < 8
  · refine Calls.mono (make_any (most:=most) h hn hmd) ?_
    rintro e w' ⟨R',bq,rfl,h1,h2,h3,h4⟩
    refine ⟨_,_,rfl,⟨R',_,_,_,h1,by omega,Int.le_refl _,fun x hx hm=>?_⟩,h4⟩
    rw [if_neg (by omega)]
  · refine Calls.mono (make_full (most:=most) h (by omega)) ?_
    rintro e w' ⟨rfl,kk⟩
    exact ⟨_,_,rfl,Chg.same h kk⟩
theorem drop_c (h:PoAt B R W b0 mb made f n) (hk:(ik k).wf=true):Calls Tryz.prog 13 #[.pointer (some ⟨b0,0,none⟩),.int .i64 k] W fun e w'=>∃ er:Int,e=.returned (.int .i64 er)∧Chg B R W w' b0 mb made f k:=by
  cases hf:f k with
  | none =>
    refine Calls.mono (drop_no h hk hf) ?_
    rintro e w' ⟨rfl,kk⟩
    exact ⟨_,rfl,Chg.same h kk⟩
  | some q =>
    refine Calls.mono (drop_any h hk hf) ?_
    rintro e w' ⟨rfl,h1,kk⟩
    refine ⟨_,rfl,⟨R,_,_,_,h1,Int.le_refl _,by omega,fun x hx hm=>?_⟩,kk⟩
    show (if x=k then none else f x).map _=_
    rw [if_neg hx]
theorem PoAt.far (h:PoAt B R W b0 mb made f n) (hf:f k=some q) {g:Nat} (hg:¬ R g):g ≠ q.g∧q.v.ownBlock ≠ some g :=
  ⟨fun e=>hg (e ▸ (h.qs k q hf).rg),fun e=>hg ((h.qs k q hf).rv g e)⟩
theorem sendc (h:PoAt B R W b0 mb made f n) (hk:(ik k).wf=true) (hT:TmAt W.heap.size W t a c):Calls Tryz.prog 11 #[.pointer (some ⟨b0,0,none⟩),.int .i64 k,tv t a c] W fun e w'=>∃ er:Int,e=.returned (.int .i64 er)∧Chg B R W w' b0 mb made f k:=by
  have no:∀ er,NoSend f k t er→Calls Tryz.prog 11 #[.pointer (some ⟨b0,0,none⟩),.int .i64 k,tv t a c] W fun e w'=>∃ er:Int,e=.returned (.int .i64 er)∧Chg B R W w' b0 mb made f k:=fun er hc=>by
    refine Calls.mono (send_no h hk hT hc) ?_
    rintro e w' ⟨rfl,kk⟩
    exact ⟨_,rfl,Chg.same h kk⟩
  cases hf:f k with
  | none=>exact no 140 (.inl ⟨hf,rfl⟩)
  | some q =>
    cases hr:t.right with
    | false=>exact no 70 (.inr ⟨q,hf,.inl ⟨hr,rfl⟩⟩)
    | true =>
      by_cases hm:(q.ps.length:Int) < q.m
      · refine Calls.mono (send_yes h hk hT hf hr hm) ?_
        rintro e w' ⟨R',v',au,cu,rfl,h1,h2,h3,h4⟩
        refine ⟨_,rfl,⟨R',_,_,_,h1,Int.le_refl _,by omega,fun x hx hm=>?_⟩,h4.less fun g hg=>⟨hg.1,h.far hf hg.2⟩⟩
        show (if x=k then _ else f x).map _=_
        rw [if_neg hx]
      · exact no 141 (.inr ⟨q,hf,.inr ⟨hr,rfl,by omega⟩⟩)
theorem least_fit (u:Tm):∀ ps:List TP,(∀ p ∈ ps,¬ Fit p.1 u)∨∃ (j:Nat) (p:TP),ps[j]? = some p∧Fit p.1 u∧∀ (i:Nat) (x:TP),i < j→ps[i]? = some x→¬ Fit x.1 u
  | []=>.inl fun p hp=>by simp at hp
  | p::ps=>by
    by_cases hf:Fit p.1 u
    · exact .inr ⟨0,p,rfl,hf,fun i x hi=>absurd hi (Nat.not_lt_zero _)⟩
    · rcases least_fit u ps with h | ⟨j,p',h1,h2,h3⟩
      · exact .inl fun p' hp'=>by rcases List.mem_cons.1 hp' with rfl | h';exact hf;exact h p' h'
      · refine .inr ⟨j + 1,p',h1,h2,fun i x hi hx=>?_⟩
        cases i with
        | zero=>simp at hx;subst hx;exact hf
        | succ i=>exact h3 i x (by omega) (by simpa using hx)
theorem msg_or (f:Int→Option Qu) (k:Int) (t:Tm):(f k=none)∨(∃ er,er ≠ 140∧NoMsg f k t er)∨∃ q j p,f k=some q∧IsMsg q t j p:=by
  cases hf:f k with
  | none=>exact .inl rfl
  | some q =>
    cases hr:t.right with
    | false=>exact .inr (.inl ⟨70,by decide,.inr ⟨q,hf,.inl ⟨hr,rfl⟩⟩⟩)
    | true =>
      rcases least_fit (t.tree.ren 2001).tm q.ps with h | ⟨j,p,h1,h2,h3⟩
      · exact .inr (.inl ⟨141,by decide,.inr ⟨q,hf,.inr ⟨hr,rfl,h⟩⟩⟩)
      · exact .inr (.inr ⟨q,j,p,rfl,hr,h1,h2,h3⟩)
theorem get_c0 (h:PoAt B R W b0 mb made f n) (hk:(ik k).wf=true) (hT:TmAt W.heap.size W t a c) (hf:f k=none):Calls Tryz.prog 17 #[.pointer (some ⟨b0,0,none⟩),.int .i64 k,tv t a c] W fun e w'=>e=.returned (.tuple #[.agg #[.int .i64 0,.string ⟨#[]⟩,.int .i64 0,.slice none 0 0],.int .i64 140])∧Chg B R W w' b0 mb made f k:=by
  refine Calls.mono (get_no h hk hT (.inl ⟨hf,rfl⟩)) ?_
  rintro e w' ⟨rfl,kk⟩
  exact ⟨rfl,Chg.same h kk⟩
theorem get_c1 (h:PoAt B R W b0 mb made f n) (hk:(ik k).wf=true) (hT:TmAt W.heap.size W t a c) (hf:f k ≠ none):Calls Tryz.prog 17 #[.pointer (some ⟨b0,0,none⟩),.int .i64 k,tv t a c] W fun e w'=>∃ (u:Tm) (a':Option Addr) (c':Nat) (er:Int),e=.returned (.tuple #[tv u a' c',.int .i64 er])∧er ≠ 140∧Chg B R W w' b0 mb made f k:=by
  rcases msg_or f k t with h0 | ⟨er,h0,hc⟩ | ⟨q,j,p,hq,hc⟩
  · exact absurd h0 hf
  · refine Calls.mono (get_no h hk hT hc) ?_
    rintro e w' ⟨rfl,kk⟩
    exact ⟨.node 0 [] 0 [],none,0,er,rfl,h0,Chg.same h kk⟩
  · refine Calls.mono (get_yes h hk hT hq hc) ?_
    rintro e w' ⟨v',rfl,h1,h2,h3,h4⟩
    refine ⟨_,_,_,_,rfl,by decide,⟨R,_,_,_,h1,Int.le_refl _,by omega,fun x hx hm=>?_⟩,h4.less fun g hg=>⟨hg.1,h.far hq hg.2⟩⟩
    show (if x=k then _ else f x).map _=_
    rw [if_neg hx]
theorem peek_c0 (h:PoAt B R W b0 mb made f n) (hk:(ik k).wf=true) (hT:TmAt W.heap.size W t a c) (hf:f k=none):Calls Tryz.prog 18 #[.pointer (some ⟨b0,0,none⟩),.int .i64 k,tv t a c] W fun e w'=>e=.returned (.tuple #[.agg #[.int .i64 0,.string ⟨#[]⟩,.int .i64 0,.slice none 0 0],.int .i64 140])∧Chg B R W w' b0 mb made f k:=by
  refine Calls.mono (peek_no h hk hT (.inl ⟨hf,rfl⟩)) ?_
  rintro e w' ⟨rfl,kk⟩
  exact ⟨rfl,Chg.same h kk⟩
theorem peek_c1 (h:PoAt B R W b0 mb made f n) (hk:(ik k).wf=true) (hT:TmAt W.heap.size W t a c) (hf:f k ≠ none):Calls Tryz.prog 18 #[.pointer (some ⟨b0,0,none⟩),.int .i64 k,tv t a c] W fun e w'=>∃ (u:Tm) (a':Option Addr) (c':Nat) (er:Int),e=.returned (.tuple #[tv u a' c',.int .i64 er])∧er ≠ 140∧Chg B R W w' b0 mb made f k:=by
  rcases msg_or f k t with h0 | ⟨er,h0,hc⟩ | ⟨q,j,p,hq,hc⟩
  · exact absurd h0 hf
  · refine Calls.mono (peek_no h hk hT hc) ?_
    rintro e w' ⟨rfl,kk⟩
    exact ⟨.node 0 [] 0 [],none,0,er,rfl,h0,Chg.same h kk⟩
  · refine Calls.mono (peek_yes h hk hT hq hc) ?_
    rintro e w' ⟨a',c',rfl,h2,kk⟩
    exact ⟨_,_,_,_,rfl,by decide,Chg.same h kk⟩
theorem len_c (h:PoAt B R W b0 mb made f n) (hk:(ik k).wf=true):Calls Tryz.prog 10 #[.pointer (some ⟨b0,0,none⟩),.int .i64 k] W fun e w'=>∃ z er:Int,e=.returned (.tuple #[.int .i64 z,.int .i64 er])∧Chg B R W w' b0 mb made f k:=by
  cases hf:f k with
  | none =>
    refine Calls.mono (len_no h hk hf) ?_
    rintro e w' ⟨rfl,kk⟩
    exact ⟨_,_,rfl,Chg.same h kk⟩
  | some q =>
    refine Calls.mono (len_yes h hk hf) ?_
    rintro e w' ⟨rfl,kk⟩
    exact ⟨_,_,rfl,Chg.same h kk⟩
end
theorem info_qu:∃ i z,Tryz.prog.info? 64=some i∧i.zero=some z∧i.size=3∧i.bytes=40∧z.cells.size=3:=by
  have h1:((Tryz.prog.info? 64).map fun i=>(i.size,i.bytes,(i.zero.map fun z=>z.cells.size)))=some (3,40,some 3):=by kernel_rfl
  obtain ⟨i,hi,he⟩:=Option.map_eq_some_iff.1 h1
  obtain ⟨e1,e2⟩:=Prod.mk.inj he
  obtain ⟨e2,e3⟩:=Prod.mk.inj e2
  obtain ⟨z,hz,hz2⟩:=Option.map_eq_some_iff.1 e3
  exact ⟨i,z,hi,hz,e1,e2,hz2⟩
theorem push_qu {w:World} {b b2 c2:Nat} {ty:TypeId} {x:Bool} {m:Int} (hb:Blk w b 64 #[]) (hb2:Blk w b2 64 #[.bool x,.int .i64 m,.slice none 0 0]) :
    ∃ a' c' w3,(Builtin.append_ #[33,33] ty #[.slice (some ⟨b,0,none⟩) 0 0,.slice (some ⟨b2,0,none⟩) 1 c2]).run Tryz.prog w=.ok (.slice a' 1 c') w3∧Keep (fun g=>g < b) w w3:=by
  obtain ⟨i,z,h1,h2,h3,h4,h5⟩:=info_qu
  have hone:∀ u ∈ ([.bool x,.int .i64 m,.slice none 0 0]:List Value),u.oneCell'=true:=by intro u hu;simp at hu;rcases hu with rfl | rfl | rfl <;> rfl
  have hrow:w.ownsRow b 64 3 (.slice (some ⟨b,0,none⟩) 0 0) 0 []:=⟨rfl,.inr ⟨b,0,#[],rfl,Nat.le_refl _,hb,Nat.le_refl _,by decide,rfl,rfl⟩⟩
  obtain ⟨v',w3,ha,hr,hg,_⟩:=run_append_own (P:=Tryz.prog) w b 33 ty 64 i z 3 40 (by kernel_rfl) h1 h2 h3 h4 h5 (by decide) _ 0 [] hrow ⟨b2,0,none⟩ 1 c2 [.bool x,.int .i64 m,.slice none 0 0] rfl (news_at hb2) hone (by unfold maxLen;omega) (by omega) (Nat.le_of_lt hb.lt)
  rcases hr.2 with ⟨_,h0⟩ | ⟨g,cap,cur,rfl,_⟩
  · simp at h0
  · exact ⟨_,_,w3,ha,Keep.ofGrown hg fun g hg2=>Nat.not_lt.2 (hrow.lt g hg2).1⟩
theorem tm_Z {w:World}:TmAt w.heap.size w (.node 0 [] 0 []) none 0:=tm_leaf (show (ik 0).wf=true by decide) (show (ik 0).wf=true by decide) (by decide)
theorem refIsK (w:World) (a:Option Addr) (c:Nat) (k:Int):Calls Tryz.prog 27 #[.slice a 0 c,.int .i64 k] w fun e w'=>e=.returned (.bool false)∧Keep (fun g=>g < w.heap.size) w w' :=
  (refIs0 w a c k).mono fun e w' h=>⟨h.1,by rw [h.2];exact Keep.refl _ _⟩
theorem refDropK (w:World) (a:Option Addr) (c:Nat) (k:Int):Calls Tryz.prog 24 #[.slice a 0 c,.int .i64 k] w fun e w'=>e=.returned (.tuple #[.slice a 0 c,.int .i64 140])∧Keep (fun g=>g < w.heap.size) w w' :=
  (refDrop0 w a c k).mono fun e w' h=>⟨h.1,by rw [h.2];exact Keep.refl _ _⟩
def oz6_0_0:Oper:=⟨some 1,Op.box 28 (Operand.tmp 0),0, "law.go:36",#[],none⟩
def oz6_0_1:Oper:=⟨some 2,Op.assign (Operand.const (Value.bool false)),4, "law.go:36",#[],none⟩
def Oz6_0:Array Oper:=List.toArray (oz6_0_0::oz6_0_1::[])
theorem gz6_0_0:Oz6_0[0]? = some oz6_0_0:=rfl
theorem gz6_0_1:Oz6_0[1]? = some oz6_0_1:=rfl
def cz6_1:Code:=Code.region 0 Oz6_0 false
def oz6_1_0:Oper:=⟨some 3,Op.load 28 (Operand.tmp 1),28, "law.go:37",#[],none⟩
def oz6_1_1:Oper:=⟨some 4,Op.call { callee:=Callee.value (Operand.func 21),args:=#[Operand.tmp 3,Operand.const (Value.int IntKind.i64 28)],argTypes:=#[28,3] },3, "law.go:37",#[ed_ 0],none⟩
def oz6_1_2:Oper:=⟨some 5,Op.binOp Go.BinOp.leq 3 (Operand.tmp 4) (Operand.const (Value.int IntKind.i64 28)) 3,4, "law.go:37",#[ed_ 1],none⟩
def oz6_1_3:Oper:=⟨some 6,Op.move (Operand.tmp 5),4, "law.go:37",#[ed_ 2,ec_ 1],none⟩
def oz6_1_4:Oper:=⟨some 7,Op.load 28 (Operand.tmp 1),28, "law.go:37",#[eg_ 3],some (3,false)⟩
def oz6_1_5:Oper:=⟨some 8,Op.call { callee:=Callee.value (Operand.func 22),args:=#[Operand.tmp 7],argTypes:=#[28] },4, "law.go:37",#[ed_ 4,ec_ 3,eg_ 3],some (3,false)⟩
def oz6_1_6:Oper:=⟨some 9,Op.unOp Go.UnOp.not 4 (Operand.tmp 8),4, "law.go:37",#[ed_ 5,eg_ 3],some (3,false)⟩
def oz6_1_7:Oper:=⟨some 10,Op.pick (Operand.tmp 6) (Operand.const (Value.bool true)) (Operand.tmp 9),4, "law.go:37",#[ed_ 3,ed_ 6],none⟩
def oz6_1_8:Oper:=⟨some 2,Op.assign (Operand.tmp 10),4, "law.go:37",#[ed_ 7,ec_ 5,ep_ 0,ep_ 1,ep_ 2,ep_ 3,ep_ 4,ep_ 5,ep_ 6,ep_ 7],none⟩
def Oz6_1:Array Oper:=List.toArray (oz6_1_0::oz6_1_1::oz6_1_2::oz6_1_3::oz6_1_4::oz6_1_5::oz6_1_6::oz6_1_7::oz6_1_8::[])
theorem gz6_1_0:Oz6_1[0]? = some oz6_1_0:=rfl
theorem gz6_1_1:Oz6_1[1]? = some oz6_1_1:=rfl
theorem gz6_1_2:Oz6_1[2]? = some oz6_1_2:=rfl
theorem gz6_1_3:Oz6_1[3]? = some oz6_1_3:=rfl
theorem gz6_1_4:Oz6_1[4]? = some oz6_1_4:=rfl
theorem gz6_1_5:Oz6_1[5]? = some oz6_1_5:=rfl
theorem gz6_1_6:Oz6_1[6]? = some oz6_1_6:=rfl
theorem gz6_1_7:Oz6_1[7]? = some oz6_1_7:=rfl
theorem gz6_1_8:Oz6_1[8]? = some oz6_1_8:=rfl
def cz6_3:Code:=Code.region 1 Oz6_1 false
def cz6_2:Code:=Code.seq cz6_3 Code.ret
def cz6_0:Code:=Code.seq cz6_1 cz6_2
theorem enz6_1022:Enters Tryz.prog 22:=enters_of Tryz.func22 (by kernel_rfl) rfl
theorem bodyz6:Tryz.f6.body=some cz6_0:=by kernel_rfl
set_option maxRecDepth 100000 in
set_option maxHeartbeats 4000000 in
theorem small_w {W:World} {t:Tm} {a:Option Addr} {c:Nat} {f0:Act} {w0:World} (R:FrS 11 f0) (h0:f0.tmps[0]? = some (.agg #[.int .i64 t.k,.string (str t.nm),.int .i64 t.i,.slice a t.args.length c])) (K1:Keep (fun g=>g < W.heap.size) W w0)  (HT:Hid (TmAt W.heap.size W t a c)):cz6_0.wp Tryz.prog (bodyPost Tryz.prog Tryz.f6 (fun e w'=>(∃ r:Bool,e=.returned (.bool r))∧Keep (fun g=>g < W.heap.size) W w')) f0 w0:=by
 refine wp_seq (x:=cz6_1) (y:=cz6_2) ?_
 change (Code.region 0 Oz6_0 false).wp _ _ _ _
 refine reg_in (l:=[0,1]) rfl ?_
 have F:FE_ _ [] f0 f0:=⟨R,Ag_.refl _⟩;clear R
 have Y:(execOp f0.eval oz6_0_0).run Tryz.prog w0=.ok (.value (.pointer (some ⟨w0.heap.size,0,none⟩))) (w0.alloc (.cells #[.int .i64 t.k,.string (str t.nm),.int .i64 t.i,.slice a t.args.length c] 28)):=by have r0:=F.of h0;unfold oz6_0_0;go_simp
 have B101:=Blk.new w0 28 #[.int .i64 t.k,.string (str t.nm),.int .i64 t.i,.slice a t.args.length c]
 obtain ⟨w102,hw⟩:∃ x,x=w0.alloc (.cells #[.int .i64 t.k,.string (str t.nm),.int .i64 t.i,.slice a t.args.length c] 28):=⟨_,rfl⟩;rw [← hw] at Y B101
 obtain ⟨b101,hb⟩:∃ x,x=w0.heap.size:=⟨_,rfl⟩;rw [← hb] at Y B101
 have LK1_b101:=lk_ hb K1;replace K1:=ka_ hw K1;clear hw hb
 refine sv_ gz6_0_0 Y fun a103 e=>?_;clear Y
 have h1:=pt_ F e;replace F:=pu_ F e;clear e
 have Y:(execOp a103.eval oz6_0_1).run Tryz.prog w102=.ok (.value (.bool false)) w102:=by unfold oz6_0_1;go_simp
 refine sv_ gz6_0_1 Y fun a104 e=>?_;clear Y
 have h2:=pt_ F e;replace F:=pu_ F e;replace h1:=so_ e h1;clear e
 refine st_end ?_
 clear h0;have R:=F.r;clear F
 change (cz6_2).wp _ _ _ _
 refine wp_seq (x:=cz6_3) (y:=Code.ret) ?_
 change (Code.region 1 Oz6_1 false).wp _ _ _ _
 refine reg_in (l:=[0,1,2,3,4,5,6,7,8]) rfl ?_
 have F:FE_ _ [] a104 a104:=⟨R,Ag_.refl _⟩;clear R
 refine sv_ gz6_1_0 (yl4_ rfl (F.of h1) B101) fun a105 e=>?_
 have h3:=pt_ F e;replace F:=pu_ F e;clear e
 have Y:(execOp a105.eval oz6_1_1).run Tryz.prog w102=.ok (.enter 21 #[.agg #[.int .i64 t.k,.string (str t.nm),.int .i64 t.i,.slice a t.args.length c],.int .i64 28]) w102:=by unfold oz6_1_1;go_simp
 obtain ⟨z,hz⟩:∃ z:Int,((min t.ns (28 + 1):Nat):Int)=z:=⟨_,rfl⟩;have hcall:=refSize_any t 28 (by decide) w102 a c (HT.out.on K1);rw [hz] at hcall
 refine st_call gz6_1_1 rfl (wanted_free rfl) Y ((hcall).mono ?_);clear Y
 rintro e9 w106 ⟨rfl,kk⟩
 replace K1:=keep_onto K1 kk
 replace B101:=blk_on B101 kk
 clear hcall hz
 clear kk
 refine ⟨_,rfl,fun a107 e=>?_⟩
 clear h3;have h4:=pt_ F e;replace F:=pu_ F e;clear e
 obtain ⟨b108,hb108⟩:∃ x,(decide ((z:Int) ≤ (28:Int)))=x:=⟨_,rfl⟩
 have Y:(execOp a107.eval oz6_1_2).run Tryz.prog w106=.ok (.value (.bool b108)) w106:=by rw [← hb108];unfold oz6_1_2;go_simp
 refine sv_ gz6_1_2 Y fun a109 e=>?_;clear Y
 clear h4;have h5:=pt_ F e;replace F:=pu_ F e;clear e
 refine sv_ gz6_1_3 (ym_ rfl h5) fun a110 e=>?_
 clear h5;have h6:=pt_ F e;replace F:=pu_ F e;clear e
 cases b108 with
 | false =>
  have fb108:=hb108;clear hb108
  simp only [decide_eq_true_eq,decide_eq_false_iff_not,bne_iff_ne,bne_eq_false_iff_eq,beq_iff_eq,beq_eq_false_iff_ne,ne_eq,Bool.not_eq_true',Bool.not_eq_false',Bool.not_eq_eq_eq_not,Bool.not_true,Bool.not_false] at fb108
  refine st_val gz6_1_4 rfl (wanted_is (j:=3) (d:=6) rfl rfl h6 rfl) (yl4_ rfl (F.of h1) B101) fun a111 e=>?_
  have h7:=pt_ F e;replace F:=pu_ F e;replace h6:=so_ e h6;clear e
  obtain ⟨rb,hrb⟩:∃ r,t.right=r:=⟨_,rfl⟩;have hcall:=refRight_any (HT.out.on K1);rw [hrb] at hcall
  refine st_call gz6_1_5 rfl (wanted_is (j:=3) (d:=6) rfl rfl h6 rfl) (yc1_ enz6_1022 rfl h7) ((hcall).mono ?_)
  rintro e9 w112 ⟨rfl,kk⟩
  replace K1:=keep_onto K1 kk
  replace B101:=blk_on B101 kk
  clear hcall hrb
  clear kk
  refine ⟨_,rfl,fun a113 e=>?_⟩
  clear h7;have h8:=pt_ F e;replace F:=pu_ F e;replace h6:=so_ e h6;clear e
  cases rb with
  | false =>
   have Y:(execOp a113.eval oz6_1_6).run Tryz.prog w112=.ok (.value (.bool true)) w112:=by unfold oz6_1_6;go_simp
   refine st_val gz6_1_6 rfl (wanted_is (j:=3) (d:=6) rfl rfl h6 rfl) Y fun a114 e=>?_;clear Y
   clear h8;have h9:=pt_ F e;replace F:=pu_ F e;replace h6:=so_ e h6;clear e
   have Y:(execOp a114.eval oz6_1_7).run Tryz.prog w112=.ok (.value (.bool true)) w112:=by unfold oz6_1_7;go_simp
   refine sv_ gz6_1_7 Y fun a115 e=>?_;clear Y
   clear h6 h9;have h10:=pt_ F e;replace F:=pu_ F e;clear e
   refine sv_ gz6_1_8 (ya_ rfl h10) fun a116 e=>?_
   clear h10 h2;have h2:=pt_ F e;replace F:=pu_ F e;clear e
   refine st_end ?_
   clear h1;have R:=F.r;clear F
   change (Code.ret).wp _ _ _ _
   refine wp_ret ?_
   change bodyPost Tryz.prog Tryz.f6 (fun e w'=>(∃ r:Bool,e=.returned (.bool r))∧Keep (fun g=>g < W.heap.size) W w') .ret a116 w112
   refine ret_one rfl R h2 ?_
   exact ⟨⟨_,rfl⟩,K1⟩
  | true =>
   have Y:(execOp a113.eval oz6_1_6).run Tryz.prog w112=.ok (.value (.bool false)) w112:=by unfold oz6_1_6;go_simp
   refine st_val gz6_1_6 rfl (wanted_is (j:=3) (d:=6) rfl rfl h6 rfl) Y fun a117 e=>?_;clear Y
   clear h8;have h9:=pt_ F e;replace F:=pu_ F e;replace h6:=so_ e h6;clear e
   have Y:(execOp a117.eval oz6_1_7).run Tryz.prog w112=.ok (.value (.bool false)) w112:=by unfold oz6_1_7;go_simp
   refine sv_ gz6_1_7 Y fun a118 e=>?_;clear Y
   clear h6 h9;have h10:=pt_ F e;replace F:=pu_ F e;clear e
   refine sv_ gz6_1_8 (ya_ rfl h10) fun a119 e=>?_
   clear h10 h2;have h2:=pt_ F e;replace F:=pu_ F e;clear e
   refine st_end ?_
   clear h1;have R:=F.r;clear F
   change (Code.ret).wp _ _ _ _
   refine wp_ret ?_
   change bodyPost Tryz.prog Tryz.f6 (fun e w'=>(∃ r:Bool,e=.returned (.bool r))∧Keep (fun g=>g < W.heap.size) W w') .ret a119 w112
   refine ret_one rfl R h2 ?_
   exact ⟨⟨_,rfl⟩,K1⟩
 | true =>
  have fb108:=hb108;clear hb108
  simp only [decide_eq_true_eq,decide_eq_false_iff_not,bne_iff_ne,bne_eq_false_iff_eq,beq_iff_eq,beq_eq_false_iff_ne,ne_eq,Bool.not_eq_true',Bool.not_eq_false',Bool.not_eq_eq_eq_not,Bool.not_true,Bool.not_false] at fb108
  refine st_not gz6_1_4 rfl (wanted_is (j:=3) (d:=6) rfl rfl h6 rfl) fun a120 e=>?_
  have h7:=pt_ F e;replace F:=pu_ F e;replace h6:=so_ e h6;clear e
  refine st_not gz6_1_5 rfl (wanted_is (j:=3) (d:=6) rfl rfl h6 rfl) fun a121 e=>?_
  clear h7;have h8:=pt_ F e;replace F:=pu_ F e;replace h6:=so_ e h6;clear e
  refine st_not gz6_1_6 rfl (wanted_is (j:=3) (d:=6) rfl rfl h6 rfl) fun a122 e=>?_
  clear h8;have h9:=pt_ F e;replace F:=pu_ F e;replace h6:=so_ e h6;clear e
  have Y:(execOp a122.eval oz6_1_7).run Tryz.prog w106=.ok (.value (.bool true)) w106:=by unfold oz6_1_7;go_simp
  refine sv_ gz6_1_7 Y fun a123 e=>?_;clear Y
  clear h6 h9;have h10:=pt_ F e;replace F:=pu_ F e;clear e
  refine sv_ gz6_1_8 (ya_ rfl h10) fun a124 e=>?_
  clear h10 h2;have h2:=pt_ F e;replace F:=pu_ F e;clear e
  refine st_end ?_
  clear h1;have R:=F.r;clear F
  change (Code.ret).wp _ _ _ _
  refine wp_ret ?_
  change bodyPost Tryz.prog Tryz.f6 (fun e w'=>(∃ r:Bool,e=.returned (.bool r))∧Keep (fun g=>g < W.heap.size) W w') .ret a124 w106
  refine ret_one rfl R h2 ?_
  exact ⟨⟨_,rfl⟩,K1⟩
theorem small_any {W:World} {t:Tm} {a:Option Addr} {c:Nat} (hT:TmAt W.heap.size W t a c):Calls Tryz.prog 6 #[tv t a c] W fun e w'=>(∃ r:Bool,e=.returned (.bool r))∧Keep (fun g=>g < W.heap.size) W w':=by
  refine enter_sx Tryz.func6 bodyz6 rfl (by show (1:Nat) ≤ 11;decide) fun f0 R0 hs=>?_
  exact small_w R0 (hs 0 _ rfl) (Keep.refl _ W) (Lib.hid hT)
def oz23_0_0:Oper:=⟨some 4,Op.assign (Operand.const (Value.slice none 0 0)),33, "ref.go:43",#[],none⟩
def oz23_0_1:Oper:=⟨some 5,Op.assign (Operand.const (Value.int IntKind.i64 0)),3, "ref.go:43",#[ec_ 0],none⟩
def oz23_0_2:Oper:=⟨some 6,Op.assign (Operand.const (Value.int IntKind.i64 0)),3, "ref.go:43",#[ec_ 1],none⟩
def Oz23_0:Array Oper:=List.toArray (oz23_0_0::oz23_0_1::oz23_0_2::[])
theorem gz23_0_0:Oz23_0[0]? = some oz23_0_0:=rfl
theorem gz23_0_1:Oz23_0[1]? = some oz23_0_1:=rfl
theorem gz23_0_2:Oz23_0[2]? = some oz23_0_2:=rfl
def cz23_1:Code:=Code.region 0 Oz23_0 false
def oz23_1_0:Oper:=⟨some 9,Op.move (Operand.tmp 0),33, "ref.go:44",#[],none⟩
def oz23_1_1:Oper:=⟨some 10,Op.call { callee:=Callee.value (Operand.func 36),args:=#[Operand.tmp 9],argTypes:=#[33] },37, "ref.go:44",#[ed_ 0],none⟩
def oz23_1_2:Oper:=⟨some 11,Op.call { callee:=Callee.builtin Go.Builtin.len,args:=#[Operand.tmp 10],argTypes:=#[37] },3, "ref.go:44",#[ed_ 1],none⟩
def oz23_1_3:Oper:=⟨some 12,Op.binOp Go.BinOp.geq 3 (Operand.tmp 11) (Operand.const (Value.int IntKind.i64 8)) 3,4, "ref.go:44",#[ed_ 2],none⟩
def Oz23_1:Array Oper:=List.toArray (oz23_1_0::oz23_1_1::oz23_1_2::oz23_1_3::[])
theorem gz23_1_0:Oz23_1[0]? = some oz23_1_0:=rfl
theorem gz23_1_1:Oz23_1[1]? = some oz23_1_1:=rfl
theorem gz23_1_2:Oz23_1[2]? = some oz23_1_2:=rfl
theorem gz23_1_3:Oz23_1[3]? = some oz23_1_3:=rfl
def cz23_4:Code:=Code.region 1 Oz23_1 false
def oz23_2_0:Oper:=⟨some 13,Op.move (Operand.tmp 0),33, "ref.go:45",#[],none⟩
def oz23_2_1:Oper:=⟨some 4,Op.assign (Operand.tmp 13),33, "ref.go:45",#[ed_ 0,ep_ 0],none⟩
def oz23_2_2:Oper:=⟨some 5,Op.assign (Operand.const (Value.int IntKind.i64 0)),3, "ref.go:45",#[ec_ 1,ep_ 0,ep_ 1],none⟩
def oz23_2_3:Oper:=⟨some 6,Op.assign (Operand.const (Value.int IntKind.i64 3)),3, "ref.go:45",#[ec_ 2,ep_ 0,ep_ 1,ep_ 2],none⟩
def Oz23_2:Array Oper:=List.toArray (oz23_2_0::oz23_2_1::oz23_2_2::oz23_2_3::[])
def cz23_7:Code:=Code.region 2 Oz23_2 false
def cz23_6:Code:=Code.seq cz23_7 Code.ret
def cz23_5:Code:=Code.cond (Operand.tmp 12) cz23_6 Code.skip
def cz23_3:Code:=Code.seq cz23_4 cz23_5
def oz23_3_0:Oper:=⟨some 14,Op.move (Operand.tmp 1),3, "ref.go:47",#[],none⟩
def oz23_3_1:Oper:=⟨some 15,Op.binOp Go.BinOp.lss 3 (Operand.tmp 14) (Operand.const (Value.int IntKind.i64 1)) 3,4, "ref.go:47",#[ed_ 0],none⟩
def Oz23_3:Array Oper:=List.toArray (oz23_3_0::oz23_3_1::[])
theorem gz23_3_0:Oz23_3[0]? = some oz23_3_0:=rfl
theorem gz23_3_1:Oz23_3[1]? = some oz23_3_1:=rfl
def cz23_12:Code:=Code.region 3 Oz23_3 false
def oz23_4_0:Oper:=⟨some 1,Op.assign (Operand.const (Value.int IntKind.i64 1)),3, "ref.go:48",#[],none⟩
def Oz23_4:Array Oper:=List.toArray (oz23_4_0::[])
theorem gz23_4_0:Oz23_4[0]? = some oz23_4_0:=rfl
def cz23_14:Code:=Code.region 4 Oz23_4 false
def cz23_13:Code:=Code.cond (Operand.tmp 15) cz23_14 Code.skip
def cz23_11:Code:=Code.seq cz23_12 cz23_13
def oz23_5_0:Oper:=⟨some 16,Op.move (Operand.tmp 1),3, "ref.go:50",#[],none⟩
def oz23_5_1:Oper:=⟨some 17,Op.binOp Go.BinOp.gtr 3 (Operand.tmp 16) (Operand.const (Value.int IntKind.i64 64)) 3,4, "ref.go:50",#[ed_ 0],none⟩
def Oz23_5:Array Oper:=List.toArray (oz23_5_0::oz23_5_1::[])
theorem gz23_5_0:Oz23_5[0]? = some oz23_5_0:=rfl
theorem gz23_5_1:Oz23_5[1]? = some oz23_5_1:=rfl
def cz23_18:Code:=Code.region 5 Oz23_5 false
def oz23_6_0:Oper:=⟨some 1,Op.assign (Operand.const (Value.int IntKind.i64 64)),3, "ref.go:51",#[],none⟩
def Oz23_6:Array Oper:=List.toArray (oz23_6_0::[])
theorem gz23_6_0:Oz23_6[0]? = some oz23_6_0:=rfl
def cz23_20:Code:=Code.region 6 Oz23_6 false
def cz23_19:Code:=Code.cond (Operand.tmp 17) cz23_20 Code.skip
def cz23_17:Code:=Code.seq cz23_18 cz23_19
def oz23_7_0:Oper:=⟨some 18,Op.buildSlice 33 0 #[],33, "ref.go:53",#[],none⟩
def oz23_7_1:Oper:=⟨some 7,Op.assign (Operand.tmp 18),33, "ref.go:53",#[ed_ 0,ep_ 0],none⟩
def Oz23_7:Array Oper:=List.toArray (oz23_7_0::oz23_7_1::[])
theorem gz23_7_0:Oz23_7[0]? = some oz23_7_0:=rfl
theorem gz23_7_1:Oz23_7[1]? = some oz23_7_1:=rfl
def cz23_23:Code:=Code.region 7 Oz23_7 false
def oz23_8_0:Oper:=⟨some 8,Op.assign (Operand.const (Value.int IntKind.i64 0)),3, "ref.go:54",#[],none⟩
def Oz23_8:Array Oper:=List.toArray (oz23_8_0::[])
theorem gz23_8_0:Oz23_8[0]? = some oz23_8_0:=rfl
def cz23_26:Code:=Code.region 8 Oz23_8 false
def oz23_9_0:Oper:=⟨some 19,Op.move (Operand.tmp 8),3, "ref.go:54",#[],none⟩
def oz23_9_1:Oper:=⟨some 20,Op.move (Operand.tmp 0),33, "ref.go:54",#[],none⟩
def oz23_9_2:Oper:=⟨some 21,Op.call { callee:=Callee.builtin Go.Builtin.len,args:=#[Operand.tmp 20],argTypes:=#[33] },3, "ref.go:54",#[ed_ 1],none⟩
def oz23_9_3:Oper:=⟨some 22,Op.binOp Go.BinOp.lss 3 (Operand.tmp 19) (Operand.tmp 21) 3,4, "ref.go:54",#[ed_ 0,ed_ 2],none⟩
def Oz23_9:Array Oper:=List.toArray (oz23_9_0::oz23_9_1::oz23_9_2::oz23_9_3::[])
theorem gz23_9_0:Oz23_9[0]? = some oz23_9_0:=rfl
theorem gz23_9_1:Oz23_9[1]? = some oz23_9_1:=rfl
theorem gz23_9_2:Oz23_9[2]? = some oz23_9_2:=rfl
theorem gz23_9_3:Oz23_9[3]? = some oz23_9_3:=rfl
def cz23_31:Code:=Code.region 9 Oz23_9 false
def cz23_34:Code:=Code.exit 0
def cz23_32:Code:=Code.cond (Operand.tmp 22) Code.skip cz23_34
def cz23_30:Code:=Code.seq cz23_31 cz23_32
def oz23_11_0:Oper:=⟨some 25,Op.move (Operand.tmp 7),33, "ref.go:55",#[],none⟩
def oz23_11_1:Oper:=⟨some 26,Op.move (Operand.tmp 0),33, "ref.go:55",#[],none⟩
def oz23_11_2:Oper:=⟨some 27,Op.move (Operand.tmp 8),3, "ref.go:55",#[],none⟩
def oz23_11_3:Oper:=⟨some 28,Op.indexAddr 33 (Operand.tmp 26) (Operand.tmp 27),0, "ref.go:55",#[ed_ 1,ed_ 2],none⟩
def oz23_11_4:Oper:=⟨some 29,Op.load 64 (Operand.tmp 28),64, "ref.go:55",#[ed_ 3],none⟩
def oz23_11_5:Oper:=⟨some 30,Op.buildSlice 33 1 #[(0,Operand.tmp 29)],33, "ref.go:55",#[ed_ 4],none⟩
def oz23_11_6:Oper:=⟨some 31,Op.call { callee:=Callee.builtin Go.Builtin.append,args:=#[Operand.tmp 25,Operand.tmp 30],argTypes:=#[33,33] },33, "ref.go:55",#[ed_ 0,ed_ 5],none⟩
def oz23_11_7:Oper:=⟨some 7,Op.assign (Operand.tmp 31),33, "ref.go:55",#[ed_ 6,ec_ 6,ep_ 0,ep_ 1,ep_ 2,ep_ 3,ep_ 4,ep_ 5,ep_ 6],none⟩
def Oz23_11:Array Oper:=List.toArray (oz23_11_0::oz23_11_1::oz23_11_2::oz23_11_3::oz23_11_4::oz23_11_5::oz23_11_6::oz23_11_7::[])
def cz23_37:Code:=Code.region 11 Oz23_11 false
def cz23_36:Code:=Code.block 1 cz23_37
def oz23_10_0:Oper:=⟨some 23,Op.move (Operand.tmp 8),3, "ref.go:54",#[],none⟩
def oz23_10_1:Oper:=⟨some 24,Op.binOp Go.BinOp.add 3 (Operand.tmp 23) (Operand.const (Value.int IntKind.i64 1)) 3,3, "ref.go:54",#[ed_ 0],none⟩
def oz23_10_2:Oper:=⟨some 8,Op.assign (Operand.tmp 24),3, "ref.go:54",#[ed_ 1,ep_ 0,ep_ 1],none⟩
def Oz23_10:Array Oper:=List.toArray (oz23_10_0::oz23_10_1::oz23_10_2::[])
def cz23_38:Code:=Code.region 10 Oz23_10 false
def cz23_35:Code:=Code.seq cz23_36 cz23_38
def cz23_29:Code:=Code.seq cz23_30 cz23_35
def cz23_28:Code:=Code.loop cz23_29
def cz23_27:Code:=Code.block 0 cz23_28
def cz23_25:Code:=Code.seq cz23_26 cz23_27
def oz23_12_0:Oper:=⟨some 32,Op.move (Operand.tmp 7),33, "ref.go:57",#[],none⟩
def oz23_12_1:Oper:=⟨some 33,Op.move (Operand.tmp 1),3, "ref.go:57",#[],none⟩
def oz23_12_2:Oper:=⟨some 34,Op.build 64 #[(0,Operand.const (Value.bool true)),(1,Operand.tmp 33)],64, "ref.go:57",#[ed_ 1],none⟩
def oz23_12_3:Oper:=⟨some 35,Op.buildSlice 33 1 #[(0,Operand.tmp 34)],33, "ref.go:57",#[ed_ 2],none⟩
def oz23_12_4:Oper:=⟨some 36,Op.call { callee:=Callee.builtin Go.Builtin.append,args:=#[Operand.tmp 32,Operand.tmp 35],argTypes:=#[33,33] },33, "ref.go:57",#[ed_ 0,ed_ 3],none⟩
def oz23_12_5:Oper:=⟨some 7,Op.assign (Operand.tmp 36),33, "ref.go:57",#[ed_ 4,ec_ 4,ep_ 0,ep_ 1,ep_ 2,ep_ 3,ep_ 4],none⟩
def Oz23_12:Array Oper:=List.toArray (oz23_12_0::oz23_12_1::oz23_12_2::oz23_12_3::oz23_12_4::oz23_12_5::[])
theorem gz23_12_0:Oz23_12[0]? = some oz23_12_0:=rfl
theorem gz23_12_1:Oz23_12[1]? = some oz23_12_1:=rfl
theorem gz23_12_2:Oz23_12[2]? = some oz23_12_2:=rfl
theorem gz23_12_3:Oz23_12[3]? = some oz23_12_3:=rfl
theorem gz23_12_4:Oz23_12[4]? = some oz23_12_4:=rfl
theorem gz23_12_5:Oz23_12[5]? = some oz23_12_5:=rfl
def cz23_40:Code:=Code.region 12 Oz23_12 false
def oz23_13_0:Oper:=⟨some 37,Op.move (Operand.tmp 7),33, "ref.go:58",#[],none⟩
def oz23_13_1:Oper:=⟨some 38,Op.move (Operand.tmp 7),33, "ref.go:58",#[],none⟩
def oz23_13_2:Oper:=⟨some 39,Op.call { callee:=Callee.builtin Go.Builtin.len,args:=#[Operand.tmp 38],argTypes:=#[33] },3, "ref.go:58",#[ed_ 1],none⟩
def oz23_13_3:Oper:=⟨some 4,Op.assign (Operand.tmp 37),33, "ref.go:58",#[ed_ 0,ep_ 0,{ on:=1,ground:=Go.Ground.textOnly Go.Departure.lateStores },{ on:=2,ground:=Go.Ground.textOnly Go.Departure.lateStoresUnsure }],none⟩
def oz23_13_4:Oper:=⟨some 5,Op.assign (Operand.tmp 39),3, "ref.go:58",#[ed_ 2,ec_ 3,ep_ 0,ep_ 1,ep_ 2,ep_ 3],none⟩
def oz23_13_5:Oper:=⟨some 6,Op.assign (Operand.const (Value.int IntKind.i64 0)),3, "ref.go:58",#[ec_ 4,ep_ 0,ep_ 1,ep_ 2,ep_ 3,ep_ 4],none⟩
def Oz23_13:Array Oper:=List.toArray (oz23_13_0::oz23_13_1::oz23_13_2::oz23_13_3::oz23_13_4::oz23_13_5::[])
theorem gz23_13_0:Oz23_13[0]? = some oz23_13_0:=rfl
theorem gz23_13_1:Oz23_13[1]? = some oz23_13_1:=rfl
theorem gz23_13_2:Oz23_13[2]? = some oz23_13_2:=rfl
theorem gz23_13_3:Oz23_13[3]? = some oz23_13_3:=rfl
theorem gz23_13_4:Oz23_13[4]? = some oz23_13_4:=rfl
theorem gz23_13_5:Oz23_13[5]? = some oz23_13_5:=rfl
def cz23_42:Code:=Code.region 13 Oz23_13 false
def cz23_41:Code:=Code.seq cz23_42 Code.ret
def cz23_39:Code:=Code.seq cz23_40 cz23_41
def cz23_24:Code:=Code.seq cz23_25 cz23_39
def cz23_22:Code:=Code.seq cz23_23 cz23_24
def cz23_16:Code:=Code.seq cz23_17 cz23_22
def cz23_10:Code:=Code.seq cz23_11 cz23_16
def cz23_2:Code:=Code.seq cz23_3 cz23_10
def cz23_0:Code:=Code.seq cz23_1 cz23_2
theorem enz23_1036:Enters Tryz.prog 36:=enters_of Tryz.func36 (by kernel_rfl) rfl
theorem bodyz23:Tryz.f23.body=some cz23_0:=by kernel_rfl
set_option maxRecDepth 100000 in
set_option maxHeartbeats 4000000 in
theorem rmake_w {W:World} {va:Option Addr} {vc:Nat} {mo:Int} {f0:Act} {w0:World} (R:FrS 40 f0) (h0:f0.tmps[0]? = some (.slice va 0 vc)) (h1:f0.tmps[1]? = some (.int .i64 mo)) (K1:Keep (fun g=>g < W.heap.size) W w0)  : cz23_0.wp Tryz.prog (bodyPost Tryz.prog Tryz.f23 (fun e w'=>(∃ a' c',e=.returned (.tuple #[.slice a' 1 c',.int .i64 1,.int .i64 0]))∧Keep (fun g=>g < W.heap.size) W w')) f0 w0:=by
 refine wp_seq (x:=cz23_1) (y:=cz23_2) ?_
 change (Code.region 0 Oz23_0 false).wp _ _ _ _
 refine reg_in (l:=[0,1,2]) rfl ?_
 have F:FE_ _ [] f0 f0:=⟨R,Ag_.refl _⟩;clear R
 have Y:(execOp f0.eval oz23_0_0).run Tryz.prog w0=.ok (.value (Value.slice none 0 0)) w0:=by unfold oz23_0_0;go_simp
 refine sv_ gz23_0_0 Y fun a101 e=>?_;clear Y
 have h4:=pt_ F e;replace F:=pu_ F e;clear e
 have Y:(execOp a101.eval oz23_0_1).run Tryz.prog w0=.ok (.value (.int .i64 0)) w0:=by unfold oz23_0_1;go_simp
 refine sv_ gz23_0_1 Y fun a102 e=>?_;clear Y
 have h5:=pt_ F e;replace F:=pu_ F e;replace h4:=so_ e h4;clear e
 have Y:(execOp a102.eval oz23_0_2).run Tryz.prog w0=.ok (.value (.int .i64 0)) w0:=by unfold oz23_0_2;go_simp
 refine sv_ gz23_0_2 Y fun a103 e=>?_;clear Y
 have h6:=pt_ F e;replace F:=pu_ F e;replace h4:=so_ e h4;replace h5:=so_ e h5;clear e
 refine st_end ?_
 replace h0:=F.of h0;replace h1:=F.of h1;have R:=F.r;clear F
 change (cz23_2).wp _ _ _ _
 refine wp_seq (x:=cz23_3) (y:=cz23_10) ?_
 refine wp_seq (x:=cz23_4) (y:=cz23_5) ?_
 change (Code.region 1 Oz23_1 false).wp _ _ _ _
 refine reg_in (l:=[0,1,2,3]) rfl ?_
 have F:FE_ _ [] a103 a103:=⟨R,Ag_.refl _⟩;clear R
 refine sv_ gz23_1_0 (ym_ rfl (F.of h0)) fun a104 e=>?_
 have h9:=pt_ F e;replace F:=pu_ F e;clear e
 refine st_call gz23_1_1 rfl (wanted_free rfl) (yc1_ enz23_1036 rfl h9) ((refQ0 w0 va vc).mono ?_)
 rintro e9 w105 ⟨⟨qa,qc,rfl⟩,kk⟩
 replace K1:=keep_onto K1 kk
 clear kk
 refine ⟨_,rfl,fun a106 e=>?_⟩
 clear h9;have h10:=pt_ F e;replace F:=pu_ F e;clear e
 have Y:(execOp a106.eval oz23_1_2).run Tryz.prog w105=.ok (.value (.int .i64 0)) w105:=by unfold oz23_1_2;go_simp
 refine sv_ gz23_1_2 Y fun a107 e=>?_;clear Y
 clear h10;have h11:=pt_ F e;replace F:=pu_ F e;clear e
 have Y:(execOp a107.eval oz23_1_3).run Tryz.prog w105=.ok (.value (.bool false)) w105:=by unfold oz23_1_3;go_simp
 refine sv_ gz23_1_3 Y fun a108 e=>?_;clear Y
 clear h11;have h12:=pt_ F e;replace F:=pu_ F e;clear e
 refine st_end ?_
 replace h0:=F.of h0;replace h1:=F.of h1;replace h4:=F.of h4;replace h5:=F.of h5;replace h6:=F.of h6;have R:=F.r;clear F
 change (cz23_5).wp _ _ _ _
 refine wp_cond_false (x:=cz23_6) (y:=Code.skip) (eval_slot h12) ?_
 refine wp_skip ?_
 change (cz23_10).wp _ _ _ _
 refine wp_seq (x:=cz23_11) (y:=cz23_16) ?_
 refine wp_seq (x:=cz23_12) (y:=cz23_13) ?_
 change (Code.region 3 Oz23_3 false).wp _ _ _ _
 refine reg_in (l:=[0,1]) rfl ?_
 have F:FE_ _ [] a108 a108:=⟨R,Ag_.refl _⟩;clear R
 refine sv_ gz23_3_0 (ym_ rfl (F.of h1)) fun a109 e=>?_
 have h14:=pt_ F e;replace F:=pu_ F e;clear e
 obtain ⟨b110,hb110⟩:∃ x,(decide ((mo:Int) < (1:Int)))=x:=⟨_,rfl⟩
 have Y:(execOp a109.eval oz23_3_1).run Tryz.prog w105=.ok (.value (.bool b110)) w105:=by rw [← hb110];unfold oz23_3_1;go_simp
 refine sv_ gz23_3_1 Y fun a111 e=>?_;clear Y
 clear h14;have h15:=pt_ F e;replace F:=pu_ F e;clear e
 refine st_end ?_
 replace h0:=F.of h0;replace h1:=F.of h1;replace h4:=F.of h4;replace h5:=F.of h5;replace h6:=F.of h6;clear h12;have R:=F.r;clear F
 change (cz23_13).wp _ _ _ _
 cases b110 with
 | false =>
  have fb110:=hb110;clear hb110
  simp only [decide_eq_true_eq,decide_eq_false_iff_not,bne_iff_ne,bne_eq_false_iff_eq,beq_iff_eq,beq_eq_false_iff_ne,ne_eq,Bool.not_eq_true',Bool.not_eq_false',Bool.not_eq_eq_eq_not,Bool.not_true,Bool.not_false] at fb110
  refine wp_cond_false (x:=cz23_14) (y:=Code.skip) (eval_slot h15) ?_
  refine wp_skip ?_
  change (cz23_16).wp _ _ _ _
  refine wp_seq (x:=cz23_17) (y:=cz23_22) ?_
  refine wp_seq (x:=cz23_18) (y:=cz23_19) ?_
  change (Code.region 5 Oz23_5 false).wp _ _ _ _
  refine reg_in (l:=[0,1]) rfl ?_
  have F:FE_ _ [] a111 a111:=⟨R,Ag_.refl _⟩;clear R
  refine sv_ gz23_5_0 (ym_ rfl (F.of h1)) fun a112 e=>?_
  have h16:=pt_ F e;replace F:=pu_ F e;clear e
  obtain ⟨b113,hb113⟩:∃ x,(decide ((64:Int) < (mo:Int)))=x:=⟨_,rfl⟩
  have Y:(execOp a112.eval oz23_5_1).run Tryz.prog w105=.ok (.value (.bool b113)) w105:=by rw [← hb113];unfold oz23_5_1;go_simp
  refine sv_ gz23_5_1 Y fun a114 e=>?_;clear Y
  clear h16;have h17:=pt_ F e;replace F:=pu_ F e;clear e
  refine st_end ?_
  replace h0:=F.of h0;replace h1:=F.of h1;replace h4:=F.of h4;replace h5:=F.of h5;replace h6:=F.of h6;clear h15;have R:=F.r;clear F
  change (cz23_19).wp _ _ _ _
  cases b113 with
  | false =>
   have fb113:=hb113;clear hb113
   simp only [decide_eq_true_eq,decide_eq_false_iff_not,bne_iff_ne,bne_eq_false_iff_eq,beq_iff_eq,beq_eq_false_iff_ne,ne_eq,Bool.not_eq_true',Bool.not_eq_false',Bool.not_eq_eq_eq_not,Bool.not_true,Bool.not_false] at fb113
   refine wp_cond_false (x:=cz23_20) (y:=Code.skip) (eval_slot h17) ?_
   refine wp_skip ?_
   change (cz23_22).wp _ _ _ _
   refine wp_seq (x:=cz23_23) (y:=cz23_24) ?_
   change (Code.region 7 Oz23_7 false).wp _ _ _ _
   refine reg_in (l:=[0,1]) rfl ?_
   have F:FE_ _ [] a114 a114:=⟨R,Ag_.refl _⟩;clear R
   have Y:(execOp a114.eval oz23_7_0).run Tryz.prog w105=.ok (.value (.slice (some ⟨w105.heap.size,0,none⟩) 0 0)) (w105.alloc (.cells #[] 64)):=by unfold oz23_7_0;go_simp
   have B115:=Blk.new w105 64 #[]
   obtain ⟨w116,hw⟩:∃ x,x=w105.alloc (.cells #[] 64):=⟨_,rfl⟩;rw [← hw] at Y B115
   obtain ⟨b115,hb⟩:∃ x,x=w105.heap.size:=⟨_,rfl⟩;rw [← hb] at Y B115
   have LK1_b115:=lk_ hb K1;replace K1:=ka_ hw K1;clear hw hb
   refine sv_ gz23_7_0 Y fun a117 e=>?_;clear Y
   have h18:=pt_ F e;replace F:=pu_ F e;clear e
   refine sv_ gz23_7_1 (ya_ rfl h18) fun a118 e=>?_
   clear h18;have h7:=pt_ F e;replace F:=pu_ F e;clear e
   refine st_end ?_
   replace h0:=F.of h0;replace h1:=F.of h1;replace h4:=F.of h4;replace h5:=F.of h5;replace h6:=F.of h6;clear h17;have R:=F.r;clear F
   change (cz23_24).wp _ _ _ _
   refine wp_seq (x:=cz23_25) (y:=cz23_39) ?_
   refine wp_seq (x:=cz23_26) (y:=cz23_27) ?_
   change (Code.region 8 Oz23_8 false).wp _ _ _ _
   refine reg_in (l:=[0]) rfl ?_
   have F:FE_ _ [] a118 a118:=⟨R,Ag_.refl _⟩;clear R
   have Y:(execOp a118.eval oz23_8_0).run Tryz.prog w116=.ok (.value (.int .i64 0)) w116:=by unfold oz23_8_0;go_simp
   refine sv_ gz23_8_0 Y fun a119 e=>?_;clear Y
   have h8:=pt_ F e;replace F:=pu_ F e;clear e
   refine st_end ?_
   replace h0:=F.of h0;replace h1:=F.of h1;replace h4:=F.of h4;replace h5:=F.of h5;replace h6:=F.of h6;replace h7:=F.of h7;have R:=F.r;clear F
   change (cz23_27).wp _ _ _ _
   refine wp_block (id:=0) (c:=cz23_28) ?_
   refine wp_loop_ghost (c:=cz23_29) (fun n fX wX=>n=0∧FrS 40 fX∧fX.tmps[0]? = some (.slice va 0 vc)∧fX.tmps[1]? = some (.int .i64 mo)∧fX.tmps[4]? = some (Value.slice none 0 0)∧fX.tmps[5]? = some (.int .i64 0)∧fX.tmps[6]? = some (.int .i64 0)∧fX.tmps[7]? = some (.slice (some ⟨b115,0,none⟩) 0 0)∧fX.tmps[8]? = some (.int .i64 0)∧Keep (fun g=>g < W.heap.size) W wX∧Blk wX b115 64 #[]) 0 ⟨rfl,R,h0,h1,h4,h5,h6,h7,h8,K1,B115⟩ ?_
   clear R h0 h1 h4 h5 h6 h7 h8 K1 B115
   rintro n122 a120 w121 ⟨rfl,R,h0,h1,h4,h5,h6,h7,h8,K1,B115⟩
   refine wp_seq (x:=cz23_30) (y:=cz23_35) ?_
   refine wp_seq (x:=cz23_31) (y:=cz23_32) ?_
   change (Code.region 9 Oz23_9 false).wp _ _ _ _
   refine reg_in (l:=[0,1,2,3]) rfl ?_
   have F:FE_ _ [] a120 a120:=⟨R,Ag_.refl _⟩;clear R
   refine sv_ gz23_9_0 (ym_ rfl (F.of h8)) fun a123 e=>?_
   have h19:=pt_ F e;replace F:=pu_ F e;clear e
   refine sv_ gz23_9_1 (ym_ rfl (F.of h0)) fun a124 e=>?_
   have h20:=pt_ F e;replace F:=pu_ F e;replace h19:=so_ e h19;clear e
   have Y:(execOp a124.eval oz23_9_2).run Tryz.prog w121=.ok (.value (.int .i64 0)) w121:=by unfold oz23_9_2;go_simp
   refine sv_ gz23_9_2 Y fun a125 e=>?_;clear Y
   have h21:=pt_ F e;replace F:=pu_ F e;replace h19:=so_ e h19;replace h20:=so_ e h20;clear e
   have Y:(execOp a125.eval oz23_9_3).run Tryz.prog w121=.ok (.value (.bool false)) w121:=by unfold oz23_9_3;go_simp
   refine sv_ gz23_9_3 Y fun a126 e=>?_;clear Y
   have h22:=pt_ F e;replace F:=pu_ F e;replace h19:=so_ e h19;replace h20:=so_ e h20;replace h21:=so_ e h21;clear e
   refine st_end ?_
   replace h0:=F.of h0;replace h1:=F.of h1;replace h4:=F.of h4;replace h5:=F.of h5;replace h6:=F.of h6;replace h7:=F.of h7;replace h8:=F.of h8;have R:=F.r;clear F
   change (cz23_32).wp _ _ _ _
   refine wp_cond_false (x:=Code.skip) (y:=cz23_34) (eval_slot h22) ?_
   refine wp_exit ?_
   change (cz23_39).wp _ _ _ _
   refine wp_seq (x:=cz23_40) (y:=cz23_41) ?_
   change (Code.region 12 Oz23_12 false).wp _ _ _ _
   refine reg_in (l:=[0,1,2,3,4,5]) rfl ?_
   have F:FE_ _ [] a126 a126:=⟨R,Ag_.refl _⟩;clear R
   refine sv_ gz23_12_0 (ym_ rfl (F.of h7)) fun a127 e=>?_
   have h32:=pt_ F e;replace F:=pu_ F e;clear e
   refine sv_ gz23_12_1 (ym_ rfl (F.of h1)) fun a128 e=>?_
   have h33:=pt_ F e;replace F:=pu_ F e;replace h32:=so_ e h32;clear e
   have Y:(execOp a128.eval oz23_12_2).run Tryz.prog w121=.ok (.value (.agg #[.bool true,.int .i64 mo,.slice none 0 0])) w121:=by unfold oz23_12_2;go_simp
   refine sv_ gz23_12_2 Y fun a129 e=>?_;clear Y
   clear h33;have h34:=pt_ F e;replace F:=pu_ F e;replace h32:=so_ e h32;clear e
   have Y:(execOp a129.eval oz23_12_3).run Tryz.prog w121=.ok (.value (.slice (some ⟨w121.heap.size,0,none⟩) 1 1)) (w121.alloc (.cells #[.bool true,.int .i64 mo,.slice none 0 0] 64)):=by unfold oz23_12_3;go_simp
   have B130:=Blk.new w121 64 #[.bool true,.int .i64 mo,.slice none 0 0]
   obtain ⟨w131,hw⟩:∃ x,x=w121.alloc (.cells #[.bool true,.int .i64 mo,.slice none 0 0] 64):=⟨_,rfl⟩;rw [← hw] at Y B130
   obtain ⟨b130,hb⟩:∃ x,x=w121.heap.size:=⟨_,rfl⟩;rw [← hb] at Y B130
   have Nb115_b130:=nb_ hb B115;replace B115:=ba_ hw B115;have LK1_b130:=lk_ hb K1;replace K1:=ka_ hw K1;clear hw hb
   refine sv_ gz23_12_3 Y fun a132 e=>?_;clear Y
   clear h34;have h35:=pt_ F e;replace F:=pu_ F e;replace h32:=so_ e h32;clear e
   obtain ⟨a8,c8,w8,hap,kap⟩:=push_qu (c2:=1) (ty:=oz23_12_4.type) B115 B130
   have Y:(execOp a132.eval oz23_12_4).run Tryz.prog w131=.ok (.value (.slice a8 1 c8)) w8:=by
    unfold oz23_12_4 at hap ⊢;unfold execOp;simp only [resolve,invoke,builtin,Sem.run_bind,Sem.run_pure,Result.andThen_ok,List.map_toArray,List.map_cons,List.map_nil,eval_slot h32,eval_slot h35];rw [hap];rfl
   replace K1:=K1.trans (kap.less fun g hg=>Nat.lt_of_lt_of_le hg LK1_b115);clear hap kap
   clear B115
   clear B130
   refine sv_ gz23_12_4 Y fun a133 e=>?_;clear Y
   clear h32 h35;have h36:=pt_ F e;replace F:=pu_ F e;clear e
   refine sv_ gz23_12_5 (ya_ rfl h36) fun a134 e=>?_
   clear h36 h7;have h7:=pt_ F e;replace F:=pu_ F e;clear e
   refine st_end ?_
   replace h0:=F.of h0;clear h1;replace h4:=F.of h4;replace h5:=F.of h5;replace h6:=F.of h6;replace h8:=F.of h8;replace h19:=F.of h19;replace h20:=F.of h20;replace h21:=F.of h21;replace h22:=F.of h22;have R:=F.r;clear F
   change (cz23_41).wp _ _ _ _
   refine wp_seq (x:=cz23_42) (y:=Code.ret) ?_
   change (Code.region 13 Oz23_13 false).wp _ _ _ _
   refine reg_in (l:=[0,1,2,3,4,5]) rfl ?_
   have F:FE_ _ [] a134 a134:=⟨R,Ag_.refl _⟩;clear R
   refine sv_ gz23_13_0 (ym_ rfl (F.of h7)) fun a135 e=>?_
   have h37:=pt_ F e;replace F:=pu_ F e;clear e
   refine sv_ gz23_13_1 (ym_ rfl (F.of h7)) fun a136 e=>?_
   have h38:=pt_ F e;replace F:=pu_ F e;replace h37:=so_ e h37;clear e
   have Y:(execOp a136.eval oz23_13_2).run Tryz.prog w8=.ok (.value (.int .i64 1)) w8:=by unfold oz23_13_2;go_simp
   refine sv_ gz23_13_2 Y fun a137 e=>?_;clear Y
   clear h38;have h39:=pt_ F e;replace F:=pu_ F e;replace h37:=so_ e h37;clear e
   refine sv_ gz23_13_3 (ya_ rfl h37) fun a138 e=>?_
   clear h37 h4;have h4:=pt_ F e;replace F:=pu_ F e;replace h39:=so_ e h39;clear e
   refine sv_ gz23_13_4 (ya_ rfl h39) fun a139 e=>?_
   clear h39 h5;have h5:=pt_ F e;replace F:=pu_ F e;replace h4:=so_ e h4;clear e
   have Y:(execOp a139.eval oz23_13_5).run Tryz.prog w8=.ok (.value (.int .i64 0)) w8:=by unfold oz23_13_5;go_simp
   refine sv_ gz23_13_5 Y fun a140 e=>?_;clear Y
   clear h6;have h6:=pt_ F e;replace F:=pu_ F e;replace h4:=so_ e h4;replace h5:=so_ e h5;clear e
   refine st_end ?_
   replace h0:=F.of h0;replace h7:=F.of h7;replace h8:=F.of h8;replace h19:=F.of h19;replace h20:=F.of h20;replace h21:=F.of h21;replace h22:=F.of h22;have R:=F.r;clear F
   change (Code.ret).wp _ _ _ _
   refine wp_ret ?_
   change bodyPost Tryz.prog Tryz.f23 (fun e w'=>(∃ a' c',e=.returned (.tuple #[.slice a' 1 c',.int .i64 1,.int .i64 0]))∧Keep (fun g=>g < W.heap.size) W w') .ret a140 w8
   refine ret_el3 rfl R.defers h4 h5 h6 ?_
   exact ⟨⟨_,_,rfl⟩,K1⟩
  | true =>
   have fb113:=hb113;clear hb113
   simp only [decide_eq_true_eq,decide_eq_false_iff_not,bne_iff_ne,bne_eq_false_iff_eq,beq_iff_eq,beq_eq_false_iff_ne,ne_eq,Bool.not_eq_true',Bool.not_eq_false',Bool.not_eq_eq_eq_not,Bool.not_true,Bool.not_false] at fb113
   refine wp_cond_true (x:=cz23_20) (y:=Code.skip) (eval_slot h17) ?_
   change (Code.region 6 Oz23_6 false).wp _ _ _ _
   refine reg_in (l:=[0]) rfl ?_
   have F:FE_ _ [] a114 a114:=⟨R,Ag_.refl _⟩;clear R
   have Y:(execOp a114.eval oz23_6_0).run Tryz.prog w105=.ok (.value (.int .i64 64)) w105:=by unfold oz23_6_0;go_simp
   refine sv_ gz23_6_0 Y fun a141 e=>?_;clear Y
   clear h1;have h1:=pt_ F e;replace F:=pu_ F e;clear e
   refine st_end ?_
   replace h0:=F.of h0;replace h4:=F.of h4;replace h5:=F.of h5;replace h6:=F.of h6;clear h17;have R:=F.r;clear F
   change (cz23_22).wp _ _ _ _
   refine wp_seq (x:=cz23_23) (y:=cz23_24) ?_
   change (Code.region 7 Oz23_7 false).wp _ _ _ _
   refine reg_in (l:=[0,1]) rfl ?_
   have F:FE_ _ [] a141 a141:=⟨R,Ag_.refl _⟩;clear R
   have Y:(execOp a141.eval oz23_7_0).run Tryz.prog w105=.ok (.value (.slice (some ⟨w105.heap.size,0,none⟩) 0 0)) (w105.alloc (.cells #[] 64)):=by unfold oz23_7_0;go_simp
   have B142:=Blk.new w105 64 #[]
   obtain ⟨w143,hw⟩:∃ x,x=w105.alloc (.cells #[] 64):=⟨_,rfl⟩;rw [← hw] at Y B142
   obtain ⟨b142,hb⟩:∃ x,x=w105.heap.size:=⟨_,rfl⟩;rw [← hb] at Y B142
   have LK1_b142:=lk_ hb K1;replace K1:=ka_ hw K1;clear hw hb
   refine sv_ gz23_7_0 Y fun a144 e=>?_;clear Y
   have h18:=pt_ F e;replace F:=pu_ F e;clear e
   refine sv_ gz23_7_1 (ya_ rfl h18) fun a145 e=>?_
   clear h18;have h7:=pt_ F e;replace F:=pu_ F e;clear e
   refine st_end ?_
   replace h0:=F.of h0;replace h1:=F.of h1;replace h4:=F.of h4;replace h5:=F.of h5;replace h6:=F.of h6;have R:=F.r;clear F
   change (cz23_24).wp _ _ _ _
   refine wp_seq (x:=cz23_25) (y:=cz23_39) ?_
   refine wp_seq (x:=cz23_26) (y:=cz23_27) ?_
   change (Code.region 8 Oz23_8 false).wp _ _ _ _
   refine reg_in (l:=[0]) rfl ?_
   have F:FE_ _ [] a145 a145:=⟨R,Ag_.refl _⟩;clear R
   have Y:(execOp a145.eval oz23_8_0).run Tryz.prog w143=.ok (.value (.int .i64 0)) w143:=by unfold oz23_8_0;go_simp
   refine sv_ gz23_8_0 Y fun a146 e=>?_;clear Y
   have h8:=pt_ F e;replace F:=pu_ F e;clear e
   refine st_end ?_
   replace h0:=F.of h0;replace h1:=F.of h1;replace h4:=F.of h4;replace h5:=F.of h5;replace h6:=F.of h6;replace h7:=F.of h7;have R:=F.r;clear F
   change (cz23_27).wp _ _ _ _
   refine wp_block (id:=0) (c:=cz23_28) ?_
   refine wp_loop_ghost (c:=cz23_29) (fun n fX wX=>n=0∧FrS 40 fX∧fX.tmps[0]? = some (.slice va 0 vc)∧fX.tmps[1]? = some (.int .i64 64)∧fX.tmps[4]? = some (Value.slice none 0 0)∧fX.tmps[5]? = some (.int .i64 0)∧fX.tmps[6]? = some (.int .i64 0)∧fX.tmps[7]? = some (.slice (some ⟨b142,0,none⟩) 0 0)∧fX.tmps[8]? = some (.int .i64 0)∧Keep (fun g=>g < W.heap.size) W wX∧Blk wX b142 64 #[]) 0 ⟨rfl,R,h0,h1,h4,h5,h6,h7,h8,K1,B142⟩ ?_
   clear R h0 h1 h4 h5 h6 h7 h8 K1 B142
   rintro n149 a147 w148 ⟨rfl,R,h0,h1,h4,h5,h6,h7,h8,K1,B142⟩
   refine wp_seq (x:=cz23_30) (y:=cz23_35) ?_
   refine wp_seq (x:=cz23_31) (y:=cz23_32) ?_
   change (Code.region 9 Oz23_9 false).wp _ _ _ _
   refine reg_in (l:=[0,1,2,3]) rfl ?_
   have F:FE_ _ [] a147 a147:=⟨R,Ag_.refl _⟩;clear R
   refine sv_ gz23_9_0 (ym_ rfl (F.of h8)) fun a150 e=>?_
   have h19:=pt_ F e;replace F:=pu_ F e;clear e
   refine sv_ gz23_9_1 (ym_ rfl (F.of h0)) fun a151 e=>?_
   have h20:=pt_ F e;replace F:=pu_ F e;replace h19:=so_ e h19;clear e
   have Y:(execOp a151.eval oz23_9_2).run Tryz.prog w148=.ok (.value (.int .i64 0)) w148:=by unfold oz23_9_2;go_simp
   refine sv_ gz23_9_2 Y fun a152 e=>?_;clear Y
   have h21:=pt_ F e;replace F:=pu_ F e;replace h19:=so_ e h19;replace h20:=so_ e h20;clear e
   have Y:(execOp a152.eval oz23_9_3).run Tryz.prog w148=.ok (.value (.bool false)) w148:=by unfold oz23_9_3;go_simp
   refine sv_ gz23_9_3 Y fun a153 e=>?_;clear Y
   have h22:=pt_ F e;replace F:=pu_ F e;replace h19:=so_ e h19;replace h20:=so_ e h20;replace h21:=so_ e h21;clear e
   refine st_end ?_
   replace h0:=F.of h0;replace h1:=F.of h1;replace h4:=F.of h4;replace h5:=F.of h5;replace h6:=F.of h6;replace h7:=F.of h7;replace h8:=F.of h8;have R:=F.r;clear F
   change (cz23_32).wp _ _ _ _
   refine wp_cond_false (x:=Code.skip) (y:=cz23_34) (eval_slot h22) ?_
   refine wp_exit ?_
   change (cz23_39).wp _ _ _ _
   refine wp_seq (x:=cz23_40) (y:=cz23_41) ?_
   change (Code.region 12 Oz23_12 false).wp _ _ _ _
   refine reg_in (l:=[0,1,2,3,4,5]) rfl ?_
   have F:FE_ _ [] a153 a153:=⟨R,Ag_.refl _⟩;clear R
   refine sv_ gz23_12_0 (ym_ rfl (F.of h7)) fun a154 e=>?_
   have h32:=pt_ F e;replace F:=pu_ F e;clear e
   refine sv_ gz23_12_1 (ym_ rfl (F.of h1)) fun a155 e=>?_
   have h33:=pt_ F e;replace F:=pu_ F e;replace h32:=so_ e h32;clear e
   have Y:(execOp a155.eval oz23_12_2).run Tryz.prog w148=.ok (.value (.agg #[.bool true,.int .i64 64,.slice none 0 0])) w148:=by unfold oz23_12_2;go_simp
   refine sv_ gz23_12_2 Y fun a156 e=>?_;clear Y
   clear h33;have h34:=pt_ F e;replace F:=pu_ F e;replace h32:=so_ e h32;clear e
   have Y:(execOp a156.eval oz23_12_3).run Tryz.prog w148=.ok (.value (.slice (some ⟨w148.heap.size,0,none⟩) 1 1)) (w148.alloc (.cells #[.bool true,.int .i64 64,.slice none 0 0] 64)):=by unfold oz23_12_3;go_simp
   have B157:=Blk.new w148 64 #[.bool true,.int .i64 64,.slice none 0 0]
   obtain ⟨w158,hw⟩:∃ x,x=w148.alloc (.cells #[.bool true,.int .i64 64,.slice none 0 0] 64):=⟨_,rfl⟩;rw [← hw] at Y B157
   obtain ⟨b157,hb⟩:∃ x,x=w148.heap.size:=⟨_,rfl⟩;rw [← hb] at Y B157
   have Nb142_b157:=nb_ hb B142;replace B142:=ba_ hw B142;have LK1_b157:=lk_ hb K1;replace K1:=ka_ hw K1;clear hw hb
   refine sv_ gz23_12_3 Y fun a159 e=>?_;clear Y
   clear h34;have h35:=pt_ F e;replace F:=pu_ F e;replace h32:=so_ e h32;clear e
   obtain ⟨a8,c8,w8,hap,kap⟩:=push_qu (c2:=1) (ty:=oz23_12_4.type) B142 B157
   have Y:(execOp a159.eval oz23_12_4).run Tryz.prog w158=.ok (.value (.slice a8 1 c8)) w8:=by
    unfold oz23_12_4 at hap ⊢;unfold execOp;simp only [resolve,invoke,builtin,Sem.run_bind,Sem.run_pure,Result.andThen_ok,List.map_toArray,List.map_cons,List.map_nil,eval_slot h32,eval_slot h35];rw [hap];rfl
   replace K1:=K1.trans (kap.less fun g hg=>Nat.lt_of_lt_of_le hg LK1_b142);clear hap kap
   clear B142
   clear B157
   refine sv_ gz23_12_4 Y fun a160 e=>?_;clear Y
   clear h32 h35;have h36:=pt_ F e;replace F:=pu_ F e;clear e
   refine sv_ gz23_12_5 (ya_ rfl h36) fun a161 e=>?_
   clear h36 h7;have h7:=pt_ F e;replace F:=pu_ F e;clear e
   refine st_end ?_
   replace h0:=F.of h0;clear h1;replace h4:=F.of h4;replace h5:=F.of h5;replace h6:=F.of h6;replace h8:=F.of h8;replace h19:=F.of h19;replace h20:=F.of h20;replace h21:=F.of h21;replace h22:=F.of h22;have R:=F.r;clear F
   change (cz23_41).wp _ _ _ _
   refine wp_seq (x:=cz23_42) (y:=Code.ret) ?_
   change (Code.region 13 Oz23_13 false).wp _ _ _ _
   refine reg_in (l:=[0,1,2,3,4,5]) rfl ?_
   have F:FE_ _ [] a161 a161:=⟨R,Ag_.refl _⟩;clear R
   refine sv_ gz23_13_0 (ym_ rfl (F.of h7)) fun a162 e=>?_
   have h37:=pt_ F e;replace F:=pu_ F e;clear e
   refine sv_ gz23_13_1 (ym_ rfl (F.of h7)) fun a163 e=>?_
   have h38:=pt_ F e;replace F:=pu_ F e;replace h37:=so_ e h37;clear e
   have Y:(execOp a163.eval oz23_13_2).run Tryz.prog w8=.ok (.value (.int .i64 1)) w8:=by unfold oz23_13_2;go_simp
   refine sv_ gz23_13_2 Y fun a164 e=>?_;clear Y
   clear h38;have h39:=pt_ F e;replace F:=pu_ F e;replace h37:=so_ e h37;clear e
   refine sv_ gz23_13_3 (ya_ rfl h37) fun a165 e=>?_
   clear h37 h4;have h4:=pt_ F e;replace F:=pu_ F e;replace h39:=so_ e h39;clear e
   refine sv_ gz23_13_4 (ya_ rfl h39) fun a166 e=>?_
   clear h39 h5;have h5:=pt_ F e;replace F:=pu_ F e;replace h4:=so_ e h4;clear e
   have Y:(execOp a166.eval oz23_13_5).run Tryz.prog w8=.ok (.value (.int .i64 0)) w8:=by unfold oz23_13_5;go_simp
   refine sv_ gz23_13_5 Y fun a167 e=>?_;clear Y
   clear h6;have h6:=pt_ F e;replace F:=pu_ F e;replace h4:=so_ e h4;replace h5:=so_ e h5;clear e
   refine st_end ?_
   replace h0:=F.of h0;replace h7:=F.of h7;replace h8:=F.of h8;replace h19:=F.of h19;replace h20:=F.of h20;replace h21:=F.of h21;replace h22:=F.of h22;have R:=F.r;clear F
   change (Code.ret).wp _ _ _ _
   refine wp_ret ?_
   change bodyPost Tryz.prog Tryz.f23 (fun e w'=>(∃ a' c',e=.returned (.tuple #[.slice a' 1 c',.int .i64 1,.int .i64 0]))∧Keep (fun g=>g < W.heap.size) W w') .ret a167 w8
   refine ret_el3 rfl R.defers h4 h5 h6 ?_
   exact ⟨⟨_,_,rfl⟩,K1⟩
 | true =>
  have fb110:=hb110;clear hb110
  simp only [decide_eq_true_eq,decide_eq_false_iff_not,bne_iff_ne,bne_eq_false_iff_eq,beq_iff_eq,beq_eq_false_iff_ne,ne_eq,Bool.not_eq_true',Bool.not_eq_false',Bool.not_eq_eq_eq_not,Bool.not_true,Bool.not_false] at fb110
  refine wp_cond_true (x:=cz23_14) (y:=Code.skip) (eval_slot h15) ?_
  change (Code.region 4 Oz23_4 false).wp _ _ _ _
  refine reg_in (l:=[0]) rfl ?_
  have F:FE_ _ [] a111 a111:=⟨R,Ag_.refl _⟩;clear R
  have Y:(execOp a111.eval oz23_4_0).run Tryz.prog w105=.ok (.value (.int .i64 1)) w105:=by unfold oz23_4_0;go_simp
  refine sv_ gz23_4_0 Y fun a168 e=>?_;clear Y
  clear h1;have h1:=pt_ F e;replace F:=pu_ F e;clear e
  refine st_end ?_
  replace h0:=F.of h0;replace h4:=F.of h4;replace h5:=F.of h5;replace h6:=F.of h6;clear h15;have R:=F.r;clear F
  change (cz23_16).wp _ _ _ _
  refine wp_seq (x:=cz23_17) (y:=cz23_22) ?_
  refine wp_seq (x:=cz23_18) (y:=cz23_19) ?_
  change (Code.region 5 Oz23_5 false).wp _ _ _ _
  refine reg_in (l:=[0,1]) rfl ?_
  have F:FE_ _ [] a168 a168:=⟨R,Ag_.refl _⟩;clear R
  refine sv_ gz23_5_0 (ym_ rfl (F.of h1)) fun a169 e=>?_
  have h16:=pt_ F e;replace F:=pu_ F e;clear e
  have Y:(execOp a169.eval oz23_5_1).run Tryz.prog w105=.ok (.value (.bool false)) w105:=by unfold oz23_5_1;go_simp
  refine sv_ gz23_5_1 Y fun a170 e=>?_;clear Y
  clear h16;have h17:=pt_ F e;replace F:=pu_ F e;clear e
  refine st_end ?_
  replace h0:=F.of h0;replace h1:=F.of h1;replace h4:=F.of h4;replace h5:=F.of h5;replace h6:=F.of h6;have R:=F.r;clear F
  change (cz23_19).wp _ _ _ _
  refine wp_cond_false (x:=cz23_20) (y:=Code.skip) (eval_slot h17) ?_
  refine wp_skip ?_
  change (cz23_22).wp _ _ _ _
  refine wp_seq (x:=cz23_23) (y:=cz23_24) ?_
  change (Code.region 7 Oz23_7 false).wp _ _ _ _
  refine reg_in (l:=[0,1]) rfl ?_
  have F:FE_ _ [] a170 a170:=⟨R,Ag_.refl _⟩;clear R
  have Y:(execOp a170.eval oz23_7_0).run Tryz.prog w105=.ok (.value (.slice (some ⟨w105.heap.size,0,none⟩) 0 0)) (w105.alloc (.cells #[] 64)):=by unfold oz23_7_0;go_simp
  have B171:=Blk.new w105 64 #[]
  obtain ⟨w172,hw⟩:∃ x,x=w105.alloc (.cells #[] 64):=⟨_,rfl⟩;rw [← hw] at Y B171
  obtain ⟨b171,hb⟩:∃ x,x=w105.heap.size:=⟨_,rfl⟩;rw [← hb] at Y B171
  have LK1_b171:=lk_ hb K1;replace K1:=ka_ hw K1;clear hw hb
  refine sv_ gz23_7_0 Y fun a173 e=>?_;clear Y
  have h18:=pt_ F e;replace F:=pu_ F e;clear e
  refine sv_ gz23_7_1 (ya_ rfl h18) fun a174 e=>?_
  clear h18;have h7:=pt_ F e;replace F:=pu_ F e;clear e
  refine st_end ?_
  replace h0:=F.of h0;replace h1:=F.of h1;replace h4:=F.of h4;replace h5:=F.of h5;replace h6:=F.of h6;clear h17;have R:=F.r;clear F
  change (cz23_24).wp _ _ _ _
  refine wp_seq (x:=cz23_25) (y:=cz23_39) ?_
  refine wp_seq (x:=cz23_26) (y:=cz23_27) ?_
  change (Code.region 8 Oz23_8 false).wp _ _ _ _
  refine reg_in (l:=[0]) rfl ?_
  have F:FE_ _ [] a174 a174:=⟨R,Ag_.refl _⟩;clear R
  have Y:(execOp a174.eval oz23_8_0).run Tryz.prog w172=.ok (.value (.int .i64 0)) w172:=by unfold oz23_8_0;go_simp
  refine sv_ gz23_8_0 Y fun a175 e=>?_;clear Y
  have h8:=pt_ F e;replace F:=pu_ F e;clear e
  refine st_end ?_
  replace h0:=F.of h0;replace h1:=F.of h1;replace h4:=F.of h4;replace h5:=F.of h5;replace h6:=F.of h6;replace h7:=F.of h7;have R:=F.r;clear F
  change (cz23_27).wp _ _ _ _
  refine wp_block (id:=0) (c:=cz23_28) ?_
  refine wp_loop_ghost (c:=cz23_29) (fun n fX wX=>n=0∧FrS 40 fX∧fX.tmps[0]? = some (.slice va 0 vc)∧fX.tmps[1]? = some (.int .i64 1)∧fX.tmps[4]? = some (Value.slice none 0 0)∧fX.tmps[5]? = some (.int .i64 0)∧fX.tmps[6]? = some (.int .i64 0)∧fX.tmps[7]? = some (.slice (some ⟨b171,0,none⟩) 0 0)∧fX.tmps[8]? = some (.int .i64 0)∧Keep (fun g=>g < W.heap.size) W wX∧Blk wX b171 64 #[]) 0 ⟨rfl,R,h0,h1,h4,h5,h6,h7,h8,K1,B171⟩ ?_
  clear R h0 h1 h4 h5 h6 h7 h8 K1 B171
  rintro n178 a176 w177 ⟨rfl,R,h0,h1,h4,h5,h6,h7,h8,K1,B171⟩
  refine wp_seq (x:=cz23_30) (y:=cz23_35) ?_
  refine wp_seq (x:=cz23_31) (y:=cz23_32) ?_
  change (Code.region 9 Oz23_9 false).wp _ _ _ _
  refine reg_in (l:=[0,1,2,3]) rfl ?_
  have F:FE_ _ [] a176 a176:=⟨R,Ag_.refl _⟩;clear R
  refine sv_ gz23_9_0 (ym_ rfl (F.of h8)) fun a179 e=>?_
  have h19:=pt_ F e;replace F:=pu_ F e;clear e
  refine sv_ gz23_9_1 (ym_ rfl (F.of h0)) fun a180 e=>?_
  have h20:=pt_ F e;replace F:=pu_ F e;replace h19:=so_ e h19;clear e
  have Y:(execOp a180.eval oz23_9_2).run Tryz.prog w177=.ok (.value (.int .i64 0)) w177:=by unfold oz23_9_2;go_simp
  refine sv_ gz23_9_2 Y fun a181 e=>?_;clear Y
  have h21:=pt_ F e;replace F:=pu_ F e;replace h19:=so_ e h19;replace h20:=so_ e h20;clear e
  have Y:(execOp a181.eval oz23_9_3).run Tryz.prog w177=.ok (.value (.bool false)) w177:=by unfold oz23_9_3;go_simp
  refine sv_ gz23_9_3 Y fun a182 e=>?_;clear Y
  have h22:=pt_ F e;replace F:=pu_ F e;replace h19:=so_ e h19;replace h20:=so_ e h20;replace h21:=so_ e h21;clear e
  refine st_end ?_
  replace h0:=F.of h0;replace h1:=F.of h1;replace h4:=F.of h4;replace h5:=F.of h5;replace h6:=F.of h6;replace h7:=F.of h7;replace h8:=F.of h8;have R:=F.r;clear F
  change (cz23_32).wp _ _ _ _
  refine wp_cond_false (x:=Code.skip) (y:=cz23_34) (eval_slot h22) ?_
  refine wp_exit ?_
  change (cz23_39).wp _ _ _ _
  refine wp_seq (x:=cz23_40) (y:=cz23_41) ?_
  change (Code.region 12 Oz23_12 false).wp _ _ _ _
  refine reg_in (l:=[0,1,2,3,4,5]) rfl ?_
  have F:FE_ _ [] a182 a182:=⟨R,Ag_.refl _⟩;clear R
  refine sv_ gz23_12_0 (ym_ rfl (F.of h7)) fun a183 e=>?_
  have h32:=pt_ F e;replace F:=pu_ F e;clear e
  refine sv_ gz23_12_1 (ym_ rfl (F.of h1)) fun a184 e=>?_
  have h33:=pt_ F e;replace F:=pu_ F e;replace h32:=so_ e h32;clear e
  have Y:(execOp a184.eval oz23_12_2).run Tryz.prog w177=.ok (.value (.agg #[.bool true,.int .i64 1,.slice none 0 0])) w177:=by unfold oz23_12_2;go_simp
  refine sv_ gz23_12_2 Y fun a185 e=>?_;clear Y
  clear h33;have h34:=pt_ F e;replace F:=pu_ F e;replace h32:=so_ e h32;clear e
  have Y:(execOp a185.eval oz23_12_3).run Tryz.prog w177=.ok (.value (.slice (some ⟨w177.heap.size,0,none⟩) 1 1)) (w177.alloc (.cells #[.bool true,.int .i64 1,.slice none 0 0] 64)):=by unfold oz23_12_3;go_simp
  have B186:=Blk.new w177 64 #[.bool true,.int .i64 1,.slice none 0 0]
  obtain ⟨w187,hw⟩:∃ x,x=w177.alloc (.cells #[.bool true,.int .i64 1,.slice none 0 0] 64):=⟨_,rfl⟩;rw [← hw] at Y B186
  obtain ⟨b186,hb⟩:∃ x,x=w177.heap.size:=⟨_,rfl⟩;rw [← hb] at Y B186
  have Nb171_b186:=nb_ hb B171;replace B171:=ba_ hw B171;have LK1_b186:=lk_ hb K1;replace K1:=ka_ hw K1;clear hw hb
  refine sv_ gz23_12_3 Y fun a188 e=>?_;clear Y
  clear h34;have h35:=pt_ F e;replace F:=pu_ F e;replace h32:=so_ e h32;clear e
  obtain ⟨a8,c8,w8,hap,kap⟩:=push_qu (c2:=1) (ty:=oz23_12_4.type) B171 B186
  have Y:(execOp a188.eval oz23_12_4).run Tryz.prog w187=.ok (.value (.slice a8 1 c8)) w8:=by
   unfold oz23_12_4 at hap ⊢;unfold execOp;simp only [resolve,invoke,builtin,Sem.run_bind,Sem.run_pure,Result.andThen_ok,List.map_toArray,List.map_cons,List.map_nil,eval_slot h32,eval_slot h35];rw [hap];rfl
  replace K1:=K1.trans (kap.less fun g hg=>Nat.lt_of_lt_of_le hg LK1_b171);clear hap kap
  clear B171
  clear B186
  refine sv_ gz23_12_4 Y fun a189 e=>?_;clear Y
  clear h32 h35;have h36:=pt_ F e;replace F:=pu_ F e;clear e
  refine sv_ gz23_12_5 (ya_ rfl h36) fun a190 e=>?_
  clear h36 h7;have h7:=pt_ F e;replace F:=pu_ F e;clear e
  refine st_end ?_
  replace h0:=F.of h0;clear h1;replace h4:=F.of h4;replace h5:=F.of h5;replace h6:=F.of h6;replace h8:=F.of h8;replace h19:=F.of h19;replace h20:=F.of h20;replace h21:=F.of h21;replace h22:=F.of h22;have R:=F.r;clear F
  change (cz23_41).wp _ _ _ _
  refine wp_seq (x:=cz23_42) (y:=Code.ret) ?_
  change (Code.region 13 Oz23_13 false).wp _ _ _ _
  refine reg_in (l:=[0,1,2,3,4,5]) rfl ?_
  have F:FE_ _ [] a190 a190:=⟨R,Ag_.refl _⟩;clear R
  refine sv_ gz23_13_0 (ym_ rfl (F.of h7)) fun a191 e=>?_
  have h37:=pt_ F e;replace F:=pu_ F e;clear e
  refine sv_ gz23_13_1 (ym_ rfl (F.of h7)) fun a192 e=>?_
  have h38:=pt_ F e;replace F:=pu_ F e;replace h37:=so_ e h37;clear e
  have Y:(execOp a192.eval oz23_13_2).run Tryz.prog w8=.ok (.value (.int .i64 1)) w8:=by unfold oz23_13_2;go_simp
  refine sv_ gz23_13_2 Y fun a193 e=>?_;clear Y
  clear h38;have h39:=pt_ F e;replace F:=pu_ F e;replace h37:=so_ e h37;clear e
  refine sv_ gz23_13_3 (ya_ rfl h37) fun a194 e=>?_
  clear h37 h4;have h4:=pt_ F e;replace F:=pu_ F e;replace h39:=so_ e h39;clear e
  refine sv_ gz23_13_4 (ya_ rfl h39) fun a195 e=>?_
  clear h39 h5;have h5:=pt_ F e;replace F:=pu_ F e;replace h4:=so_ e h4;clear e
  have Y:(execOp a195.eval oz23_13_5).run Tryz.prog w8=.ok (.value (.int .i64 0)) w8:=by unfold oz23_13_5;go_simp
  refine sv_ gz23_13_5 Y fun a196 e=>?_;clear Y
  clear h6;have h6:=pt_ F e;replace F:=pu_ F e;replace h4:=so_ e h4;replace h5:=so_ e h5;clear e
  refine st_end ?_
  replace h0:=F.of h0;replace h7:=F.of h7;replace h8:=F.of h8;replace h19:=F.of h19;replace h20:=F.of h20;replace h21:=F.of h21;replace h22:=F.of h22;have R:=F.r;clear F
  change (Code.ret).wp _ _ _ _
  refine wp_ret ?_
  change bodyPost Tryz.prog Tryz.f23 (fun e w'=>(∃ a' c',e=.returned (.tuple #[.slice a' 1 c',.int .i64 1,.int .i64 0]))∧Keep (fun g=>g < W.heap.size) W w') .ret a196 w8
  refine ret_el3 rfl R.defers h4 h5 h6 ?_
  exact ⟨⟨_,_,rfl⟩,K1⟩
theorem refMake0 (W:World) (va:Option Addr) (vc:Nat) (mo:Int):Calls Tryz.prog 23 #[.slice va 0 vc,.int .i64 mo] W fun e w'=>(∃ a' c',e=.returned (.tuple #[.slice a' 1 c',.int .i64 1,.int .i64 0]))∧Keep (fun g=>g < W.heap.size) W w':=by
  refine enter_sx Tryz.func23 bodyz23 rfl (by show (2:Nat) ≤ 40;decide) fun f0 R0 hs=>?_
  exact rmake_w R0 (hs 0 _ rfl) (hs 1 _ rfl) (Keep.refl _ W)
def oz7_0_0:Oper:=⟨some 5,Op.box 30 (Operand.tmp 2),0, "law.go:41",#[],none⟩
def oz7_0_1:Oper:=⟨some 6,Op.assign (Operand.const (Value.slice none 0 0)),33, "law.go:41",#[],none⟩
def oz7_0_2:Oper:=⟨some 7,Op.assign (Operand.const (Value.bool false)),4, "law.go:41",#[ec_ 1],none⟩
def Oz7_0:Array Oper:=List.toArray (oz7_0_0::oz7_0_1::oz7_0_2::[])
theorem gz7_0_0:Oz7_0[0]? = some oz7_0_0:=rfl
theorem gz7_0_1:Oz7_0[1]? = some oz7_0_1:=rfl
theorem gz7_0_2:Oz7_0[2]? = some oz7_0_2:=rfl
def cz7_1:Code:=Code.region 0 Oz7_0 false
def oz7_1_0:Oper:=⟨some 28,Op.fieldAddr 30 (Operand.tmp 5) 0,0, "law.go:42",#[],none⟩
def oz7_1_1:Oper:=⟨some 29,Op.load 3 (Operand.tmp 28),3, "law.go:42",#[ed_ 0],none⟩
def Oz7_1:Array Oper:=List.toArray (oz7_1_0::oz7_1_1::[])
theorem gz7_1_0:Oz7_1[0]? = some oz7_1_0:=rfl
theorem gz7_1_1:Oz7_1[1]? = some oz7_1_1:=rfl
def cz7_4:Code:=Code.region 1 Oz7_1 false
def oz7_2_0:Oper:=⟨some 31,Op.binOp Go.BinOp.eql 3 (Operand.tmp 29) (Operand.const (Value.int IntKind.i64 1)) 3,4, "law.go:43",#[],none⟩
def oz7_2_1:Oper:=⟨some 30,Op.assign (Operand.tmp 31),4, "law.go:43",#[ed_ 0],none⟩
def Oz7_2:Array Oper:=List.toArray (oz7_2_0::oz7_2_1::[])
theorem gz7_2_0:Oz7_2[0]? = some oz7_2_0:=rfl
theorem gz7_2_1:Oz7_2[1]? = some oz7_2_1:=rfl
def cz7_7:Code:=Code.region 2 Oz7_2 false
def oz7_3_0:Oper:=⟨some 33,Op.move (Operand.tmp 0),23, "law.go:44",#[],none⟩
def oz7_3_1:Oper:=⟨some 34,Op.fieldAddr 30 (Operand.tmp 5) 2,0, "law.go:44",#[],none⟩
def oz7_3_2:Oper:=⟨some 35,Op.load 3 (Operand.tmp 34),3, "law.go:44",#[ed_ 1],none⟩
def oz7_3_3:Oper:=⟨some 36,Op.call { callee:=Callee.value (Operand.func 14),args:=#[Operand.tmp 33,Operand.tmp 35],argTypes:=#[23,3] },40, "law.go:44",#[ed_ 0,ed_ 2],none⟩
def oz7_3_4:Oper:=⟨some 32,Op.move (Operand.tmp 36),40, "law.go:44",#[ed_ 3],none⟩
def oz7_3_5:Oper:=⟨some 37,Op.extract (Operand.tmp 32) 0,3, "law.go:44",#[ed_ 4],none⟩
def oz7_3_6:Oper:=⟨some 38,Op.extract (Operand.tmp 32) 1,39, "law.go:44",#[ed_ 4,{ on:=7,ground:=Go.Ground.gcOnly Go.Departure.lateStores }],none⟩
def oz7_3_7:Oper:=⟨some 8,Op.assign (Operand.tmp 37),3, "law.go:44",#[ed_ 5,ec_ 3,ep_ 0,ep_ 1,ep_ 2,ep_ 3,ep_ 4,ep_ 5,{ on:=6,ground:=Go.Ground.textOnly Go.Departure.lateStores }],none⟩
def oz7_3_8:Oper:=⟨some 9,Op.assign (Operand.tmp 38),39, "law.go:44",#[ed_ 6,ec_ 7,ep_ 0,ep_ 1,ep_ 2,ep_ 3,ep_ 4,ep_ 5,ep_ 6,ep_ 7],none⟩
def Oz7_3:Array Oper:=List.toArray (oz7_3_0::oz7_3_1::oz7_3_2::oz7_3_3::oz7_3_4::oz7_3_5::oz7_3_6::oz7_3_7::oz7_3_8::[])
theorem gz7_3_0:Oz7_3[0]? = some oz7_3_0:=rfl
theorem gz7_3_1:Oz7_3[1]? = some oz7_3_1:=rfl
theorem gz7_3_2:Oz7_3[2]? = some oz7_3_2:=rfl
theorem gz7_3_3:Oz7_3[3]? = some oz7_3_3:=rfl
theorem gz7_3_4:Oz7_3[4]? = some oz7_3_4:=rfl
theorem gz7_3_5:Oz7_3[5]? = some oz7_3_5:=rfl
theorem gz7_3_6:Oz7_3[6]? = some oz7_3_6:=rfl
theorem gz7_3_7:Oz7_3[7]? = some oz7_3_7:=rfl
theorem gz7_3_8:Oz7_3[8]? = some oz7_3_8:=rfl
def cz7_10:Code:=Code.region 3 Oz7_3 false
def oz7_4_0:Oper:=⟨some 40,Op.move (Operand.tmp 1),33, "law.go:45",#[],none⟩
def oz7_4_1:Oper:=⟨some 41,Op.fieldAddr 30 (Operand.tmp 5) 2,0, "law.go:45",#[],none⟩
def oz7_4_2:Oper:=⟨some 42,Op.load 3 (Operand.tmp 41),3, "law.go:45",#[ed_ 1],none⟩
def oz7_4_3:Oper:=⟨some 43,Op.call { callee:=Callee.value (Operand.func 23),args:=#[Operand.tmp 40,Operand.tmp 42],argTypes:=#[33,3] },55, "law.go:45",#[ed_ 0,ed_ 2],none⟩
def oz7_4_4:Oper:=⟨some 39,Op.move (Operand.tmp 43),55, "law.go:45",#[ed_ 3],none⟩
def oz7_4_5:Oper:=⟨some 44,Op.extract (Operand.tmp 39) 0,33, "law.go:45",#[ed_ 4],none⟩
def oz7_4_6:Oper:=⟨some 45,Op.extract (Operand.tmp 39) 1,3, "law.go:45",#[ed_ 4,{ on:=8,ground:=Go.Ground.gcOnly Go.Departure.lateStores }],none⟩
def oz7_4_7:Oper:=⟨some 46,Op.extract (Operand.tmp 39) 2,3, "law.go:45",#[ed_ 4,{ on:=9,ground:=Go.Ground.gcOnly Go.Departure.lateStores }],none⟩
def oz7_4_8:Oper:=⟨some 10,Op.assign (Operand.tmp 44),33, "law.go:45",#[ed_ 5,ec_ 3,ep_ 0,ep_ 1,ep_ 2,ep_ 3,ep_ 4,ep_ 5,{ on:=6,ground:=Go.Ground.textOnly Go.Departure.lateStores },{ on:=7,ground:=Go.Ground.textOnly Go.Departure.lateStores }],none⟩
def oz7_4_9:Oper:=⟨some 11,Op.assign (Operand.tmp 45),3, "law.go:45",#[ed_ 6,ec_ 8,ep_ 0,ep_ 1,ep_ 2,ep_ 3,ep_ 4,ep_ 5,ep_ 6,{ on:=7,ground:=Go.Ground.textOnly Go.Departure.lateStores },ep_ 8],none⟩
def oz7_4_10:Oper:=⟨some 12,Op.assign (Operand.tmp 46),3, "law.go:45",#[ed_ 7,ec_ 9,ep_ 0,ep_ 1,ep_ 2,ep_ 3,ep_ 4,ep_ 5,ep_ 6,ep_ 7,ep_ 8,ep_ 9],none⟩
def Oz7_4:Array Oper:=List.toArray (oz7_4_0::oz7_4_1::oz7_4_2::oz7_4_3::oz7_4_4::oz7_4_5::oz7_4_6::oz7_4_7::oz7_4_8::oz7_4_9::oz7_4_10::[])
theorem gz7_4_0:Oz7_4[0]? = some oz7_4_0:=rfl
theorem gz7_4_1:Oz7_4[1]? = some oz7_4_1:=rfl
theorem gz7_4_2:Oz7_4[2]? = some oz7_4_2:=rfl
theorem gz7_4_3:Oz7_4[3]? = some oz7_4_3:=rfl
theorem gz7_4_4:Oz7_4[4]? = some oz7_4_4:=rfl
theorem gz7_4_5:Oz7_4[5]? = some oz7_4_5:=rfl
theorem gz7_4_6:Oz7_4[6]? = some oz7_4_6:=rfl
theorem gz7_4_7:Oz7_4[7]? = some oz7_4_7:=rfl
theorem gz7_4_8:Oz7_4[8]? = some oz7_4_8:=rfl
theorem gz7_4_9:Oz7_4[9]? = some oz7_4_9:=rfl
theorem gz7_4_10:Oz7_4[10]? = some oz7_4_10:=rfl
def cz7_12:Code:=Code.region 4 Oz7_4 false
def oz7_5_0:Oper:=⟨some 47,Op.move (Operand.tmp 10),33, "law.go:46",#[],none⟩
def oz7_5_1:Oper:=⟨some 48,Op.move (Operand.tmp 8),3, "law.go:46",#[],none⟩
def oz7_5_2:Oper:=⟨some 49,Op.move (Operand.tmp 11),3, "law.go:46",#[],none⟩
def oz7_5_3:Oper:=⟨some 50,Op.binOp Go.BinOp.eql 3 (Operand.tmp 48) (Operand.tmp 49) 3,4, "law.go:46",#[ed_ 1,ed_ 2],none⟩
def oz7_5_4:Oper:=⟨some 51,Op.move (Operand.tmp 50),4, "law.go:46",#[ed_ 3],none⟩
def oz7_5_5:Oper:=⟨some 52,Op.move (Operand.tmp 9),39, "law.go:46",#[eg_ 4,{ on:=9,ground:=Go.Ground.gcOnly Go.Departure.lateStores }],some (4,true)⟩
def oz7_5_6:Oper:=⟨some 53,Op.move (Operand.tmp 12),3, "law.go:46",#[eg_ 4,{ on:=9,ground:=Go.Ground.gcOnly Go.Departure.lateStores }],some (4,true)⟩
def oz7_5_7:Oper:=⟨some 54,Op.binOp Go.BinOp.eql 3 (Operand.tmp 52) (Operand.tmp 53) 3,4, "law.go:46",#[ed_ 5,ed_ 6,eg_ 4,{ on:=9,ground:=Go.Ground.gcOnly Go.Departure.lateStores }],some (4,true)⟩
def oz7_5_8:Oper:=⟨some 55,Op.pick (Operand.tmp 51) (Operand.tmp 54) (Operand.const (Value.bool false)),4, "law.go:46",#[ed_ 4,ed_ 7,{ on:=9,ground:=Go.Ground.gcOnly Go.Departure.lateStores }],none⟩
def oz7_5_9:Oper:=⟨some 6,Op.assign (Operand.tmp 47),33, "law.go:46",#[ed_ 0,ec_ 4,ep_ 0,{ on:=1,ground:=Go.Ground.textOnly Go.Departure.lateStores },{ on:=2,ground:=Go.Ground.textOnly Go.Departure.lateStores },{ on:=3,ground:=Go.Ground.textOnly Go.Departure.lateStores },{ on:=4,ground:=Go.Ground.textOnly Go.Departure.lateStores },{ on:=5,ground:=Go.Ground.textOnly Go.Departure.lateStores },{ on:=6,ground:=Go.Ground.textOnly Go.Departure.lateStores },{ on:=7,ground:=Go.Ground.textOnly Go.Departure.lateStores },{ on:=8,ground:=Go.Ground.textOnly Go.Departure.lateStores }],none⟩
def oz7_5_10:Oper:=⟨some 7,Op.assign (Operand.tmp 55),4, "law.go:46",#[ed_ 8,ec_ 9,ep_ 0,ep_ 1,ep_ 2,ep_ 3,ep_ 4,ep_ 5,ep_ 6,ep_ 7,ep_ 8,ep_ 9],none⟩
def Oz7_5:Array Oper:=List.toArray (oz7_5_0::oz7_5_1::oz7_5_2::oz7_5_3::oz7_5_4::oz7_5_5::oz7_5_6::oz7_5_7::oz7_5_8::oz7_5_9::oz7_5_10::[])
theorem gz7_5_0:Oz7_5[0]? = some oz7_5_0:=rfl
theorem gz7_5_1:Oz7_5[1]? = some oz7_5_1:=rfl
theorem gz7_5_2:Oz7_5[2]? = some oz7_5_2:=rfl
theorem gz7_5_3:Oz7_5[3]? = some oz7_5_3:=rfl
theorem gz7_5_4:Oz7_5[4]? = some oz7_5_4:=rfl
theorem gz7_5_5:Oz7_5[5]? = some oz7_5_5:=rfl
theorem gz7_5_6:Oz7_5[6]? = some oz7_5_6:=rfl
theorem gz7_5_7:Oz7_5[7]? = some oz7_5_7:=rfl
theorem gz7_5_8:Oz7_5[8]? = some oz7_5_8:=rfl
theorem gz7_5_9:Oz7_5[9]? = some oz7_5_9:=rfl
theorem gz7_5_10:Oz7_5[10]? = some oz7_5_10:=rfl
def cz7_14:Code:=Code.region 5 Oz7_5 false
def cz7_13:Code:=Code.seq cz7_14 Code.ret
def cz7_11:Code:=Code.seq cz7_12 cz7_13
def cz7_9:Code:=Code.seq cz7_10 cz7_11
def oz7_6_0:Oper:=⟨some 57,Op.binOp Go.BinOp.eql 3 (Operand.tmp 29) (Operand.const (Value.int IntKind.i64 2)) 3,4, "law.go:47",#[],none⟩
def oz7_6_1:Oper:=⟨some 56,Op.assign (Operand.tmp 57),4, "law.go:47",#[ed_ 0],none⟩
def Oz7_6:Array Oper:=List.toArray (oz7_6_0::oz7_6_1::[])
theorem gz7_6_0:Oz7_6[0]? = some oz7_6_0:=rfl
theorem gz7_6_1:Oz7_6[1]? = some oz7_6_1:=rfl
def cz7_17:Code:=Code.region 6 Oz7_6 false
def oz7_7_0:Oper:=⟨some 58,Op.move (Operand.tmp 0),23, "law.go:48",#[],none⟩
def oz7_7_1:Oper:=⟨some 59,Op.fieldAddr 30 (Operand.tmp 5) 1,0, "law.go:48",#[],none⟩
def oz7_7_2:Oper:=⟨some 60,Op.load 3 (Operand.tmp 59),3, "law.go:48",#[ed_ 1],none⟩
def oz7_7_3:Oper:=⟨some 61,Op.call { callee:=Callee.value (Operand.func 13),args:=#[Operand.tmp 58,Operand.tmp 60],argTypes:=#[23,3] },39, "law.go:48",#[ed_ 0,ed_ 2],none⟩
def oz7_7_4:Oper:=⟨some 13,Op.assign (Operand.tmp 61),39, "law.go:48",#[ed_ 3,ec_ 3,ep_ 0,ep_ 1,ep_ 2,ep_ 3],none⟩
def Oz7_7:Array Oper:=List.toArray (oz7_7_0::oz7_7_1::oz7_7_2::oz7_7_3::oz7_7_4::[])
theorem gz7_7_0:Oz7_7[0]? = some oz7_7_0:=rfl
theorem gz7_7_1:Oz7_7[1]? = some oz7_7_1:=rfl
theorem gz7_7_2:Oz7_7[2]? = some oz7_7_2:=rfl
theorem gz7_7_3:Oz7_7[3]? = some oz7_7_3:=rfl
theorem gz7_7_4:Oz7_7[4]? = some oz7_7_4:=rfl
def cz7_20:Code:=Code.region 7 Oz7_7 false
def oz7_8_0:Oper:=⟨some 63,Op.move (Operand.tmp 1),33, "law.go:49",#[],none⟩
def oz7_8_1:Oper:=⟨some 64,Op.fieldAddr 30 (Operand.tmp 5) 1,0, "law.go:49",#[],none⟩
def oz7_8_2:Oper:=⟨some 65,Op.load 3 (Operand.tmp 64),3, "law.go:49",#[ed_ 1],none⟩
def oz7_8_3:Oper:=⟨some 66,Op.call { callee:=Callee.value (Operand.func 24),args:=#[Operand.tmp 63,Operand.tmp 65],argTypes:=#[33,3] },57, "law.go:49",#[ed_ 0,ed_ 2],none⟩
def oz7_8_4:Oper:=⟨some 62,Op.move (Operand.tmp 66),57, "law.go:49",#[ed_ 3],none⟩
def oz7_8_5:Oper:=⟨some 67,Op.extract (Operand.tmp 62) 0,33, "law.go:49",#[ed_ 4],none⟩
def oz7_8_6:Oper:=⟨some 68,Op.extract (Operand.tmp 62) 1,3, "law.go:49",#[ed_ 4,{ on:=7,ground:=Go.Ground.gcOnly Go.Departure.lateStores }],none⟩
def oz7_8_7:Oper:=⟨some 14,Op.assign (Operand.tmp 67),33, "law.go:49",#[ed_ 5,ec_ 3,ep_ 0,ep_ 1,ep_ 2,ep_ 3,ep_ 4,ep_ 5,{ on:=6,ground:=Go.Ground.textOnly Go.Departure.lateStores }],none⟩
def oz7_8_8:Oper:=⟨some 15,Op.assign (Operand.tmp 68),3, "law.go:49",#[ed_ 6,ec_ 7,ep_ 0,ep_ 1,ep_ 2,ep_ 3,ep_ 4,ep_ 5,ep_ 6,ep_ 7],none⟩
def Oz7_8:Array Oper:=List.toArray (oz7_8_0::oz7_8_1::oz7_8_2::oz7_8_3::oz7_8_4::oz7_8_5::oz7_8_6::oz7_8_7::oz7_8_8::[])
theorem gz7_8_0:Oz7_8[0]? = some oz7_8_0:=rfl
theorem gz7_8_1:Oz7_8[1]? = some oz7_8_1:=rfl
theorem gz7_8_2:Oz7_8[2]? = some oz7_8_2:=rfl
theorem gz7_8_3:Oz7_8[3]? = some oz7_8_3:=rfl
theorem gz7_8_4:Oz7_8[4]? = some oz7_8_4:=rfl
theorem gz7_8_5:Oz7_8[5]? = some oz7_8_5:=rfl
theorem gz7_8_6:Oz7_8[6]? = some oz7_8_6:=rfl
theorem gz7_8_7:Oz7_8[7]? = some oz7_8_7:=rfl
theorem gz7_8_8:Oz7_8[8]? = some oz7_8_8:=rfl
def cz7_22:Code:=Code.region 8 Oz7_8 false
def oz7_9_0:Oper:=⟨some 69,Op.move (Operand.tmp 14),33, "law.go:50",#[],none⟩
def oz7_9_1:Oper:=⟨some 70,Op.move (Operand.tmp 13),39, "law.go:50",#[{ on:=4,ground:=Go.Ground.gcOnly Go.Departure.lateStores }],none⟩
def oz7_9_2:Oper:=⟨some 71,Op.move (Operand.tmp 15),3, "law.go:50",#[{ on:=4,ground:=Go.Ground.gcOnly Go.Departure.lateStores }],none⟩
def oz7_9_3:Oper:=⟨some 72,Op.binOp Go.BinOp.eql 3 (Operand.tmp 70) (Operand.tmp 71) 3,4, "law.go:50",#[ed_ 1,ed_ 2,{ on:=4,ground:=Go.Ground.gcOnly Go.Departure.lateStores }],none⟩
def oz7_9_4:Oper:=⟨some 6,Op.assign (Operand.tmp 69),33, "law.go:50",#[ed_ 0,ep_ 0,{ on:=1,ground:=Go.Ground.textOnly Go.Departure.lateStores },{ on:=2,ground:=Go.Ground.textOnly Go.Departure.lateStores },{ on:=3,ground:=Go.Ground.textOnly Go.Departure.lateStores }],none⟩
def oz7_9_5:Oper:=⟨some 7,Op.assign (Operand.tmp 72),4, "law.go:50",#[ed_ 3,ec_ 4,ep_ 0,ep_ 1,ep_ 2,ep_ 3,ep_ 4],none⟩
def Oz7_9:Array Oper:=List.toArray (oz7_9_0::oz7_9_1::oz7_9_2::oz7_9_3::oz7_9_4::oz7_9_5::[])
theorem gz7_9_0:Oz7_9[0]? = some oz7_9_0:=rfl
theorem gz7_9_1:Oz7_9[1]? = some oz7_9_1:=rfl
theorem gz7_9_2:Oz7_9[2]? = some oz7_9_2:=rfl
theorem gz7_9_3:Oz7_9[3]? = some oz7_9_3:=rfl
theorem gz7_9_4:Oz7_9[4]? = some oz7_9_4:=rfl
theorem gz7_9_5:Oz7_9[5]? = some oz7_9_5:=rfl
def cz7_24:Code:=Code.region 9 Oz7_9 false
def cz7_23:Code:=Code.seq cz7_24 Code.ret
def cz7_21:Code:=Code.seq cz7_22 cz7_23
def cz7_19:Code:=Code.seq cz7_20 cz7_21
def oz7_10_0:Oper:=⟨some 74,Op.binOp Go.BinOp.eql 3 (Operand.tmp 29) (Operand.const (Value.int IntKind.i64 3)) 3,4, "law.go:51",#[],none⟩
def oz7_10_1:Oper:=⟨some 73,Op.assign (Operand.tmp 74),4, "law.go:51",#[ed_ 0],none⟩
def Oz7_10:Array Oper:=List.toArray (oz7_10_0::oz7_10_1::[])
theorem gz7_10_0:Oz7_10[0]? = some oz7_10_0:=rfl
theorem gz7_10_1:Oz7_10[1]? = some oz7_10_1:=rfl
def cz7_27:Code:=Code.region 10 Oz7_10 false
def oz7_11_0:Oper:=⟨some 75,Op.move (Operand.tmp 0),23, "law.go:52",#[],none⟩
def oz7_11_1:Oper:=⟨some 76,Op.fieldAddr 30 (Operand.tmp 5) 1,0, "law.go:52",#[],none⟩
def oz7_11_2:Oper:=⟨some 77,Op.load 3 (Operand.tmp 76),3, "law.go:52",#[ed_ 1],none⟩
def oz7_11_3:Oper:=⟨some 78,Op.fieldAddr 30 (Operand.tmp 5) 3,0, "law.go:52",#[],none⟩
def oz7_11_4:Oper:=⟨some 79,Op.load 28 (Operand.tmp 78),28, "law.go:52",#[ed_ 3],none⟩
def oz7_11_5:Oper:=⟨some 80,Op.call { callee:=Callee.value (Operand.func 11),args:=#[Operand.tmp 75,Operand.tmp 77,Operand.tmp 79],argTypes:=#[23,3,28] },39, "law.go:52",#[ed_ 0,ed_ 2,ed_ 4],none⟩
def oz7_11_6:Oper:=⟨some 16,Op.assign (Operand.tmp 80),39, "law.go:52",#[ed_ 5,ec_ 5,ep_ 0,ep_ 1,ep_ 2,ep_ 3,ep_ 4,ep_ 5],none⟩
def Oz7_11:Array Oper:=List.toArray (oz7_11_0::oz7_11_1::oz7_11_2::oz7_11_3::oz7_11_4::oz7_11_5::oz7_11_6::[])
theorem gz7_11_0:Oz7_11[0]? = some oz7_11_0:=rfl
theorem gz7_11_1:Oz7_11[1]? = some oz7_11_1:=rfl
theorem gz7_11_2:Oz7_11[2]? = some oz7_11_2:=rfl
theorem gz7_11_3:Oz7_11[3]? = some oz7_11_3:=rfl
theorem gz7_11_4:Oz7_11[4]? = some oz7_11_4:=rfl
theorem gz7_11_5:Oz7_11[5]? = some oz7_11_5:=rfl
theorem gz7_11_6:Oz7_11[6]? = some oz7_11_6:=rfl
def cz7_30:Code:=Code.region 11 Oz7_11 false
def oz7_12_0:Oper:=⟨some 82,Op.move (Operand.tmp 1),33, "law.go:53",#[],none⟩
def oz7_12_1:Oper:=⟨some 83,Op.fieldAddr 30 (Operand.tmp 5) 1,0, "law.go:53",#[],none⟩
def oz7_12_2:Oper:=⟨some 84,Op.load 3 (Operand.tmp 83),3, "law.go:53",#[ed_ 1],none⟩
def oz7_12_3:Oper:=⟨some 85,Op.fieldAddr 30 (Operand.tmp 5) 3,0, "law.go:53",#[],none⟩
def oz7_12_4:Oper:=⟨some 86,Op.load 28 (Operand.tmp 85),28, "law.go:53",#[ed_ 3],none⟩
def oz7_12_5:Oper:=⟨some 87,Op.call { callee:=Callee.value (Operand.func 25),args:=#[Operand.tmp 82,Operand.tmp 84,Operand.tmp 86],argTypes:=#[33,3,28] },57, "law.go:53",#[ed_ 0,ed_ 2,ed_ 4],none⟩
def oz7_12_6:Oper:=⟨some 81,Op.move (Operand.tmp 87),57, "law.go:53",#[ed_ 5],none⟩
def oz7_12_7:Oper:=⟨some 88,Op.extract (Operand.tmp 81) 0,33, "law.go:53",#[ed_ 6],none⟩
def oz7_12_8:Oper:=⟨some 89,Op.extract (Operand.tmp 81) 1,3, "law.go:53",#[ed_ 6,{ on:=9,ground:=Go.Ground.gcOnly Go.Departure.lateStores }],none⟩
def oz7_12_9:Oper:=⟨some 17,Op.assign (Operand.tmp 88),33, "law.go:53",#[ed_ 7,ec_ 5,ep_ 0,ep_ 1,ep_ 2,ep_ 3,ep_ 4,ep_ 5,ep_ 6,ep_ 7,{ on:=8,ground:=Go.Ground.textOnly Go.Departure.lateStores }],none⟩
def oz7_12_10:Oper:=⟨some 18,Op.assign (Operand.tmp 89),3, "law.go:53",#[ed_ 8,ec_ 9,ep_ 0,ep_ 1,ep_ 2,ep_ 3,ep_ 4,ep_ 5,ep_ 6,ep_ 7,ep_ 8,ep_ 9],none⟩
def Oz7_12:Array Oper:=List.toArray (oz7_12_0::oz7_12_1::oz7_12_2::oz7_12_3::oz7_12_4::oz7_12_5::oz7_12_6::oz7_12_7::oz7_12_8::oz7_12_9::oz7_12_10::[])
theorem gz7_12_0:Oz7_12[0]? = some oz7_12_0:=rfl
theorem gz7_12_1:Oz7_12[1]? = some oz7_12_1:=rfl
theorem gz7_12_2:Oz7_12[2]? = some oz7_12_2:=rfl
theorem gz7_12_3:Oz7_12[3]? = some oz7_12_3:=rfl
theorem gz7_12_4:Oz7_12[4]? = some oz7_12_4:=rfl
theorem gz7_12_5:Oz7_12[5]? = some oz7_12_5:=rfl
theorem gz7_12_6:Oz7_12[6]? = some oz7_12_6:=rfl
theorem gz7_12_7:Oz7_12[7]? = some oz7_12_7:=rfl
theorem gz7_12_8:Oz7_12[8]? = some oz7_12_8:=rfl
theorem gz7_12_9:Oz7_12[9]? = some oz7_12_9:=rfl
theorem gz7_12_10:Oz7_12[10]? = some oz7_12_10:=rfl
def cz7_32:Code:=Code.region 12 Oz7_12 false
def oz7_13_0:Oper:=⟨some 90,Op.move (Operand.tmp 17),33, "law.go:54",#[],none⟩
def oz7_13_1:Oper:=⟨some 91,Op.move (Operand.tmp 16),39, "law.go:54",#[{ on:=4,ground:=Go.Ground.gcOnly Go.Departure.lateStores }],none⟩
def oz7_13_2:Oper:=⟨some 92,Op.move (Operand.tmp 18),3, "law.go:54",#[{ on:=4,ground:=Go.Ground.gcOnly Go.Departure.lateStores }],none⟩
def oz7_13_3:Oper:=⟨some 93,Op.binOp Go.BinOp.eql 3 (Operand.tmp 91) (Operand.tmp 92) 3,4, "law.go:54",#[ed_ 1,ed_ 2,{ on:=4,ground:=Go.Ground.gcOnly Go.Departure.lateStores }],none⟩
def oz7_13_4:Oper:=⟨some 6,Op.assign (Operand.tmp 90),33, "law.go:54",#[ed_ 0,ep_ 0,{ on:=1,ground:=Go.Ground.textOnly Go.Departure.lateStores },{ on:=2,ground:=Go.Ground.textOnly Go.Departure.lateStores },{ on:=3,ground:=Go.Ground.textOnly Go.Departure.lateStores }],none⟩
def oz7_13_5:Oper:=⟨some 7,Op.assign (Operand.tmp 93),4, "law.go:54",#[ed_ 3,ec_ 4,ep_ 0,ep_ 1,ep_ 2,ep_ 3,ep_ 4],none⟩
def Oz7_13:Array Oper:=List.toArray (oz7_13_0::oz7_13_1::oz7_13_2::oz7_13_3::oz7_13_4::oz7_13_5::[])
theorem gz7_13_0:Oz7_13[0]? = some oz7_13_0:=rfl
theorem gz7_13_1:Oz7_13[1]? = some oz7_13_1:=rfl
theorem gz7_13_2:Oz7_13[2]? = some oz7_13_2:=rfl
theorem gz7_13_3:Oz7_13[3]? = some oz7_13_3:=rfl
theorem gz7_13_4:Oz7_13[4]? = some oz7_13_4:=rfl
theorem gz7_13_5:Oz7_13[5]? = some oz7_13_5:=rfl
def cz7_34:Code:=Code.region 13 Oz7_13 false
def cz7_33:Code:=Code.seq cz7_34 Code.ret
def cz7_31:Code:=Code.seq cz7_32 cz7_33
def cz7_29:Code:=Code.seq cz7_30 cz7_31
def oz7_14_0:Oper:=⟨some 95,Op.binOp Go.BinOp.eql 3 (Operand.tmp 29) (Operand.const (Value.int IntKind.i64 4)) 3,4, "law.go:55",#[],none⟩
def oz7_14_1:Oper:=⟨some 94,Op.assign (Operand.tmp 95),4, "law.go:55",#[ed_ 0],none⟩
def Oz7_14:Array Oper:=List.toArray (oz7_14_0::oz7_14_1::[])
theorem gz7_14_0:Oz7_14[0]? = some oz7_14_0:=rfl
theorem gz7_14_1:Oz7_14[1]? = some oz7_14_1:=rfl
def cz7_38:Code:=Code.region 14 Oz7_14 false
def oz7_15_0:Oper:=⟨some 96,Op.binOp Go.BinOp.eql 3 (Operand.tmp 29) (Operand.const (Value.int IntKind.i64 5)) 3,4, "law.go:55",#[],none⟩
def oz7_15_1:Oper:=⟨some 94,Op.assign (Operand.tmp 96),4, "law.go:55",#[ed_ 0],none⟩
def Oz7_15:Array Oper:=List.toArray (oz7_15_0::oz7_15_1::[])
theorem gz7_15_0:Oz7_15[0]? = some oz7_15_0:=rfl
theorem gz7_15_1:Oz7_15[1]? = some oz7_15_1:=rfl
def cz7_41:Code:=Code.region 15 Oz7_15 false
def cz7_39:Code:=Code.cond (Operand.tmp 94) Code.skip cz7_41
def cz7_37:Code:=Code.seq cz7_38 cz7_39
def oz7_16_0:Oper:=⟨some 98,Op.move (Operand.tmp 1),33, "law.go:56",#[],none⟩
def oz7_16_1:Oper:=⟨some 99,Op.fieldAddr 30 (Operand.tmp 5) 1,0, "law.go:56",#[],none⟩
def oz7_16_2:Oper:=⟨some 100,Op.load 3 (Operand.tmp 99),3, "law.go:56",#[ed_ 1],none⟩
def oz7_16_3:Oper:=⟨some 101,Op.fieldAddr 30 (Operand.tmp 5) 3,0, "law.go:56",#[],none⟩
def oz7_16_4:Oper:=⟨some 102,Op.load 28 (Operand.tmp 101),28, "law.go:56",#[ed_ 3],none⟩
def oz7_16_5:Oper:=⟨some 103,Op.fieldAddr 30 (Operand.tmp 5) 0,0, "law.go:56",#[],none⟩
def oz7_16_6:Oper:=⟨some 104,Op.load 3 (Operand.tmp 103),3, "law.go:56",#[ed_ 5],none⟩
def oz7_16_7:Oper:=⟨some 105,Op.binOp Go.BinOp.eql 3 (Operand.tmp 104) (Operand.const (Value.int IntKind.i64 4)) 3,4, "law.go:56",#[ed_ 6],none⟩
def oz7_16_8:Oper:=⟨some 106,Op.call { callee:=Callee.value (Operand.func 26),args:=#[Operand.tmp 98,Operand.tmp 100,Operand.tmp 102,Operand.tmp 105],argTypes:=#[33,3,28,4] },60, "law.go:56",#[ed_ 0,ed_ 2,ed_ 4,ed_ 7],none⟩
def oz7_16_9:Oper:=⟨some 97,Op.move (Operand.tmp 106),60, "law.go:56",#[ed_ 8],none⟩
def oz7_16_10:Oper:=⟨some 107,Op.extract (Operand.tmp 97) 0,33, "law.go:56",#[ed_ 9],none⟩
def oz7_16_11:Oper:=⟨some 108,Op.extract (Operand.tmp 97) 1,28, "law.go:56",#[ed_ 9,{ on:=14,ground:=Go.Ground.gcOnly Go.Departure.lateStores }],none⟩
def oz7_16_12:Oper:=⟨some 109,Op.extract (Operand.tmp 97) 2,3, "law.go:56",#[ed_ 9,{ on:=15,ground:=Go.Ground.gcOnly Go.Departure.lateStores }],none⟩
def oz7_16_13:Oper:=⟨some 20,Op.alloc 28,0, "law.go:56",#[],none⟩
def oz7_16_14:Oper:=⟨some 19,Op.assign (Operand.tmp 107),33, "law.go:56",#[ed_ 10,ec_ 8,ep_ 0,ep_ 1,ep_ 2,ep_ 3,ep_ 4,ep_ 5,ep_ 6,ep_ 7,ep_ 8,ep_ 9,ep_ 10,{ on:=11,ground:=Go.Ground.textOnly Go.Departure.lateStores },{ on:=12,ground:=Go.Ground.textOnly Go.Departure.lateStores },ep_ 13],none⟩
def oz7_16_15:Oper:=⟨none,Op.store 28 (Operand.tmp 20) (Operand.tmp 108),0, "law.go:56",#[ed_ 13,ed_ 11,ec_ 14,ep_ 0,ep_ 1,ep_ 2,ep_ 3,ep_ 4,ep_ 5,ep_ 6,ep_ 7,ep_ 8,ep_ 9,ep_ 10,ep_ 11,{ on:=12,ground:=Go.Ground.textOnly Go.Departure.lateStores },ep_ 13,ep_ 14],none⟩
def oz7_16_16:Oper:=⟨some 21,Op.assign (Operand.tmp 109),3, "law.go:56",#[ed_ 12,ec_ 15,ep_ 0,ep_ 1,ep_ 2,ep_ 3,ep_ 4,ep_ 5,ep_ 6,ep_ 7,ep_ 8,ep_ 9,ep_ 10,ep_ 11,ep_ 12,ep_ 13,ep_ 14,ep_ 15],none⟩
def Oz7_16:Array Oper:=List.toArray (oz7_16_0::oz7_16_1::oz7_16_2::oz7_16_3::oz7_16_4::oz7_16_5::oz7_16_6::oz7_16_7::oz7_16_8::oz7_16_9::oz7_16_10::oz7_16_11::oz7_16_12::oz7_16_13::oz7_16_14::oz7_16_15::oz7_16_16::[])
theorem gz7_16_0:Oz7_16[0]? = some oz7_16_0:=rfl
theorem gz7_16_1:Oz7_16[1]? = some oz7_16_1:=rfl
theorem gz7_16_2:Oz7_16[2]? = some oz7_16_2:=rfl
theorem gz7_16_3:Oz7_16[3]? = some oz7_16_3:=rfl
theorem gz7_16_4:Oz7_16[4]? = some oz7_16_4:=rfl
theorem gz7_16_5:Oz7_16[5]? = some oz7_16_5:=rfl
theorem gz7_16_6:Oz7_16[6]? = some oz7_16_6:=rfl
theorem gz7_16_7:Oz7_16[7]? = some oz7_16_7:=rfl
theorem gz7_16_8:Oz7_16[8]? = some oz7_16_8:=rfl
theorem gz7_16_9:Oz7_16[9]? = some oz7_16_9:=rfl
theorem gz7_16_10:Oz7_16[10]? = some oz7_16_10:=rfl
theorem gz7_16_11:Oz7_16[11]? = some oz7_16_11:=rfl
theorem gz7_16_12:Oz7_16[12]? = some oz7_16_12:=rfl
theorem gz7_16_13:Oz7_16[13]? = some oz7_16_13:=rfl
theorem gz7_16_14:Oz7_16[14]? = some oz7_16_14:=rfl
theorem gz7_16_15:Oz7_16[15]? = some oz7_16_15:=rfl
theorem gz7_16_16:Oz7_16[16]? = some oz7_16_16:=rfl
def cz7_44:Code:=Code.region 16 Oz7_16 false
def oz7_17_0:Oper:=⟨some 110,Op.fieldAddr 30 (Operand.tmp 5) 0,0, "law.go:57",#[],none⟩
def oz7_17_1:Oper:=⟨some 111,Op.load 3 (Operand.tmp 110),3, "law.go:57",#[ed_ 0],none⟩
def oz7_17_2:Oper:=⟨some 112,Op.binOp Go.BinOp.eql 3 (Operand.tmp 111) (Operand.const (Value.int IntKind.i64 4)) 3,4, "law.go:57",#[ed_ 1],none⟩
def Oz7_17:Array Oper:=List.toArray (oz7_17_0::oz7_17_1::oz7_17_2::[])
theorem gz7_17_0:Oz7_17[0]? = some oz7_17_0:=rfl
theorem gz7_17_1:Oz7_17[1]? = some oz7_17_1:=rfl
theorem gz7_17_2:Oz7_17[2]? = some oz7_17_2:=rfl
def cz7_47:Code:=Code.region 17 Oz7_17 false
def oz7_18_0:Oper:=⟨some 114,Op.move (Operand.tmp 0),23, "law.go:58",#[],none⟩
def oz7_18_1:Oper:=⟨some 115,Op.fieldAddr 30 (Operand.tmp 5) 1,0, "law.go:58",#[],none⟩
def oz7_18_2:Oper:=⟨some 116,Op.load 3 (Operand.tmp 115),3, "law.go:58",#[ed_ 1],none⟩
def oz7_18_3:Oper:=⟨some 117,Op.fieldAddr 30 (Operand.tmp 5) 3,0, "law.go:58",#[],none⟩
def oz7_18_4:Oper:=⟨some 118,Op.load 28 (Operand.tmp 117),28, "law.go:58",#[ed_ 3],none⟩
def oz7_18_5:Oper:=⟨some 119,Op.call { callee:=Callee.value (Operand.func 17),args:=#[Operand.tmp 114,Operand.tmp 116,Operand.tmp 118],argTypes:=#[23,3,28] },51, "law.go:58",#[ed_ 0,ed_ 2,ed_ 4],none⟩
def oz7_18_6:Oper:=⟨some 113,Op.move (Operand.tmp 119),51, "law.go:58",#[ed_ 5],none⟩
def oz7_18_7:Oper:=⟨some 120,Op.extract (Operand.tmp 113) 0,28, "law.go:58",#[ed_ 6],none⟩
def oz7_18_8:Oper:=⟨some 121,Op.extract (Operand.tmp 113) 1,39, "law.go:58",#[ed_ 6,{ on:=10,ground:=Go.Ground.gcOnly Go.Departure.lateStores }],none⟩
def oz7_18_9:Oper:=⟨some 22,Op.alloc 28,0, "law.go:58",#[],none⟩
def oz7_18_10:Oper:=⟨none,Op.store 28 (Operand.tmp 22) (Operand.tmp 120),0, "law.go:58",#[ed_ 9,ed_ 7,ec_ 5,ep_ 0,ep_ 1,ep_ 2,ep_ 3,ep_ 4,ep_ 5,ep_ 6,ep_ 7,{ on:=8,ground:=Go.Ground.textOnly Go.Departure.lateStores },ep_ 9],none⟩
def oz7_18_11:Oper:=⟨some 23,Op.assign (Operand.tmp 121),39, "law.go:58",#[ed_ 8,ec_ 10,ep_ 0,ep_ 1,ep_ 2,ep_ 3,ep_ 4,ep_ 5,ep_ 6,ep_ 7,ep_ 8,ep_ 9,ep_ 10],none⟩
def Oz7_18:Array Oper:=List.toArray (oz7_18_0::oz7_18_1::oz7_18_2::oz7_18_3::oz7_18_4::oz7_18_5::oz7_18_6::oz7_18_7::oz7_18_8::oz7_18_9::oz7_18_10::oz7_18_11::[])
theorem gz7_18_0:Oz7_18[0]? = some oz7_18_0:=rfl
theorem gz7_18_1:Oz7_18[1]? = some oz7_18_1:=rfl
theorem gz7_18_2:Oz7_18[2]? = some oz7_18_2:=rfl
theorem gz7_18_3:Oz7_18[3]? = some oz7_18_3:=rfl
theorem gz7_18_4:Oz7_18[4]? = some oz7_18_4:=rfl
theorem gz7_18_5:Oz7_18[5]? = some oz7_18_5:=rfl
theorem gz7_18_6:Oz7_18[6]? = some oz7_18_6:=rfl
theorem gz7_18_7:Oz7_18[7]? = some oz7_18_7:=rfl
theorem gz7_18_8:Oz7_18[8]? = some oz7_18_8:=rfl
theorem gz7_18_9:Oz7_18[9]? = some oz7_18_9:=rfl
theorem gz7_18_10:Oz7_18[10]? = some oz7_18_10:=rfl
theorem gz7_18_11:Oz7_18[11]? = some oz7_18_11:=rfl
def cz7_50:Code:=Code.region 18 Oz7_18 false
def oz7_19_0:Oper:=⟨some 122,Op.move (Operand.tmp 19),33, "law.go:59",#[],none⟩
def oz7_19_1:Oper:=⟨some 123,Op.move (Operand.tmp 23),39, "law.go:59",#[],none⟩
def oz7_19_2:Oper:=⟨some 124,Op.move (Operand.tmp 21),3, "law.go:59",#[],none⟩
def oz7_19_3:Oper:=⟨some 125,Op.binOp Go.BinOp.eql 3 (Operand.tmp 123) (Operand.tmp 124) 3,4, "law.go:59",#[ed_ 1,ed_ 2],none⟩
def oz7_19_4:Oper:=⟨some 126,Op.move (Operand.tmp 125),4, "law.go:59",#[ed_ 3],none⟩
def oz7_19_5:Oper:=⟨some 127,Op.load 28 (Operand.tmp 22),28, "law.go:59",#[eg_ 4],some (4,true)⟩
def oz7_19_6:Oper:=⟨some 128,Op.load 28 (Operand.tmp 20),28, "law.go:59",#[eg_ 4],some (4,true)⟩
def oz7_19_7:Oper:=⟨some 129,Op.call { callee:=Callee.value (Operand.func 20),args:=#[Operand.tmp 127,Operand.tmp 128],argTypes:=#[28,28] },4, "law.go:59",#[ed_ 5,ed_ 6,ec_ 4,eg_ 4],some (4,true)⟩
def oz7_19_8:Oper:=⟨some 130,Op.pick (Operand.tmp 126) (Operand.tmp 129) (Operand.const (Value.bool false)),4, "law.go:59",#[ed_ 4,ed_ 7,{ on:=9,ground:=Go.Ground.gcOnly Go.Departure.lateStores }],none⟩
def oz7_19_9:Oper:=⟨some 6,Op.assign (Operand.tmp 122),33, "law.go:59",#[ed_ 0,ec_ 7,ep_ 0,{ on:=1,ground:=Go.Ground.textOnly Go.Departure.lateStores },{ on:=2,ground:=Go.Ground.textOnly Go.Departure.lateStores },{ on:=3,ground:=Go.Ground.textOnly Go.Departure.lateStores },{ on:=4,ground:=Go.Ground.textOnly Go.Departure.lateStores },{ on:=5,ground:=Go.Ground.textOnly Go.Departure.lateStores },{ on:=6,ground:=Go.Ground.textOnly Go.Departure.lateStores },{ on:=7,ground:=Go.Ground.textOnly Go.Departure.lateStoresUnsure },{ on:=8,ground:=Go.Ground.textOnly Go.Departure.lateStores }],none⟩
def oz7_19_10:Oper:=⟨some 7,Op.assign (Operand.tmp 130),4, "law.go:59",#[ed_ 8,ec_ 9,ep_ 0,ep_ 1,ep_ 2,ep_ 3,ep_ 4,ep_ 5,ep_ 6,ep_ 7,ep_ 8,ep_ 9],none⟩
def Oz7_19:Array Oper:=List.toArray (oz7_19_0::oz7_19_1::oz7_19_2::oz7_19_3::oz7_19_4::oz7_19_5::oz7_19_6::oz7_19_7::oz7_19_8::oz7_19_9::oz7_19_10::[])
theorem gz7_19_0:Oz7_19[0]? = some oz7_19_0:=rfl
theorem gz7_19_1:Oz7_19[1]? = some oz7_19_1:=rfl
theorem gz7_19_2:Oz7_19[2]? = some oz7_19_2:=rfl
theorem gz7_19_3:Oz7_19[3]? = some oz7_19_3:=rfl
theorem gz7_19_4:Oz7_19[4]? = some oz7_19_4:=rfl
theorem gz7_19_5:Oz7_19[5]? = some oz7_19_5:=rfl
theorem gz7_19_6:Oz7_19[6]? = some oz7_19_6:=rfl
theorem gz7_19_7:Oz7_19[7]? = some oz7_19_7:=rfl
theorem gz7_19_8:Oz7_19[8]? = some oz7_19_8:=rfl
theorem gz7_19_9:Oz7_19[9]? = some oz7_19_9:=rfl
theorem gz7_19_10:Oz7_19[10]? = some oz7_19_10:=rfl
def cz7_52:Code:=Code.region 19 Oz7_19 false
def cz7_51:Code:=Code.seq cz7_52 Code.ret
def cz7_49:Code:=Code.seq cz7_50 cz7_51
def cz7_48:Code:=Code.cond (Operand.tmp 112) cz7_49 Code.skip
def cz7_46:Code:=Code.seq cz7_47 cz7_48
def oz7_20_0:Oper:=⟨some 132,Op.move (Operand.tmp 0),23, "law.go:61",#[],none⟩
def oz7_20_1:Oper:=⟨some 133,Op.fieldAddr 30 (Operand.tmp 5) 1,0, "law.go:61",#[],none⟩
def oz7_20_2:Oper:=⟨some 134,Op.load 3 (Operand.tmp 133),3, "law.go:61",#[ed_ 1],none⟩
def oz7_20_3:Oper:=⟨some 135,Op.fieldAddr 30 (Operand.tmp 5) 3,0, "law.go:61",#[],none⟩
def oz7_20_4:Oper:=⟨some 136,Op.load 28 (Operand.tmp 135),28, "law.go:61",#[ed_ 3],none⟩
def oz7_20_5:Oper:=⟨some 137,Op.call { callee:=Callee.value (Operand.func 18),args:=#[Operand.tmp 132,Operand.tmp 134,Operand.tmp 136],argTypes:=#[23,3,28] },51, "law.go:61",#[ed_ 0,ed_ 2,ed_ 4],none⟩
def oz7_20_6:Oper:=⟨some 131,Op.move (Operand.tmp 137),51, "law.go:61",#[ed_ 5],none⟩
def oz7_20_7:Oper:=⟨some 138,Op.extract (Operand.tmp 131) 0,28, "law.go:61",#[ed_ 6],none⟩
def oz7_20_8:Oper:=⟨some 139,Op.extract (Operand.tmp 131) 1,39, "law.go:61",#[ed_ 6,{ on:=10,ground:=Go.Ground.gcOnly Go.Departure.lateStores }],none⟩
def oz7_20_9:Oper:=⟨some 24,Op.alloc 28,0, "law.go:61",#[],none⟩
def oz7_20_10:Oper:=⟨none,Op.store 28 (Operand.tmp 24) (Operand.tmp 138),0, "law.go:61",#[ed_ 9,ed_ 7,ec_ 5,ep_ 0,ep_ 1,ep_ 2,ep_ 3,ep_ 4,ep_ 5,ep_ 6,ep_ 7,{ on:=8,ground:=Go.Ground.textOnly Go.Departure.lateStores },ep_ 9],none⟩
def oz7_20_11:Oper:=⟨some 25,Op.assign (Operand.tmp 139),39, "law.go:61",#[ed_ 8,ec_ 10,ep_ 0,ep_ 1,ep_ 2,ep_ 3,ep_ 4,ep_ 5,ep_ 6,ep_ 7,ep_ 8,ep_ 9,ep_ 10],none⟩
def Oz7_20:Array Oper:=List.toArray (oz7_20_0::oz7_20_1::oz7_20_2::oz7_20_3::oz7_20_4::oz7_20_5::oz7_20_6::oz7_20_7::oz7_20_8::oz7_20_9::oz7_20_10::oz7_20_11::[])
theorem gz7_20_0:Oz7_20[0]? = some oz7_20_0:=rfl
theorem gz7_20_1:Oz7_20[1]? = some oz7_20_1:=rfl
theorem gz7_20_2:Oz7_20[2]? = some oz7_20_2:=rfl
theorem gz7_20_3:Oz7_20[3]? = some oz7_20_3:=rfl
theorem gz7_20_4:Oz7_20[4]? = some oz7_20_4:=rfl
theorem gz7_20_5:Oz7_20[5]? = some oz7_20_5:=rfl
theorem gz7_20_6:Oz7_20[6]? = some oz7_20_6:=rfl
theorem gz7_20_7:Oz7_20[7]? = some oz7_20_7:=rfl
theorem gz7_20_8:Oz7_20[8]? = some oz7_20_8:=rfl
theorem gz7_20_9:Oz7_20[9]? = some oz7_20_9:=rfl
theorem gz7_20_10:Oz7_20[10]? = some oz7_20_10:=rfl
theorem gz7_20_11:Oz7_20[11]? = some oz7_20_11:=rfl
def cz7_56:Code:=Code.region 20 Oz7_20 false
def oz7_21_0:Oper:=⟨some 140,Op.move (Operand.tmp 19),33, "law.go:62",#[],none⟩
def oz7_21_1:Oper:=⟨some 141,Op.move (Operand.tmp 25),39, "law.go:62",#[],none⟩
def oz7_21_2:Oper:=⟨some 142,Op.move (Operand.tmp 21),3, "law.go:62",#[],none⟩
def oz7_21_3:Oper:=⟨some 143,Op.binOp Go.BinOp.eql 3 (Operand.tmp 141) (Operand.tmp 142) 3,4, "law.go:62",#[ed_ 1,ed_ 2],none⟩
def oz7_21_4:Oper:=⟨some 144,Op.move (Operand.tmp 143),4, "law.go:62",#[ed_ 3],none⟩
def oz7_21_5:Oper:=⟨some 145,Op.load 28 (Operand.tmp 24),28, "law.go:62",#[eg_ 4],some (4,true)⟩
def oz7_21_6:Oper:=⟨some 146,Op.load 28 (Operand.tmp 20),28, "law.go:62",#[eg_ 4],some (4,true)⟩
def oz7_21_7:Oper:=⟨some 147,Op.call { callee:=Callee.value (Operand.func 20),args:=#[Operand.tmp 145,Operand.tmp 146],argTypes:=#[28,28] },4, "law.go:62",#[ed_ 5,ed_ 6,ec_ 4,eg_ 4],some (4,true)⟩
def oz7_21_8:Oper:=⟨some 148,Op.pick (Operand.tmp 144) (Operand.tmp 147) (Operand.const (Value.bool false)),4, "law.go:62",#[ed_ 4,ed_ 7,{ on:=9,ground:=Go.Ground.gcOnly Go.Departure.lateStores }],none⟩
def oz7_21_9:Oper:=⟨some 6,Op.assign (Operand.tmp 140),33, "law.go:62",#[ed_ 0,ec_ 7,ep_ 0,{ on:=1,ground:=Go.Ground.textOnly Go.Departure.lateStores },{ on:=2,ground:=Go.Ground.textOnly Go.Departure.lateStores },{ on:=3,ground:=Go.Ground.textOnly Go.Departure.lateStores },{ on:=4,ground:=Go.Ground.textOnly Go.Departure.lateStores },{ on:=5,ground:=Go.Ground.textOnly Go.Departure.lateStores },{ on:=6,ground:=Go.Ground.textOnly Go.Departure.lateStores },{ on:=7,ground:=Go.Ground.textOnly Go.Departure.lateStoresUnsure },{ on:=8,ground:=Go.Ground.textOnly Go.Departure.lateStores }],none⟩
def oz7_21_10:Oper:=⟨some 7,Op.assign (Operand.tmp 148),4, "law.go:62",#[ed_ 8,ec_ 9,ep_ 0,ep_ 1,ep_ 2,ep_ 3,ep_ 4,ep_ 5,ep_ 6,ep_ 7,ep_ 8,ep_ 9],none⟩
def Oz7_21:Array Oper:=List.toArray (oz7_21_0::oz7_21_1::oz7_21_2::oz7_21_3::oz7_21_4::oz7_21_5::oz7_21_6::oz7_21_7::oz7_21_8::oz7_21_9::oz7_21_10::[])
theorem gz7_21_0:Oz7_21[0]? = some oz7_21_0:=rfl
theorem gz7_21_1:Oz7_21[1]? = some oz7_21_1:=rfl
theorem gz7_21_2:Oz7_21[2]? = some oz7_21_2:=rfl
theorem gz7_21_3:Oz7_21[3]? = some oz7_21_3:=rfl
theorem gz7_21_4:Oz7_21[4]? = some oz7_21_4:=rfl
theorem gz7_21_5:Oz7_21[5]? = some oz7_21_5:=rfl
theorem gz7_21_6:Oz7_21[6]? = some oz7_21_6:=rfl
theorem gz7_21_7:Oz7_21[7]? = some oz7_21_7:=rfl
theorem gz7_21_8:Oz7_21[8]? = some oz7_21_8:=rfl
theorem gz7_21_9:Oz7_21[9]? = some oz7_21_9:=rfl
theorem gz7_21_10:Oz7_21[10]? = some oz7_21_10:=rfl
def cz7_58:Code:=Code.region 21 Oz7_21 false
def cz7_57:Code:=Code.seq cz7_58 Code.ret
def cz7_55:Code:=Code.seq cz7_56 cz7_57
def cz7_45:Code:=Code.seq cz7_46 cz7_55
def cz7_43:Code:=Code.seq cz7_44 cz7_45
def oz7_22_0:Oper:=⟨some 150,Op.binOp Go.BinOp.eql 3 (Operand.tmp 29) (Operand.const (Value.int IntKind.i64 6)) 3,4, "law.go:63",#[],none⟩
def oz7_22_1:Oper:=⟨some 149,Op.assign (Operand.tmp 150),4, "law.go:63",#[ed_ 0],none⟩
def Oz7_22:Array Oper:=List.toArray (oz7_22_0::oz7_22_1::[])
theorem gz7_22_0:Oz7_22[0]? = some oz7_22_0:=rfl
theorem gz7_22_1:Oz7_22[1]? = some oz7_22_1:=rfl
def cz7_61:Code:=Code.region 22 Oz7_22 false
def oz7_23_0:Oper:=⟨some 152,Op.move (Operand.tmp 0),23, "law.go:64",#[],none⟩
def oz7_23_1:Oper:=⟨some 153,Op.fieldAddr 30 (Operand.tmp 5) 1,0, "law.go:64",#[],none⟩
def oz7_23_2:Oper:=⟨some 154,Op.load 3 (Operand.tmp 153),3, "law.go:64",#[ed_ 1],none⟩
def oz7_23_3:Oper:=⟨some 155,Op.call { callee:=Callee.value (Operand.func 10),args:=#[Operand.tmp 152,Operand.tmp 154],argTypes:=#[23,3] },40, "law.go:64",#[ed_ 0,ed_ 2],none⟩
def oz7_23_4:Oper:=⟨some 151,Op.move (Operand.tmp 155),40, "law.go:64",#[ed_ 3],none⟩
def oz7_23_5:Oper:=⟨some 156,Op.extract (Operand.tmp 151) 0,3, "law.go:64",#[ed_ 4],none⟩
def oz7_23_6:Oper:=⟨some 157,Op.extract (Operand.tmp 151) 1,39, "law.go:64",#[ed_ 4,{ on:=7,ground:=Go.Ground.gcOnly Go.Departure.lateStores }],none⟩
def oz7_23_7:Oper:=⟨some 26,Op.assign (Operand.tmp 156),3, "law.go:64",#[ed_ 5,ec_ 3,ep_ 0,ep_ 1,ep_ 2,ep_ 3,ep_ 4,ep_ 5,{ on:=6,ground:=Go.Ground.textOnly Go.Departure.lateStores }],none⟩
def oz7_23_8:Oper:=⟨some 27,Op.assign (Operand.tmp 157),39, "law.go:64",#[ed_ 6,ec_ 7,ep_ 0,ep_ 1,ep_ 2,ep_ 3,ep_ 4,ep_ 5,ep_ 6,ep_ 7],none⟩
def Oz7_23:Array Oper:=List.toArray (oz7_23_0::oz7_23_1::oz7_23_2::oz7_23_3::oz7_23_4::oz7_23_5::oz7_23_6::oz7_23_7::oz7_23_8::[])
theorem gz7_23_0:Oz7_23[0]? = some oz7_23_0:=rfl
theorem gz7_23_1:Oz7_23[1]? = some oz7_23_1:=rfl
theorem gz7_23_2:Oz7_23[2]? = some oz7_23_2:=rfl
theorem gz7_23_3:Oz7_23[3]? = some oz7_23_3:=rfl
theorem gz7_23_4:Oz7_23[4]? = some oz7_23_4:=rfl
theorem gz7_23_5:Oz7_23[5]? = some oz7_23_5:=rfl
theorem gz7_23_6:Oz7_23[6]? = some oz7_23_6:=rfl
theorem gz7_23_7:Oz7_23[7]? = some oz7_23_7:=rfl
theorem gz7_23_8:Oz7_23[8]? = some oz7_23_8:=rfl
def cz7_64:Code:=Code.region 23 Oz7_23 false
def oz7_24_0:Oper:=⟨some 158,Op.move (Operand.tmp 1),33, "law.go:65",#[],none⟩
def oz7_24_1:Oper:=⟨some 159,Op.fieldAddr 30 (Operand.tmp 5) 1,0, "law.go:65",#[],none⟩
def oz7_24_2:Oper:=⟨some 160,Op.load 3 (Operand.tmp 159),3, "law.go:65",#[ed_ 1],none⟩
def oz7_24_3:Oper:=⟨some 161,Op.call { callee:=Callee.value (Operand.func 27),args:=#[Operand.tmp 158,Operand.tmp 160],argTypes:=#[33,3] },4, "law.go:65",#[ed_ 0,ed_ 2],none⟩
def oz7_24_4:Oper:=⟨some 162,Op.unOp Go.UnOp.not 4 (Operand.tmp 161),4, "law.go:65",#[ed_ 3],none⟩
def Oz7_24:Array Oper:=List.toArray (oz7_24_0::oz7_24_1::oz7_24_2::oz7_24_3::oz7_24_4::[])
theorem gz7_24_0:Oz7_24[0]? = some oz7_24_0:=rfl
theorem gz7_24_1:Oz7_24[1]? = some oz7_24_1:=rfl
theorem gz7_24_2:Oz7_24[2]? = some oz7_24_2:=rfl
theorem gz7_24_3:Oz7_24[3]? = some oz7_24_3:=rfl
theorem gz7_24_4:Oz7_24[4]? = some oz7_24_4:=rfl
def cz7_67:Code:=Code.region 24 Oz7_24 false
def oz7_25_0:Oper:=⟨some 163,Op.move (Operand.tmp 1),33, "law.go:66",#[],none⟩
def oz7_25_1:Oper:=⟨some 164,Op.move (Operand.tmp 26),3, "law.go:66",#[],none⟩
def oz7_25_2:Oper:=⟨some 165,Op.binOp Go.BinOp.eql 3 (Operand.tmp 164) (Operand.const (Value.int IntKind.i64 0)) 3,4, "law.go:66",#[ed_ 1],none⟩
def oz7_25_3:Oper:=⟨some 166,Op.move (Operand.tmp 165),4, "law.go:66",#[ed_ 2],none⟩
def oz7_25_4:Oper:=⟨some 167,Op.move (Operand.tmp 27),39, "law.go:66",#[eg_ 3,{ on:=7,ground:=Go.Ground.gcOnly Go.Departure.lateStores }],some (3,true)⟩
def oz7_25_5:Oper:=⟨some 168,Op.binOp Go.BinOp.eql 39 (Operand.tmp 167) (Operand.const (Value.int IntKind.i64 140)) 39,4, "law.go:66",#[ed_ 4,eg_ 3,{ on:=7,ground:=Go.Ground.gcOnly Go.Departure.lateStores }],some (3,true)⟩
def oz7_25_6:Oper:=⟨some 169,Op.pick (Operand.tmp 166) (Operand.tmp 168) (Operand.const (Value.bool false)),4, "law.go:66",#[ed_ 3,ed_ 5,{ on:=7,ground:=Go.Ground.gcOnly Go.Departure.lateStores }],none⟩
def oz7_25_7:Oper:=⟨some 6,Op.assign (Operand.tmp 163),33, "law.go:66",#[ed_ 0,ec_ 3,ep_ 0,{ on:=1,ground:=Go.Ground.textOnly Go.Departure.lateStores },{ on:=2,ground:=Go.Ground.textOnly Go.Departure.lateStores },{ on:=3,ground:=Go.Ground.textOnly Go.Departure.lateStores },{ on:=4,ground:=Go.Ground.textOnly Go.Departure.lateStores },{ on:=5,ground:=Go.Ground.textOnly Go.Departure.lateStores },{ on:=6,ground:=Go.Ground.textOnly Go.Departure.lateStores }],none⟩
def oz7_25_8:Oper:=⟨some 7,Op.assign (Operand.tmp 169),4, "law.go:66",#[ed_ 6,ec_ 7,ep_ 0,ep_ 1,ep_ 2,ep_ 3,ep_ 4,ep_ 5,ep_ 6,ep_ 7],none⟩
def Oz7_25:Array Oper:=List.toArray (oz7_25_0::oz7_25_1::oz7_25_2::oz7_25_3::oz7_25_4::oz7_25_5::oz7_25_6::oz7_25_7::oz7_25_8::[])
theorem gz7_25_0:Oz7_25[0]? = some oz7_25_0:=rfl
theorem gz7_25_1:Oz7_25[1]? = some oz7_25_1:=rfl
theorem gz7_25_2:Oz7_25[2]? = some oz7_25_2:=rfl
theorem gz7_25_3:Oz7_25[3]? = some oz7_25_3:=rfl
theorem gz7_25_4:Oz7_25[4]? = some oz7_25_4:=rfl
theorem gz7_25_5:Oz7_25[5]? = some oz7_25_5:=rfl
theorem gz7_25_6:Oz7_25[6]? = some oz7_25_6:=rfl
theorem gz7_25_7:Oz7_25[7]? = some oz7_25_7:=rfl
theorem gz7_25_8:Oz7_25[8]? = some oz7_25_8:=rfl
def cz7_70:Code:=Code.region 25 Oz7_25 false
def cz7_69:Code:=Code.seq cz7_70 Code.ret
def cz7_68:Code:=Code.cond (Operand.tmp 162) cz7_69 Code.skip
def cz7_66:Code:=Code.seq cz7_67 cz7_68
def oz7_26_0:Oper:=⟨some 170,Op.move (Operand.tmp 1),33, "law.go:68",#[],none⟩
def oz7_26_1:Oper:=⟨some 171,Op.move (Operand.tmp 26),3, "law.go:68",#[],none⟩
def oz7_26_2:Oper:=⟨some 172,Op.move (Operand.tmp 1),33, "law.go:68",#[],none⟩
def oz7_26_3:Oper:=⟨some 173,Op.fieldAddr 30 (Operand.tmp 5) 1,0, "law.go:68",#[],none⟩
def oz7_26_4:Oper:=⟨some 174,Op.load 3 (Operand.tmp 173),3, "law.go:68",#[ed_ 3],none⟩
def oz7_26_5:Oper:=⟨some 175,Op.binOp Go.BinOp.sub 3 (Operand.tmp 174) (Operand.const (Value.int IntKind.i64 1)) 3,3, "law.go:68",#[ed_ 4],none⟩
def oz7_26_6:Oper:=⟨some 176,Op.indexAddr 33 (Operand.tmp 172) (Operand.tmp 175),0, "law.go:68",#[ed_ 2,ed_ 5],none⟩
def oz7_26_7:Oper:=⟨some 177,Op.fieldAddr 64 (Operand.tmp 176) 2,0, "law.go:68",#[ed_ 6],none⟩
def oz7_26_8:Oper:=⟨some 178,Op.load 26 (Operand.tmp 177),26, "law.go:68",#[ed_ 7],none⟩
def oz7_26_9:Oper:=⟨some 179,Op.call { callee:=Callee.builtin Go.Builtin.len,args:=#[Operand.tmp 178],argTypes:=#[26] },3, "law.go:68",#[ed_ 8],none⟩
def oz7_26_10:Oper:=⟨some 180,Op.binOp Go.BinOp.eql 3 (Operand.tmp 171) (Operand.tmp 179) 3,4, "law.go:68",#[ed_ 1,ed_ 9],none⟩
def oz7_26_11:Oper:=⟨some 181,Op.move (Operand.tmp 180),4, "law.go:68",#[ed_ 10],none⟩
def oz7_26_12:Oper:=⟨some 182,Op.move (Operand.tmp 27),39, "law.go:68",#[eg_ 11,{ on:=15,ground:=Go.Ground.gcOnly Go.Departure.lateStores }],some (11,true)⟩
def oz7_26_13:Oper:=⟨some 183,Op.binOp Go.BinOp.eql 39 (Operand.tmp 182) (Operand.const (Value.int IntKind.i64 0)) 39,4, "law.go:68",#[ed_ 12,eg_ 11,{ on:=15,ground:=Go.Ground.gcOnly Go.Departure.lateStores }],some (11,true)⟩
def oz7_26_14:Oper:=⟨some 184,Op.pick (Operand.tmp 181) (Operand.tmp 183) (Operand.const (Value.bool false)),4, "law.go:68",#[ed_ 11,ed_ 13,{ on:=15,ground:=Go.Ground.gcOnly Go.Departure.lateStores }],none⟩
def oz7_26_15:Oper:=⟨some 6,Op.assign (Operand.tmp 170),33, "law.go:68",#[ed_ 0,ec_ 11,ep_ 0,{ on:=1,ground:=Go.Ground.textOnly Go.Departure.lateStores },{ on:=2,ground:=Go.Ground.textOnly Go.Departure.lateStores },{ on:=3,ground:=Go.Ground.textOnly Go.Departure.lateStores },{ on:=4,ground:=Go.Ground.textOnly Go.Departure.lateStores },{ on:=5,ground:=Go.Ground.textOnly Go.Departure.lateStores },{ on:=6,ground:=Go.Ground.textOnly Go.Departure.lateStores },{ on:=7,ground:=Go.Ground.textOnly Go.Departure.lateStores },{ on:=8,ground:=Go.Ground.textOnly Go.Departure.lateStores },{ on:=9,ground:=Go.Ground.textOnly Go.Departure.lateStoresUnsure },{ on:=10,ground:=Go.Ground.textOnly Go.Departure.lateStores },{ on:=11,ground:=Go.Ground.textOnly Go.Departure.lateStores },{ on:=12,ground:=Go.Ground.textOnly Go.Departure.lateStores },{ on:=13,ground:=Go.Ground.textOnly Go.Departure.lateStores },{ on:=14,ground:=Go.Ground.textOnly Go.Departure.lateStores }],none⟩
def oz7_26_16:Oper:=⟨some 7,Op.assign (Operand.tmp 184),4, "law.go:68",#[ed_ 14,ec_ 15,ep_ 0,ep_ 1,ep_ 2,ep_ 3,ep_ 4,ep_ 5,ep_ 6,ep_ 7,ep_ 8,ep_ 9,ep_ 10,ep_ 11,ep_ 12,ep_ 13,ep_ 14,ep_ 15],none⟩
def Oz7_26:Array Oper:=List.toArray (oz7_26_0::oz7_26_1::oz7_26_2::oz7_26_3::oz7_26_4::oz7_26_5::oz7_26_6::oz7_26_7::oz7_26_8::oz7_26_9::oz7_26_10::oz7_26_11::oz7_26_12::oz7_26_13::oz7_26_14::oz7_26_15::oz7_26_16::[])
def cz7_74:Code:=Code.region 26 Oz7_26 false
def cz7_73:Code:=Code.seq cz7_74 Code.ret
def cz7_65:Code:=Code.seq cz7_66 cz7_73
def cz7_63:Code:=Code.seq cz7_64 cz7_65
def cz7_62:Code:=Code.cond (Operand.tmp 149) cz7_63 Code.skip
def cz7_60:Code:=Code.seq cz7_61 cz7_62
def cz7_42:Code:=Code.cond (Operand.tmp 94) cz7_43 cz7_60
def cz7_36:Code:=Code.seq cz7_37 cz7_42
def cz7_28:Code:=Code.cond (Operand.tmp 73) cz7_29 cz7_36
def cz7_26:Code:=Code.seq cz7_27 cz7_28
def cz7_18:Code:=Code.cond (Operand.tmp 56) cz7_19 cz7_26
def cz7_16:Code:=Code.seq cz7_17 cz7_18
def cz7_8:Code:=Code.cond (Operand.tmp 30) cz7_9 cz7_16
def cz7_6:Code:=Code.seq cz7_7 cz7_8
def cz7_5:Code:=Code.block 0 cz7_6
def cz7_3:Code:=Code.seq cz7_4 cz7_5
def oz7_27_0:Oper:=⟨some 185,Op.move (Operand.tmp 1),33, "law.go:70",#[],none⟩
def oz7_27_1:Oper:=⟨some 6,Op.assign (Operand.tmp 185),33, "law.go:70",#[ed_ 0,ep_ 0],none⟩
def oz7_27_2:Oper:=⟨some 7,Op.assign (Operand.const (Value.bool true)),4, "law.go:70",#[ec_ 1,ep_ 0,ep_ 1],none⟩
def Oz7_27:Array Oper:=List.toArray (oz7_27_0::oz7_27_1::oz7_27_2::[])
theorem gz7_27_0:Oz7_27[0]? = some oz7_27_0:=rfl
theorem gz7_27_1:Oz7_27[1]? = some oz7_27_1:=rfl
theorem gz7_27_2:Oz7_27[2]? = some oz7_27_2:=rfl
def cz7_78:Code:=Code.region 27 Oz7_27 false
def cz7_77:Code:=Code.seq cz7_78 Code.ret
def cz7_2:Code:=Code.seq cz7_3 cz7_77
def cz7_0:Code:=Code.seq cz7_1 cz7_2
theorem enz7_11:Enters Tryz.prog 20:=enters_of Tryz.func20 (by kernel_rfl) rfl
theorem enz7_23:Enters Tryz.prog 14:=enters_of Tryz.func14 (by kernel_rfl) rfl
theorem enz7_29:Enters Tryz.prog 10:=enters_of Tryz.func10 (by kernel_rfl) rfl
theorem enz7_59:Enters Tryz.prog 13:=enters_of Tryz.func13 (by kernel_rfl) rfl
theorem enz7_1023:Enters Tryz.prog 23:=enters_of Tryz.func23 (by kernel_rfl) rfl
theorem enz7_1024:Enters Tryz.prog 24:=enters_of Tryz.func24 (by kernel_rfl) rfl
theorem enz7_1027:Enters Tryz.prog 27:=enters_of Tryz.func27 (by kernel_rfl) rfl
theorem bodyz7:Tryz.f7.body=some cz7_0:=by kernel_rfl
set_option maxRecDepth 100000 in
set_option maxHeartbeats 4000000 in
theorem does_w {W:World} {B pb mb nq:Nat} {RR:Nat→Prop} {md kd kq nn:Int} {ff:Int→Option Qu} {t:Tm} {va ta:Option Addr} {vc tc:Nat} {f0:Act} {w0:World} (R:FrS 186 f0) (h0:f0.tmps[0]? = some (.pointer (some ⟨pb,0,none⟩))) (h1:f0.tmps[1]? = some (.slice va 0 vc)) (h2:f0.tmps[2]? = some (.agg #[.int .i64 kd,.int .i64 kq,.int .i64 nn,.int .i64 t.k,.string (str t.nm),.int .i64 t.i,.slice ta t.args.length tc])) (KP:Keep (fun g=>g < W.heap.size) W w0)  (HP:Hid (PoAt B RR W pb mb md ff nq)) (HMD:Hid (md ≤ 4611686018427387904)) (HK:Hid ((ik kq).wf=true)) (HT:Hid (TmAt W.heap.size W t ta tc)):cz7_0.wp Tryz.prog (bodyPost Tryz.prog Tryz.f7 (fun e w'=>(∃ (v:Value) (b:Bool),e=.returned (.tuple #[v,.bool b]))∧Chg B RR W w' pb mb md ff kq)) f0 w0:=by
 refine wp_seq (x:=cz7_1) (y:=cz7_2) ?_
 change (Code.region 0 Oz7_0 false).wp _ _ _ _
 refine reg_in (l:=[0,1,2]) rfl ?_
 have F:FE_ _ [] f0 f0:=⟨R,Ag_.refl _⟩;clear R
 have Y:(execOp f0.eval oz7_0_0).run Tryz.prog w0=.ok (.value (.pointer (some ⟨w0.heap.size,0,none⟩))) (w0.alloc (.cells #[.int .i64 kd,.int .i64 kq,.int .i64 nn,.int .i64 t.k,.string (str t.nm),.int .i64 t.i,.slice ta t.args.length tc] 30)):=by have r2:=F.of h2;unfold oz7_0_0;go_simp
 have B101:=Blk.new w0 30 #[.int .i64 kd,.int .i64 kq,.int .i64 nn,.int .i64 t.k,.string (str t.nm),.int .i64 t.i,.slice ta t.args.length tc]
 obtain ⟨w102,hw⟩:∃ x,x=w0.alloc (.cells #[.int .i64 kd,.int .i64 kq,.int .i64 nn,.int .i64 t.k,.string (str t.nm),.int .i64 t.i,.slice ta t.args.length tc] 30):=⟨_,rfl⟩;rw [← hw] at Y B101
 obtain ⟨b101,hb⟩:∃ x,x=w0.heap.size:=⟨_,rfl⟩;rw [← hb] at Y B101
 have LKP_b101:=lk_ hb KP;replace KP:=ka_ hw KP;clear hw hb
 refine sv_ gz7_0_0 Y fun a103 e=>?_;clear Y
 have h5:=pt_ F e;replace F:=pu_ F e;clear e
 have Y:(execOp a103.eval oz7_0_1).run Tryz.prog w102=.ok (.value (Value.slice none 0 0)) w102:=by unfold oz7_0_1;go_simp
 refine sv_ gz7_0_1 Y fun a104 e=>?_;clear Y
 have h6:=pt_ F e;replace F:=pu_ F e;replace h5:=so_ e h5;clear e
 have Y:(execOp a104.eval oz7_0_2).run Tryz.prog w102=.ok (.value (.bool false)) w102:=by unfold oz7_0_2;go_simp
 refine sv_ gz7_0_2 Y fun a105 e=>?_;clear Y
 have h7:=pt_ F e;replace F:=pu_ F e;replace h5:=so_ e h5;replace h6:=so_ e h6;clear e
 refine st_end ?_
 replace h0:=F.of h0;replace h1:=F.of h1;clear h2;have R:=F.r;clear F
 change (cz7_2).wp _ _ _ _
 refine wp_seq (x:=cz7_3) (y:=cz7_77) ?_
 refine wp_seq (x:=cz7_4) (y:=cz7_5) ?_
 change (Code.region 1 Oz7_1 false).wp _ _ _ _
 refine reg_in (l:=[0,1]) rfl ?_
 have F:FE_ _ [] a105 a105:=⟨R,Ag_.refl _⟩;clear R
 have Y:(execOp a105.eval oz7_1_0).run Tryz.prog w102=.ok (.value (.pointer (some ⟨b101,0,none⟩))) w102:=by have r5:=F.of h5;unfold oz7_1_0;go_simp
 refine sv_ gz7_1_0 Y fun a106 e=>?_;clear Y
 have h28:=pt_ F e;replace F:=pu_ F e;clear e
 have Y:(execOp a106.eval oz7_1_1).run Tryz.prog w102=.ok (.value (.int .i64 kd)) w102:=by have qq0:w102.cell? ⟨b101,0,none⟩=some (.int .i64 kd):=B101.cell 0;have qq1:w102.cell? ⟨b101,1,none⟩=some (.int .i64 kq):=B101.cell 1;have qq2:w102.cell? ⟨b101,2,none⟩=some (.int .i64 nn):=B101.cell 2;have qq3:w102.cell? ⟨b101,3,none⟩=some (.int .i64 t.k):=B101.cell 3;have qq4:w102.cell? ⟨b101,4,none⟩=some (.string (str t.nm)):=B101.cell 4;have qq5:w102.cell? ⟨b101,5,none⟩=some (.int .i64 t.i):=B101.cell 5;have qq6:w102.cell? ⟨b101,6,none⟩=some (.slice ta t.args.length tc):=B101.cell 6;unfold oz7_1_1;go_simp
 refine sv_ gz7_1_1 Y fun a107 e=>?_;clear Y
 clear h28;have h29:=pt_ F e;replace F:=pu_ F e;clear e
 refine st_end ?_
 replace h0:=F.of h0;replace h1:=F.of h1;replace h5:=F.of h5;replace h6:=F.of h6;replace h7:=F.of h7;have R:=F.r;clear F
 change (cz7_5).wp _ _ _ _
 refine wp_block (id:=0) (c:=cz7_6) ?_
 refine wp_seq (x:=cz7_7) (y:=cz7_8) ?_
 change (Code.region 2 Oz7_2 false).wp _ _ _ _
 refine reg_in (l:=[0,1]) rfl ?_
 have F:FE_ _ [] a107 a107:=⟨R,Ag_.refl _⟩;clear R
 obtain ⟨b108,hb108⟩:∃ x,(((kd:Int) == (1:Int)))=x:=⟨_,rfl⟩
 have Y:(execOp a107.eval oz7_2_0).run Tryz.prog w102=.ok (.value (.bool b108)) w102:=by have r29:=F.of h29;rw [← hb108];unfold oz7_2_0;go_simp
 refine sv_ gz7_2_0 Y fun a109 e=>?_;clear Y
 have h31:=pt_ F e;replace F:=pu_ F e;clear e
 refine sv_ gz7_2_1 (ya_ rfl h31) fun a110 e=>?_
 clear h31;have h30:=pt_ F e;replace F:=pu_ F e;clear e
 refine st_end ?_
 replace h0:=F.of h0;replace h1:=F.of h1;replace h5:=F.of h5;replace h6:=F.of h6;replace h7:=F.of h7;replace h29:=F.of h29;have R:=F.r;clear F
 change (cz7_8).wp _ _ _ _
 cases b108 with
 | false =>
  have fb108:=hb108;clear hb108
  simp only [decide_eq_true_eq,decide_eq_false_iff_not,bne_iff_ne,bne_eq_false_iff_eq,beq_iff_eq,beq_eq_false_iff_ne,ne_eq,Bool.not_eq_true',Bool.not_eq_false',Bool.not_eq_eq_eq_not,Bool.not_true,Bool.not_false] at fb108
  refine wp_cond_false (x:=cz7_9) (y:=cz7_16) (eval_slot h30) ?_
  refine wp_seq (x:=cz7_17) (y:=cz7_18) ?_
  change (Code.region 6 Oz7_6 false).wp _ _ _ _
  refine reg_in (l:=[0,1]) rfl ?_
  have F:FE_ _ [] a110 a110:=⟨R,Ag_.refl _⟩;clear R
  obtain ⟨b111,hb111⟩:∃ x,(((kd:Int) == (2:Int)))=x:=⟨_,rfl⟩
  have Y:(execOp a110.eval oz7_6_0).run Tryz.prog w102=.ok (.value (.bool b111)) w102:=by have r29:=F.of h29;rw [← hb111];unfold oz7_6_0;go_simp
  refine sv_ gz7_6_0 Y fun a112 e=>?_;clear Y
  have h57:=pt_ F e;replace F:=pu_ F e;clear e
  refine sv_ gz7_6_1 (ya_ rfl h57) fun a113 e=>?_
  clear h57;have h56:=pt_ F e;replace F:=pu_ F e;clear e
  refine st_end ?_
  replace h0:=F.of h0;replace h1:=F.of h1;replace h5:=F.of h5;replace h6:=F.of h6;replace h7:=F.of h7;replace h29:=F.of h29;clear h30;have R:=F.r;clear F
  change (cz7_18).wp _ _ _ _
  cases b111 with
  | false =>
   have fb111:=hb111;clear hb111
   simp only [decide_eq_true_eq,decide_eq_false_iff_not,bne_iff_ne,bne_eq_false_iff_eq,beq_iff_eq,beq_eq_false_iff_ne,ne_eq,Bool.not_eq_true',Bool.not_eq_false',Bool.not_eq_eq_eq_not,Bool.not_true,Bool.not_false] at fb111
   refine wp_cond_false (x:=cz7_19) (y:=cz7_26) (eval_slot h56) ?_
   refine wp_seq (x:=cz7_27) (y:=cz7_28) ?_
   change (Code.region 10 Oz7_10 false).wp _ _ _ _
   refine reg_in (l:=[0,1]) rfl ?_
   have F:FE_ _ [] a113 a113:=⟨R,Ag_.refl _⟩;clear R
   obtain ⟨b114,hb114⟩:∃ x,(((kd:Int) == (3:Int)))=x:=⟨_,rfl⟩
   have Y:(execOp a113.eval oz7_10_0).run Tryz.prog w102=.ok (.value (.bool b114)) w102:=by have r29:=F.of h29;rw [← hb114];unfold oz7_10_0;go_simp
   refine sv_ gz7_10_0 Y fun a115 e=>?_;clear Y
   have h74:=pt_ F e;replace F:=pu_ F e;clear e
   refine sv_ gz7_10_1 (ya_ rfl h74) fun a116 e=>?_
   clear h74;have h73:=pt_ F e;replace F:=pu_ F e;clear e
   refine st_end ?_
   replace h0:=F.of h0;replace h1:=F.of h1;replace h5:=F.of h5;replace h6:=F.of h6;replace h7:=F.of h7;replace h29:=F.of h29;clear h56;have R:=F.r;clear F
   change (cz7_28).wp _ _ _ _
   cases b114 with
   | false =>
    have fb114:=hb114;clear hb114
    simp only [decide_eq_true_eq,decide_eq_false_iff_not,bne_iff_ne,bne_eq_false_iff_eq,beq_iff_eq,beq_eq_false_iff_ne,ne_eq,Bool.not_eq_true',Bool.not_eq_false',Bool.not_eq_eq_eq_not,Bool.not_true,Bool.not_false] at fb114
    refine wp_cond_false (x:=cz7_29) (y:=cz7_36) (eval_slot h73) ?_
    refine wp_seq (x:=cz7_37) (y:=cz7_42) ?_
    refine wp_seq (x:=cz7_38) (y:=cz7_39) ?_
    change (Code.region 14 Oz7_14 false).wp _ _ _ _
    refine reg_in (l:=[0,1]) rfl ?_
    have F:FE_ _ [] a116 a116:=⟨R,Ag_.refl _⟩;clear R
    obtain ⟨b117,hb117⟩:∃ x,(((kd:Int) == (4:Int)))=x:=⟨_,rfl⟩
    have Y:(execOp a116.eval oz7_14_0).run Tryz.prog w102=.ok (.value (.bool b117)) w102:=by have r29:=F.of h29;rw [← hb117];unfold oz7_14_0;go_simp
    refine sv_ gz7_14_0 Y fun a118 e=>?_;clear Y
    have h95:=pt_ F e;replace F:=pu_ F e;clear e
    refine sv_ gz7_14_1 (ya_ rfl h95) fun a119 e=>?_
    clear h95;have h94:=pt_ F e;replace F:=pu_ F e;clear e
    refine st_end ?_
    replace h0:=F.of h0;replace h1:=F.of h1;replace h5:=F.of h5;replace h6:=F.of h6;replace h7:=F.of h7;replace h29:=F.of h29;clear h73;have R:=F.r;clear F
    change (cz7_39).wp _ _ _ _
    cases b117 with
    | false =>
     have fb117:=hb117;clear hb117
     simp only [decide_eq_true_eq,decide_eq_false_iff_not,bne_iff_ne,bne_eq_false_iff_eq,beq_iff_eq,beq_eq_false_iff_ne,ne_eq,Bool.not_eq_true',Bool.not_eq_false',Bool.not_eq_eq_eq_not,Bool.not_true,Bool.not_false] at fb117
     refine wp_cond_false (x:=Code.skip) (y:=cz7_41) (eval_slot h94) ?_
     change (Code.region 15 Oz7_15 false).wp _ _ _ _
     refine reg_in (l:=[0,1]) rfl ?_
     have F:FE_ _ [] a119 a119:=⟨R,Ag_.refl _⟩;clear R
     obtain ⟨b120,hb120⟩:∃ x,(((kd:Int) == (5:Int)))=x:=⟨_,rfl⟩
     have Y:(execOp a119.eval oz7_15_0).run Tryz.prog w102=.ok (.value (.bool b120)) w102:=by have r29:=F.of h29;rw [← hb120];unfold oz7_15_0;go_simp
     refine sv_ gz7_15_0 Y fun a121 e=>?_;clear Y
     have h96:=pt_ F e;replace F:=pu_ F e;clear e
     refine sv_ gz7_15_1 (ya_ rfl h96) fun a122 e=>?_
     clear h96 h94;have h94:=pt_ F e;replace F:=pu_ F e;clear e
     refine st_end ?_
     replace h0:=F.of h0;replace h1:=F.of h1;replace h5:=F.of h5;replace h6:=F.of h6;replace h7:=F.of h7;replace h29:=F.of h29;have R:=F.r;clear F
     change (cz7_42).wp _ _ _ _
     cases b120 with
     | false =>
      have fb120:=hb120;clear hb120
      simp only [decide_eq_true_eq,decide_eq_false_iff_not,bne_iff_ne,bne_eq_false_iff_eq,beq_iff_eq,beq_eq_false_iff_ne,ne_eq,Bool.not_eq_true',Bool.not_eq_false',Bool.not_eq_eq_eq_not,Bool.not_true,Bool.not_false] at fb120
      refine wp_cond_false (x:=cz7_43) (y:=cz7_60) (eval_slot h94) ?_
      refine wp_seq (x:=cz7_61) (y:=cz7_62) ?_
      change (Code.region 22 Oz7_22 false).wp _ _ _ _
      refine reg_in (l:=[0,1]) rfl ?_
      have F:FE_ _ [] a122 a122:=⟨R,Ag_.refl _⟩;clear R
      obtain ⟨b123,hb123⟩:∃ x,(((kd:Int) == (6:Int)))=x:=⟨_,rfl⟩
      have Y:(execOp a122.eval oz7_22_0).run Tryz.prog w102=.ok (.value (.bool b123)) w102:=by have r29:=F.of h29;rw [← hb123];unfold oz7_22_0;go_simp
      refine sv_ gz7_22_0 Y fun a124 e=>?_;clear Y
      have h150:=pt_ F e;replace F:=pu_ F e;clear e
      refine sv_ gz7_22_1 (ya_ rfl h150) fun a125 e=>?_
      clear h150;have h149:=pt_ F e;replace F:=pu_ F e;clear e
      refine st_end ?_
      replace h0:=F.of h0;replace h1:=F.of h1;replace h5:=F.of h5;replace h6:=F.of h6;replace h7:=F.of h7;clear h29;clear h94;have R:=F.r;clear F
      change (cz7_62).wp _ _ _ _
      cases b123 with
      | false =>
       have fb123:=hb123;clear hb123
       simp only [decide_eq_true_eq,decide_eq_false_iff_not,bne_iff_ne,bne_eq_false_iff_eq,beq_iff_eq,beq_eq_false_iff_ne,ne_eq,Bool.not_eq_true',Bool.not_eq_false',Bool.not_eq_eq_eq_not,Bool.not_true,Bool.not_false] at fb123
       refine wp_cond_false (x:=cz7_63) (y:=Code.skip) (eval_slot h149) ?_
       refine wp_skip ?_
       change (cz7_77).wp _ _ _ _
       refine wp_seq (x:=cz7_78) (y:=Code.ret) ?_
       change (Code.region 27 Oz7_27 false).wp _ _ _ _
       refine reg_in (l:=[0,1,2]) rfl ?_
       have F:FE_ _ [] a125 a125:=⟨R,Ag_.refl _⟩;clear R
       refine sv_ gz7_27_0 (ym_ rfl (F.of h1)) fun a126 e=>?_
       have h185:=pt_ F e;replace F:=pu_ F e;clear e
       refine sv_ gz7_27_1 (ya_ rfl h185) fun a127 e=>?_
       clear h185 h6;have h6:=pt_ F e;replace F:=pu_ F e;clear e
       have Y:(execOp a127.eval oz7_27_2).run Tryz.prog w102=.ok (.value (.bool true)) w102:=by unfold oz7_27_2;go_simp
       refine sv_ gz7_27_2 Y fun a128 e=>?_;clear Y
       clear h7;have h7:=pt_ F e;replace F:=pu_ F e;replace h6:=so_ e h6;clear e
       refine st_end ?_
       clear h0;clear h1;clear h5;clear h149;have R:=F.r;clear F
       change (Code.ret).wp _ _ _ _
       refine wp_ret ?_
       change bodyPost Tryz.prog Tryz.f7 (fun e w'=>(∃ (v:Value) (b:Bool),e=.returned (.tuple #[v,.bool b]))∧Chg B RR W w' pb mb md ff kq) .ret a128 w102
       refine ret_el2 rfl R.defers h6 h7 ?_
       exact ⟨⟨_,_,rfl⟩,Chg.same HP.out KP⟩
      | true =>
       have fb123:=hb123;clear hb123
       simp only [decide_eq_true_eq,decide_eq_false_iff_not,bne_iff_ne,bne_eq_false_iff_eq,beq_iff_eq,beq_eq_false_iff_ne,ne_eq,Bool.not_eq_true',Bool.not_eq_false',Bool.not_eq_eq_eq_not,Bool.not_true,Bool.not_false] at fb123
       refine wp_cond_true (x:=cz7_63) (y:=Code.skip) (eval_slot h149) ?_
       refine wp_seq (x:=cz7_64) (y:=cz7_65) ?_
       change (Code.region 23 Oz7_23 false).wp _ _ _ _
       refine reg_in (l:=[0,1,2,3,4,5,6,7,8]) rfl ?_
       have F:FE_ _ [] a125 a125:=⟨R,Ag_.refl _⟩;clear R
       refine sv_ gz7_23_0 (ym_ rfl (F.of h0)) fun a129 e=>?_
       have h152:=pt_ F e;replace F:=pu_ F e;clear e
       have Y:(execOp a129.eval oz7_23_1).run Tryz.prog w102=.ok (.value (.pointer (some ⟨b101,1,none⟩))) w102:=by have r5:=F.of h5;unfold oz7_23_1;go_simp
       refine sv_ gz7_23_1 Y fun a130 e=>?_;clear Y
       have h153:=pt_ F e;replace F:=pu_ F e;replace h152:=so_ e h152;clear e
       have Y:(execOp a130.eval oz7_23_2).run Tryz.prog w102=.ok (.value (.int .i64 kq)) w102:=by have qq0:w102.cell? ⟨b101,0,none⟩=some (.int .i64 kd):=B101.cell 0;have qq1:w102.cell? ⟨b101,1,none⟩=some (.int .i64 kq):=B101.cell 1;have qq2:w102.cell? ⟨b101,2,none⟩=some (.int .i64 nn):=B101.cell 2;have qq3:w102.cell? ⟨b101,3,none⟩=some (.int .i64 t.k):=B101.cell 3;have qq4:w102.cell? ⟨b101,4,none⟩=some (.string (str t.nm)):=B101.cell 4;have qq5:w102.cell? ⟨b101,5,none⟩=some (.int .i64 t.i):=B101.cell 5;have qq6:w102.cell? ⟨b101,6,none⟩=some (.slice ta t.args.length tc):=B101.cell 6;unfold oz7_23_2;go_simp
       refine sv_ gz7_23_2 Y fun a131 e=>?_;clear Y
       clear h153;have h154:=pt_ F e;replace F:=pu_ F e;replace h152:=so_ e h152;clear e
       refine st_call gz7_23_3 rfl (wanted_free rfl) (yc2_ enz7_29 rfl h152 h154) ((len_c (HP.out.on KP) HK.out).mono ?_)
       rintro e9 w132 ⟨z,er,rfl,hc⟩
       replace B101:=B101.keep hc.2 ⟨B101.lt,fun h=>absurd (HP.out.rb _ h).2 (Nat.not_lt.2 LKP_b101)⟩
       have HC:Hid (Chg B RR W w132 pb mb md ff kq):=Lib.hid (Chg.onto (KP.less fun g hg=>hg.1) hc KP.size);clear hc
       clear KP
       have kk:=trivial
       clear kk
       have KC:=Keep.refl (fun g=>g < w132.heap.size) w132
       refine ⟨_,rfl,fun a133 e=>?_⟩
       clear h152 h154;have h155:=pt_ F e;replace F:=pu_ F e;clear e
       refine sv_ gz7_23_4 (ym_ rfl h155) fun a134 e=>?_
       clear h155;have h151:=pt_ F e;replace F:=pu_ F e;clear e
       refine sv_ gz7_23_5 (ye20_ rfl h151) fun a135 e=>?_
       have h156:=pt_ F e;replace F:=pu_ F e;replace h151:=so_ e h151;clear e
       refine sv_ gz7_23_6 (ye21_ rfl h151) fun a136 e=>?_
       clear h151;have h157:=pt_ F e;replace F:=pu_ F e;replace h156:=so_ e h156;clear e
       refine sv_ gz7_23_7 (ya_ rfl h156) fun a137 e=>?_
       clear h156;have h26:=pt_ F e;replace F:=pu_ F e;replace h157:=so_ e h157;clear e
       refine sv_ gz7_23_8 (ya_ rfl h157) fun a138 e=>?_
       clear h157;have h27:=pt_ F e;replace F:=pu_ F e;replace h26:=so_ e h26;clear e
       refine st_end ?_
       clear h0;replace h1:=F.of h1;replace h5:=F.of h5;replace h6:=F.of h6;replace h7:=F.of h7;clear h149;have R:=F.r;clear F
       change (cz7_65).wp _ _ _ _
       refine wp_seq (x:=cz7_66) (y:=cz7_73) ?_
       refine wp_seq (x:=cz7_67) (y:=cz7_68) ?_
       change (Code.region 24 Oz7_24 false).wp _ _ _ _
       refine reg_in (l:=[0,1,2,3,4]) rfl ?_
       have F:FE_ _ [] a138 a138:=⟨R,Ag_.refl _⟩;clear R
       refine sv_ gz7_24_0 (ym_ rfl (F.of h1)) fun a139 e=>?_
       have h158:=pt_ F e;replace F:=pu_ F e;clear e
       have Y:(execOp a139.eval oz7_24_1).run Tryz.prog w132=.ok (.value (.pointer (some ⟨b101,1,none⟩))) w132:=by have r5:=F.of h5;unfold oz7_24_1;go_simp
       refine sv_ gz7_24_1 Y fun a140 e=>?_;clear Y
       have h159:=pt_ F e;replace F:=pu_ F e;replace h158:=so_ e h158;clear e
       have Y:(execOp a140.eval oz7_24_2).run Tryz.prog w132=.ok (.value (.int .i64 kq)) w132:=by have qq0:w132.cell? ⟨b101,0,none⟩=some (.int .i64 kd):=B101.cell 0;have qq1:w132.cell? ⟨b101,1,none⟩=some (.int .i64 kq):=B101.cell 1;have qq2:w132.cell? ⟨b101,2,none⟩=some (.int .i64 nn):=B101.cell 2;have qq3:w132.cell? ⟨b101,3,none⟩=some (.int .i64 t.k):=B101.cell 3;have qq4:w132.cell? ⟨b101,4,none⟩=some (.string (str t.nm)):=B101.cell 4;have qq5:w132.cell? ⟨b101,5,none⟩=some (.int .i64 t.i):=B101.cell 5;have qq6:w132.cell? ⟨b101,6,none⟩=some (.slice ta t.args.length tc):=B101.cell 6;unfold oz7_24_2;go_simp
       refine sv_ gz7_24_2 Y fun a141 e=>?_;clear Y
       clear h159;have h160:=pt_ F e;replace F:=pu_ F e;replace h158:=so_ e h158;clear e
       refine st_call gz7_24_3 rfl (wanted_free rfl) (yc2_ enz7_1027 rfl h158 h160) ((refIsK w132 va vc kq).mono ?_)
       rintro e9 w142 ⟨rfl,kk⟩
       replace KC:=keep_onto KC kk
       replace B101:=blk_on B101 kk
       clear kk
       refine ⟨_,rfl,fun a143 e=>?_⟩
       clear h158 h160;have h161:=pt_ F e;replace F:=pu_ F e;clear e
       have Y:(execOp a143.eval oz7_24_4).run Tryz.prog w142=.ok (.value (.bool true)) w142:=by unfold oz7_24_4;go_simp
       refine sv_ gz7_24_4 Y fun a144 e=>?_;clear Y
       clear h161;have h162:=pt_ F e;replace F:=pu_ F e;clear e
       refine st_end ?_
       replace h1:=F.of h1;replace h5:=F.of h5;replace h6:=F.of h6;replace h7:=F.of h7;replace h26:=F.of h26;replace h27:=F.of h27;have R:=F.r;clear F
       change (cz7_68).wp _ _ _ _
       refine wp_cond_true (x:=cz7_69) (y:=Code.skip) (eval_slot h162) ?_
       refine wp_seq (x:=cz7_70) (y:=Code.ret) ?_
       change (Code.region 25 Oz7_25 false).wp _ _ _ _
       refine reg_in (l:=[0,1,2,3,4,5,6,7,8]) rfl ?_
       have F:FE_ _ [] a144 a144:=⟨R,Ag_.refl _⟩;clear R
       refine sv_ gz7_25_0 (ym_ rfl (F.of h1)) fun a145 e=>?_
       have h163:=pt_ F e;replace F:=pu_ F e;clear e
       refine sv_ gz7_25_1 (ym_ rfl (F.of h26)) fun a146 e=>?_
       have h164:=pt_ F e;replace F:=pu_ F e;replace h163:=so_ e h163;clear e
       obtain ⟨b147,hb147⟩:∃ x,(((z:Int) == (0:Int)))=x:=⟨_,rfl⟩
       have Y:(execOp a146.eval oz7_25_2).run Tryz.prog w142=.ok (.value (.bool b147)) w142:=by rw [← hb147];unfold oz7_25_2;go_simp
       refine sv_ gz7_25_2 Y fun a148 e=>?_;clear Y
       clear h164;have h165:=pt_ F e;replace F:=pu_ F e;replace h163:=so_ e h163;clear e
       refine sv_ gz7_25_3 (ym_ rfl h165) fun a149 e=>?_
       clear h165;have h166:=pt_ F e;replace F:=pu_ F e;replace h163:=so_ e h163;clear e
       cases b147 with
       | false =>
        have fb147:=hb147;clear hb147
        simp only [decide_eq_true_eq,decide_eq_false_iff_not,bne_iff_ne,bne_eq_false_iff_eq,beq_iff_eq,beq_eq_false_iff_ne,ne_eq,Bool.not_eq_true',Bool.not_eq_false',Bool.not_eq_eq_eq_not,Bool.not_true,Bool.not_false] at fb147
        refine st_not gz7_25_4 rfl (wanted_is (j:=3) (d:=166) rfl rfl h166 rfl) fun a150 e=>?_
        have h167:=pt_ F e;replace F:=pu_ F e;replace h163:=so_ e h163;replace h166:=so_ e h166;clear e
        refine st_not gz7_25_5 rfl (wanted_is (j:=3) (d:=166) rfl rfl h166 rfl) fun a151 e=>?_
        clear h167;have h168:=pt_ F e;replace F:=pu_ F e;replace h163:=so_ e h163;replace h166:=so_ e h166;clear e
        have Y:(execOp a151.eval oz7_25_6).run Tryz.prog w142=.ok (.value (.bool false)) w142:=by unfold oz7_25_6;go_simp
        refine sv_ gz7_25_6 Y fun a152 e=>?_;clear Y
        clear h166 h168;have h169:=pt_ F e;replace F:=pu_ F e;replace h163:=so_ e h163;clear e
        refine sv_ gz7_25_7 (ya_ rfl h163) fun a153 e=>?_
        clear h163 h6;have h6:=pt_ F e;replace F:=pu_ F e;replace h169:=so_ e h169;clear e
        refine sv_ gz7_25_8 (ya_ rfl h169) fun a154 e=>?_
        clear h169 h7;have h7:=pt_ F e;replace F:=pu_ F e;replace h6:=so_ e h6;clear e
        refine st_end ?_
        replace h1:=F.of h1;replace h5:=F.of h5;replace h26:=F.of h26;replace h27:=F.of h27;clear h162;have R:=F.r;clear F
        change (Code.ret).wp _ _ _ _
        refine wp_ret ?_
        change bodyPost Tryz.prog Tryz.f7 (fun e w'=>(∃ (v:Value) (b:Bool),e=.returned (.tuple #[v,.bool b]))∧Chg B RR W w' pb mb md ff kq) .ret a154 w142
        refine ret_el2 rfl R.defers h6 h7 ?_
        exact ⟨⟨_,_,rfl⟩,HC.out.on KC⟩
       | true =>
        have fb147:=hb147;clear hb147
        simp only [decide_eq_true_eq,decide_eq_false_iff_not,bne_iff_ne,bne_eq_false_iff_eq,beq_iff_eq,beq_eq_false_iff_ne,ne_eq,Bool.not_eq_true',Bool.not_eq_false',Bool.not_eq_eq_eq_not,Bool.not_true,Bool.not_false] at fb147
        refine st_val gz7_25_4 rfl (wanted_is (j:=3) (d:=166) rfl rfl h166 rfl) (ym_ rfl (F.of h27)) fun a155 e=>?_
        have h167:=pt_ F e;replace F:=pu_ F e;replace h163:=so_ e h163;replace h166:=so_ e h166;clear e
        obtain ⟨b156,hb156⟩:∃ x,(((er:Int) == (140:Int)))=x:=⟨_,rfl⟩
        have Y:(execOp a155.eval oz7_25_5).run Tryz.prog w142=.ok (.value (.bool b156)) w142:=by rw [← hb156];unfold oz7_25_5;go_simp
        refine st_val gz7_25_5 rfl (wanted_is (j:=3) (d:=166) rfl rfl h166 rfl) Y fun a157 e=>?_;clear Y
        clear h167;have h168:=pt_ F e;replace F:=pu_ F e;replace h163:=so_ e h163;replace h166:=so_ e h166;clear e
        have Y:(execOp a157.eval oz7_25_6).run Tryz.prog w142=.ok (.value (.bool b156)) w142:=by unfold oz7_25_6;go_simp
        refine sv_ gz7_25_6 Y fun a158 e=>?_;clear Y
        clear h166 h168;have h169:=pt_ F e;replace F:=pu_ F e;replace h163:=so_ e h163;clear e
        refine sv_ gz7_25_7 (ya_ rfl h163) fun a159 e=>?_
        clear h163 h6;have h6:=pt_ F e;replace F:=pu_ F e;replace h169:=so_ e h169;clear e
        refine sv_ gz7_25_8 (ya_ rfl h169) fun a160 e=>?_
        clear h169 h7;have h7:=pt_ F e;replace F:=pu_ F e;replace h6:=so_ e h6;clear e
        refine st_end ?_
        replace h1:=F.of h1;replace h5:=F.of h5;replace h26:=F.of h26;replace h27:=F.of h27;clear h162;have R:=F.r;clear F
        change (Code.ret).wp _ _ _ _
        refine wp_ret ?_
        change bodyPost Tryz.prog Tryz.f7 (fun e w'=>(∃ (v:Value) (b:Bool),e=.returned (.tuple #[v,.bool b]))∧Chg B RR W w' pb mb md ff kq) .ret a160 w142
        refine ret_el2 rfl R.defers h6 h7 ?_
        exact ⟨⟨_,_,rfl⟩,HC.out.on KC⟩
     | true =>
      have fb120:=hb120;clear hb120
      simp only [decide_eq_true_eq,decide_eq_false_iff_not,bne_iff_ne,bne_eq_false_iff_eq,beq_iff_eq,beq_eq_false_iff_ne,ne_eq,Bool.not_eq_true',Bool.not_eq_false',Bool.not_eq_eq_eq_not,Bool.not_true,Bool.not_false] at fb120
      refine wp_cond_true (x:=cz7_43) (y:=cz7_60) (eval_slot h94) ?_
      refine wp_seq (x:=cz7_44) (y:=cz7_45) ?_
      change (Code.region 16 Oz7_16 false).wp _ _ _ _
      refine reg_in (l:=[0,1,2,3,4,5,6,7,8,9,10,11,12,13,14,15,16]) rfl ?_
      have F:FE_ _ [] a122 a122:=⟨R,Ag_.refl _⟩;clear R
      refine sv_ gz7_16_0 (ym_ rfl (F.of h1)) fun a161 e=>?_
      have h98:=pt_ F e;replace F:=pu_ F e;clear e
      have Y:(execOp a161.eval oz7_16_1).run Tryz.prog w102=.ok (.value (.pointer (some ⟨b101,1,none⟩))) w102:=by have r5:=F.of h5;unfold oz7_16_1;go_simp
      refine sv_ gz7_16_1 Y fun a162 e=>?_;clear Y
      have h99:=pt_ F e;replace F:=pu_ F e;replace h98:=so_ e h98;clear e
      have Y:(execOp a162.eval oz7_16_2).run Tryz.prog w102=.ok (.value (.int .i64 kq)) w102:=by have qq0:w102.cell? ⟨b101,0,none⟩=some (.int .i64 kd):=B101.cell 0;have qq1:w102.cell? ⟨b101,1,none⟩=some (.int .i64 kq):=B101.cell 1;have qq2:w102.cell? ⟨b101,2,none⟩=some (.int .i64 nn):=B101.cell 2;have qq3:w102.cell? ⟨b101,3,none⟩=some (.int .i64 t.k):=B101.cell 3;have qq4:w102.cell? ⟨b101,4,none⟩=some (.string (str t.nm)):=B101.cell 4;have qq5:w102.cell? ⟨b101,5,none⟩=some (.int .i64 t.i):=B101.cell 5;have qq6:w102.cell? ⟨b101,6,none⟩=some (.slice ta t.args.length tc):=B101.cell 6;unfold oz7_16_2;go_simp
      refine sv_ gz7_16_2 Y fun a163 e=>?_;clear Y
      clear h99;have h100:=pt_ F e;replace F:=pu_ F e;replace h98:=so_ e h98;clear e
      have Y:(execOp a163.eval oz7_16_3).run Tryz.prog w102=.ok (.value (.pointer (some ⟨b101,3,none⟩))) w102:=by have r5:=F.of h5;unfold oz7_16_3;go_simp
      refine sv_ gz7_16_3 Y fun a164 e=>?_;clear Y
      have h101:=pt_ F e;replace F:=pu_ F e;replace h98:=so_ e h98;replace h100:=so_ e h100;clear e
      have Y:(execOp a164.eval oz7_16_4).run Tryz.prog w102=.ok (.value (.agg #[.int .i64 t.k,.string (str t.nm),.int .i64 t.i,.slice ta t.args.length tc])) w102:=by have qq0:w102.cell? ⟨b101,0,none⟩=some (.int .i64 kd):=B101.cell 0;have qq1:w102.cell? ⟨b101,1,none⟩=some (.int .i64 kq):=B101.cell 1;have qq2:w102.cell? ⟨b101,2,none⟩=some (.int .i64 nn):=B101.cell 2;have qq3:w102.cell? ⟨b101,3,none⟩=some (.int .i64 t.k):=B101.cell 3;have qq4:w102.cell? ⟨b101,4,none⟩=some (.string (str t.nm)):=B101.cell 4;have qq5:w102.cell? ⟨b101,5,none⟩=some (.int .i64 t.i):=B101.cell 5;have qq6:w102.cell? ⟨b101,6,none⟩=some (.slice ta t.args.length tc):=B101.cell 6;unfold oz7_16_4;go_simp
      refine sv_ gz7_16_4 Y fun a165 e=>?_;clear Y
      clear h101;have h102:=pt_ F e;replace F:=pu_ F e;replace h98:=so_ e h98;replace h100:=so_ e h100;clear e
      have Y:(execOp a165.eval oz7_16_5).run Tryz.prog w102=.ok (.value (.pointer (some ⟨b101,0,none⟩))) w102:=by have r5:=F.of h5;unfold oz7_16_5;go_simp
      refine sv_ gz7_16_5 Y fun a166 e=>?_;clear Y
      have h103:=pt_ F e;replace F:=pu_ F e;replace h98:=so_ e h98;replace h100:=so_ e h100;replace h102:=so_ e h102;clear e
      have Y:(execOp a166.eval oz7_16_6).run Tryz.prog w102=.ok (.value (.int .i64 kd)) w102:=by have qq0:w102.cell? ⟨b101,0,none⟩=some (.int .i64 kd):=B101.cell 0;have qq1:w102.cell? ⟨b101,1,none⟩=some (.int .i64 kq):=B101.cell 1;have qq2:w102.cell? ⟨b101,2,none⟩=some (.int .i64 nn):=B101.cell 2;have qq3:w102.cell? ⟨b101,3,none⟩=some (.int .i64 t.k):=B101.cell 3;have qq4:w102.cell? ⟨b101,4,none⟩=some (.string (str t.nm)):=B101.cell 4;have qq5:w102.cell? ⟨b101,5,none⟩=some (.int .i64 t.i):=B101.cell 5;have qq6:w102.cell? ⟨b101,6,none⟩=some (.slice ta t.args.length tc):=B101.cell 6;unfold oz7_16_6;go_simp
      refine sv_ gz7_16_6 Y fun a167 e=>?_;clear Y
      clear h103;have h104:=pt_ F e;replace F:=pu_ F e;replace h98:=so_ e h98;replace h100:=so_ e h100;replace h102:=so_ e h102;clear e
      obtain ⟨b168,hb168⟩:∃ x,(((kd:Int) == (4:Int)))=x:=⟨_,rfl⟩
      have Y:(execOp a167.eval oz7_16_7).run Tryz.prog w102=.ok (.value (.bool b168)) w102:=by rw [← hb168];unfold oz7_16_7;go_simp
      refine sv_ gz7_16_7 Y fun a169 e=>?_;clear Y
      clear h104;have h105:=pt_ F e;replace F:=pu_ F e;replace h98:=so_ e h98;replace h100:=so_ e h100;replace h102:=so_ e h102;clear e
      have Y:(execOp a169.eval oz7_16_8).run Tryz.prog w102=.ok (.enter 26 #[.slice va 0 vc,.int .i64 kq,.agg #[.int .i64 t.k,.string (str t.nm),.int .i64 t.i,.slice ta t.args.length tc],.bool b168]) w102:=by unfold oz7_16_8;go_simp
      refine st_call gz7_16_8 rfl (wanted_free rfl) Y ((refGet0 w102 va vc kq t ta tc b168).mono ?_);clear Y
      rintro e9 w170 ⟨rfl,kk⟩
      replace KP:=keep_onto KP kk
      replace B101:=blk_on B101 kk
      clear kk
      refine ⟨_,rfl,fun a171 e=>?_⟩
      clear h98 h100 h102 h105;have h106:=pt_ F e;replace F:=pu_ F e;clear e
      refine sv_ gz7_16_9 (ym_ rfl h106) fun a172 e=>?_
      clear h106;have h97:=pt_ F e;replace F:=pu_ F e;clear e
      refine sv_ gz7_16_10 (ye30_ rfl h97) fun a173 e=>?_
      have h107:=pt_ F e;replace F:=pu_ F e;replace h97:=so_ e h97;clear e
      refine sv_ gz7_16_11 (ye31_ rfl h97) fun a174 e=>?_
      have h108:=pt_ F e;replace F:=pu_ F e;replace h97:=so_ e h97;replace h107:=so_ e h107;clear e
      refine sv_ gz7_16_12 (ye32_ rfl h97) fun a175 e=>?_
      clear h97;have h109:=pt_ F e;replace F:=pu_ F e;replace h107:=so_ e h107;replace h108:=so_ e h108;clear e
      have Y:(execOp a175.eval oz7_16_13).run Tryz.prog w170=.ok (.value (.pointer (some ⟨w170.heap.size,0,none⟩))) (w170.alloc (.cells #[.int .i64 0,.string (⟨#[]⟩),.int .i64 0,.slice none 0 0] 28)):=by unfold oz7_16_13;go_simp
      have B176:=Blk.new w170 28 #[.int .i64 0,.string (⟨#[]⟩),.int .i64 0,.slice none 0 0]
      obtain ⟨w177,hw⟩:∃ x,x=w170.alloc (.cells #[.int .i64 0,.string (⟨#[]⟩),.int .i64 0,.slice none 0 0] 28):=⟨_,rfl⟩;rw [← hw] at Y B176
      obtain ⟨b176,hb⟩:∃ x,x=w170.heap.size:=⟨_,rfl⟩;rw [← hb] at Y B176
      have Nb101_b176:=nb_ hb B101;replace B101:=ba_ hw B101;have LKP_b176:=lk_ hb KP;replace KP:=ka_ hw KP;clear hw hb
      refine sv_ gz7_16_13 Y fun a178 e=>?_;clear Y
      have h20:=pt_ F e;replace F:=pu_ F e;replace h107:=so_ e h107;replace h108:=so_ e h108;replace h109:=so_ e h109;clear e
      refine sv_ gz7_16_14 (ya_ rfl h107) fun a179 e=>?_
      clear h107;have h19:=pt_ F e;replace F:=pu_ F e;replace h20:=so_ e h20;replace h108:=so_ e h108;replace h109:=so_ e h109;clear e
      obtain ⟨w180,Y,hk,hB⟩:=ys4_ (o:=oz7_16_15) rfl h20 h108 B176
      replace KP:=kx_ hk KP (Nat.not_lt.2 LKP_b176);replace B101:=bx_ hk B101 Nb101_b176;clear B176;have B176:=hB;clear hB hk
      refine st_skip gz7_16_15 rfl (wanted_free rfl) Y ?_;clear Y
      refine sv_ gz7_16_16 (ya_ rfl h109) fun a181 e=>?_
      clear h108 h109;have h21:=pt_ F e;replace F:=pu_ F e;replace h19:=so_ e h19;replace h20:=so_ e h20;clear e
      refine st_end ?_
      replace h0:=F.of h0;replace h1:=F.of h1;replace h5:=F.of h5;replace h6:=F.of h6;replace h7:=F.of h7;replace h29:=F.of h29;clear h94;have R:=F.r;clear F
      change (cz7_45).wp _ _ _ _
      refine wp_seq (x:=cz7_46) (y:=cz7_55) ?_
      refine wp_seq (x:=cz7_47) (y:=cz7_48) ?_
      change (Code.region 17 Oz7_17 false).wp _ _ _ _
      refine reg_in (l:=[0,1,2]) rfl ?_
      have F:FE_ _ [] a181 a181:=⟨R,Ag_.refl _⟩;clear R
      have Y:(execOp a181.eval oz7_17_0).run Tryz.prog w180=.ok (.value (.pointer (some ⟨b101,0,none⟩))) w180:=by have r5:=F.of h5;unfold oz7_17_0;go_simp
      refine sv_ gz7_17_0 Y fun a182 e=>?_;clear Y
      have h110:=pt_ F e;replace F:=pu_ F e;clear e
      have Y:(execOp a182.eval oz7_17_1).run Tryz.prog w180=.ok (.value (.int .i64 kd)) w180:=by have qq0:w180.cell? ⟨b101,0,none⟩=some (.int .i64 kd):=B101.cell 0;have qq1:w180.cell? ⟨b101,1,none⟩=some (.int .i64 kq):=B101.cell 1;have qq2:w180.cell? ⟨b101,2,none⟩=some (.int .i64 nn):=B101.cell 2;have qq3:w180.cell? ⟨b101,3,none⟩=some (.int .i64 t.k):=B101.cell 3;have qq4:w180.cell? ⟨b101,4,none⟩=some (.string (str t.nm)):=B101.cell 4;have qq5:w180.cell? ⟨b101,5,none⟩=some (.int .i64 t.i):=B101.cell 5;have qq6:w180.cell? ⟨b101,6,none⟩=some (.slice ta t.args.length tc):=B101.cell 6;unfold oz7_17_1;go_simp
      refine sv_ gz7_17_1 Y fun a183 e=>?_;clear Y
      clear h110;have h111:=pt_ F e;replace F:=pu_ F e;clear e
      obtain ⟨b184,hb184⟩:∃ x,(((kd:Int) == (4:Int)))=x:=⟨_,rfl⟩
      have Y:(execOp a183.eval oz7_17_2).run Tryz.prog w180=.ok (.value (.bool b184)) w180:=by rw [← hb184];unfold oz7_17_2;go_simp
      refine sv_ gz7_17_2 Y fun a185 e=>?_;clear Y
      clear h111;have h112:=pt_ F e;replace F:=pu_ F e;clear e
      refine st_end ?_
      replace h0:=F.of h0;replace h1:=F.of h1;replace h5:=F.of h5;replace h6:=F.of h6;replace h7:=F.of h7;replace h19:=F.of h19;replace h20:=F.of h20;replace h21:=F.of h21;replace h29:=F.of h29;have R:=F.r;clear F
      change (cz7_48).wp _ _ _ _
      cases b184 with
      | false =>
       have fb184:=hb184;clear hb184
       simp only [decide_eq_true_eq,decide_eq_false_iff_not,bne_iff_ne,bne_eq_false_iff_eq,beq_iff_eq,beq_eq_false_iff_ne,ne_eq,Bool.not_eq_true',Bool.not_eq_false',Bool.not_eq_eq_eq_not,Bool.not_true,Bool.not_false] at fb184
       refine wp_cond_false (x:=cz7_49) (y:=Code.skip) (eval_slot h112) ?_
       refine wp_skip ?_
       change (cz7_55).wp _ _ _ _
       refine wp_seq (x:=cz7_56) (y:=cz7_57) ?_
       change (Code.region 20 Oz7_20 false).wp _ _ _ _
       cases hf:ff kq with
       | none =>
        have HF:=Lib.hid hf;clear hf
        refine reg_in (l:=[0,1,2,3,4,5,6,7,8,9,10,11]) rfl ?_
        have F:FE_ _ [] a185 a185:=⟨R,Ag_.refl _⟩;clear R
        refine sv_ gz7_20_0 (ym_ rfl (F.of h0)) fun a186 e=>?_
        have h132:=pt_ F e;replace F:=pu_ F e;clear e
        have Y:(execOp a186.eval oz7_20_1).run Tryz.prog w180=.ok (.value (.pointer (some ⟨b101,1,none⟩))) w180:=by have r5:=F.of h5;unfold oz7_20_1;go_simp
        refine sv_ gz7_20_1 Y fun a187 e=>?_;clear Y
        have h133:=pt_ F e;replace F:=pu_ F e;replace h132:=so_ e h132;clear e
        have Y:(execOp a187.eval oz7_20_2).run Tryz.prog w180=.ok (.value (.int .i64 kq)) w180:=by have qq0:w180.cell? ⟨b101,0,none⟩=some (.int .i64 kd):=B101.cell 0;have qq1:w180.cell? ⟨b101,1,none⟩=some (.int .i64 kq):=B101.cell 1;have qq2:w180.cell? ⟨b101,2,none⟩=some (.int .i64 nn):=B101.cell 2;have qq3:w180.cell? ⟨b101,3,none⟩=some (.int .i64 t.k):=B101.cell 3;have qq4:w180.cell? ⟨b101,4,none⟩=some (.string (str t.nm)):=B101.cell 4;have qq5:w180.cell? ⟨b101,5,none⟩=some (.int .i64 t.i):=B101.cell 5;have qq6:w180.cell? ⟨b101,6,none⟩=some (.slice ta t.args.length tc):=B101.cell 6;unfold oz7_20_2;go_simp
        refine sv_ gz7_20_2 Y fun a188 e=>?_;clear Y
        clear h133;have h134:=pt_ F e;replace F:=pu_ F e;replace h132:=so_ e h132;clear e
        have Y:(execOp a188.eval oz7_20_3).run Tryz.prog w180=.ok (.value (.pointer (some ⟨b101,3,none⟩))) w180:=by have r5:=F.of h5;unfold oz7_20_3;go_simp
        refine sv_ gz7_20_3 Y fun a189 e=>?_;clear Y
        have h135:=pt_ F e;replace F:=pu_ F e;replace h132:=so_ e h132;replace h134:=so_ e h134;clear e
        have Y:(execOp a189.eval oz7_20_4).run Tryz.prog w180=.ok (.value (.agg #[.int .i64 t.k,.string (str t.nm),.int .i64 t.i,.slice ta t.args.length tc])) w180:=by have qq0:w180.cell? ⟨b101,0,none⟩=some (.int .i64 kd):=B101.cell 0;have qq1:w180.cell? ⟨b101,1,none⟩=some (.int .i64 kq):=B101.cell 1;have qq2:w180.cell? ⟨b101,2,none⟩=some (.int .i64 nn):=B101.cell 2;have qq3:w180.cell? ⟨b101,3,none⟩=some (.int .i64 t.k):=B101.cell 3;have qq4:w180.cell? ⟨b101,4,none⟩=some (.string (str t.nm)):=B101.cell 4;have qq5:w180.cell? ⟨b101,5,none⟩=some (.int .i64 t.i):=B101.cell 5;have qq6:w180.cell? ⟨b101,6,none⟩=some (.slice ta t.args.length tc):=B101.cell 6;unfold oz7_20_4;go_simp
        refine sv_ gz7_20_4 Y fun a190 e=>?_;clear Y
        clear h135;have h136:=pt_ F e;replace F:=pu_ F e;replace h132:=so_ e h132;replace h134:=so_ e h134;clear e
        have Y:(execOp a190.eval oz7_20_5).run Tryz.prog w180=.ok (.enter 18 #[.pointer (some ⟨pb,0,none⟩),.int .i64 kq,.agg #[.int .i64 t.k,.string (str t.nm),.int .i64 t.i,.slice ta t.args.length tc]]) w180:=by unfold oz7_20_5;go_simp
        refine st_call gz7_20_5 rfl (wanted_free rfl) Y ((peek_c0 (HP.out.on KP) HK.out (HT.out.on KP) HF.out).mono ?_);clear Y
        rintro e9 w191 ⟨rfl,hc⟩
        replace B101:=B101.keep hc.2 ⟨B101.lt,fun h=>absurd (HP.out.rb _ h).2 (Nat.not_lt.2 LKP_b101)⟩
        replace B176:=B176.keep hc.2 ⟨B176.lt,fun h=>absurd (HP.out.rb _ h).2 (Nat.not_lt.2 LKP_b176)⟩
        have HC:Hid (Chg B RR W w191 pb mb md ff kq):=Lib.hid (Chg.onto (KP.less fun g hg=>hg.1) hc KP.size);clear hc
        clear KP
        have kk:=trivial
        clear kk
        have KC:=Keep.refl (fun g=>g < w191.heap.size) w191
        refine ⟨_,rfl,fun a192 e=>?_⟩
        clear h132 h134 h136;have h137:=pt_ F e;replace F:=pu_ F e;clear e
        refine sv_ gz7_20_6 (ym_ rfl h137) fun a193 e=>?_
        clear h137;have h131:=pt_ F e;replace F:=pu_ F e;clear e
        refine sv_ gz7_20_7 (ye20_ rfl h131) fun a194 e=>?_
        have h138:=pt_ F e;replace F:=pu_ F e;replace h131:=so_ e h131;clear e
        refine sv_ gz7_20_8 (ye21_ rfl h131) fun a195 e=>?_
        clear h131;have h139:=pt_ F e;replace F:=pu_ F e;replace h138:=so_ e h138;clear e
        have Y:(execOp a195.eval oz7_20_9).run Tryz.prog w191=.ok (.value (.pointer (some ⟨w191.heap.size,0,none⟩))) (w191.alloc (.cells #[.int .i64 0,.string (⟨#[]⟩),.int .i64 0,.slice none 0 0] 28)):=by unfold oz7_20_9;go_simp
        have B196:=Blk.new w191 28 #[.int .i64 0,.string (⟨#[]⟩),.int .i64 0,.slice none 0 0]
        obtain ⟨w197,hw⟩:∃ x,x=w191.alloc (.cells #[.int .i64 0,.string (⟨#[]⟩),.int .i64 0,.slice none 0 0] 28):=⟨_,rfl⟩;rw [← hw] at Y B196
        obtain ⟨b196,hb⟩:∃ x,x=w191.heap.size:=⟨_,rfl⟩;rw [← hb] at Y B196
        have Nb101_b196:=nb_ hb B101;replace B101:=ba_ hw B101;have Nb176_b196:=nb_ hb B176;replace B176:=ba_ hw B176;have LKC_b196:=lk_ hb KC;replace KC:=ka_ hw KC;clear hw hb
        refine sv_ gz7_20_9 Y fun a198 e=>?_;clear Y
        have h24:=pt_ F e;replace F:=pu_ F e;replace h138:=so_ e h138;replace h139:=so_ e h139;clear e
        obtain ⟨w199,Y,hk,hB⟩:=ys4_ (o:=oz7_20_10) rfl h24 h138 B196
        replace KC:=kx_ hk KC (Nat.not_lt.2 LKC_b196);replace B101:=bx_ hk B101 Nb101_b196;replace B176:=bx_ hk B176 Nb176_b196;clear B196;have B196:=hB;clear hB hk
        refine st_skip gz7_20_10 rfl (wanted_free rfl) Y ?_;clear Y
        refine sv_ gz7_20_11 (ya_ rfl h139) fun a200 e=>?_
        clear h138 h139;have h25:=pt_ F e;replace F:=pu_ F e;replace h24:=so_ e h24;clear e
        refine st_end ?_
        replace h0:=F.of h0;replace h1:=F.of h1;replace h5:=F.of h5;replace h6:=F.of h6;replace h7:=F.of h7;replace h19:=F.of h19;replace h20:=F.of h20;replace h21:=F.of h21;replace h29:=F.of h29;clear h112;have R:=F.r;clear F
        change (cz7_57).wp _ _ _ _
        refine wp_seq (x:=cz7_58) (y:=Code.ret) ?_
        change (Code.region 21 Oz7_21 false).wp _ _ _ _
        refine reg_in (l:=[0,1,2,3,4,5,6,7,8,9,10]) rfl ?_
        have F:FE_ _ [] a200 a200:=⟨R,Ag_.refl _⟩;clear R
        refine sv_ gz7_21_0 (ym_ rfl (F.of h19)) fun a201 e=>?_
        have h140:=pt_ F e;replace F:=pu_ F e;clear e
        refine sv_ gz7_21_1 (ym_ rfl (F.of h25)) fun a202 e=>?_
        have h141:=pt_ F e;replace F:=pu_ F e;replace h140:=so_ e h140;clear e
        refine sv_ gz7_21_2 (ym_ rfl (F.of h21)) fun a203 e=>?_
        have h142:=pt_ F e;replace F:=pu_ F e;replace h140:=so_ e h140;replace h141:=so_ e h141;clear e
        have Y:(execOp a203.eval oz7_21_3).run Tryz.prog w199=.ok (.value (.bool true)) w199:=by unfold oz7_21_3;go_simp
        refine sv_ gz7_21_3 Y fun a204 e=>?_;clear Y
        clear h141 h142;have h143:=pt_ F e;replace F:=pu_ F e;replace h140:=so_ e h140;clear e
        refine sv_ gz7_21_4 (ym_ rfl h143) fun a205 e=>?_
        clear h143;have h144:=pt_ F e;replace F:=pu_ F e;replace h140:=so_ e h140;clear e
        refine st_val gz7_21_5 rfl (wanted_is (j:=4) (d:=144) rfl rfl h144 rfl) (yl4_ rfl (F.of h24) B196) fun a206 e=>?_
        have h145:=pt_ F e;replace F:=pu_ F e;replace h140:=so_ e h140;replace h144:=so_ e h144;clear e
        refine st_val gz7_21_6 rfl (wanted_is (j:=4) (d:=144) rfl rfl h144 rfl) (yl4_ rfl (F.of h20) B176) fun a207 e=>?_
        have h146:=pt_ F e;replace F:=pu_ F e;replace h140:=so_ e h140;replace h144:=so_ e h144;replace h145:=so_ e h145;clear e
        have hcall:=refLike_any (W:=w199) (t:=.node 0 [] 0 []) (u:=.node 0 [] 0 []) tm_Z tm_Z (.inl ⟨rfl,rfl⟩)
        refine st_call gz7_21_7 rfl (wanted_is (j:=4) (d:=144) rfl rfl h144 rfl) (yc2_ enz7_11 rfl h145 h146) ((hcall).mono ?_)
        rintro e9 w208 ⟨rfl,kk⟩
        replace KC:=keep_onto KC kk
        replace B101:=blk_on B101 kk
        replace B176:=blk_on B176 kk
        replace B196:=blk_on B196 kk
        clear hcall
        clear kk
        refine ⟨_,rfl,fun a209 e=>?_⟩
        clear h145 h146;have h147:=pt_ F e;replace F:=pu_ F e;replace h140:=so_ e h140;replace h144:=so_ e h144;clear e
        have Y:(execOp a209.eval oz7_21_8).run Tryz.prog w208=.ok (.value (.bool true)) w208:=by unfold oz7_21_8;go_simp
        refine sv_ gz7_21_8 Y fun a210 e=>?_;clear Y
        clear h144 h147;have h148:=pt_ F e;replace F:=pu_ F e;replace h140:=so_ e h140;clear e
        refine sv_ gz7_21_9 (ya_ rfl h140) fun a211 e=>?_
        clear h140 h6;have h6:=pt_ F e;replace F:=pu_ F e;replace h148:=so_ e h148;clear e
        refine sv_ gz7_21_10 (ya_ rfl h148) fun a212 e=>?_
        clear h148 h7;have h7:=pt_ F e;replace F:=pu_ F e;replace h6:=so_ e h6;clear e
        refine st_end ?_
        replace h0:=F.of h0;replace h1:=F.of h1;replace h5:=F.of h5;clear h19;clear h20;clear h21;clear h24;clear h25;replace h29:=F.of h29;have R:=F.r;clear F
        change (Code.ret).wp _ _ _ _
        refine wp_ret ?_
        change bodyPost Tryz.prog Tryz.f7 (fun e w'=>(∃ (v:Value) (b:Bool),e=.returned (.tuple #[v,.bool b]))∧Chg B RR W w' pb mb md ff kq) .ret a212 w208
        refine ret_el2 rfl R.defers h6 h7 ?_
        exact ⟨⟨_,_,rfl⟩,HC.out.on KC⟩
       | some qq =>
        have HF:Hid (ff kq ≠ none):=Lib.hid (by rw [hf];simp);clear hf
        refine reg_in (l:=[0,1,2,3,4,5,6,7,8,9,10,11]) rfl ?_
        have F:FE_ _ [] a185 a185:=⟨R,Ag_.refl _⟩;clear R
        refine sv_ gz7_20_0 (ym_ rfl (F.of h0)) fun a213 e=>?_
        have h132:=pt_ F e;replace F:=pu_ F e;clear e
        have Y:(execOp a213.eval oz7_20_1).run Tryz.prog w180=.ok (.value (.pointer (some ⟨b101,1,none⟩))) w180:=by have r5:=F.of h5;unfold oz7_20_1;go_simp
        refine sv_ gz7_20_1 Y fun a214 e=>?_;clear Y
        have h133:=pt_ F e;replace F:=pu_ F e;replace h132:=so_ e h132;clear e
        have Y:(execOp a214.eval oz7_20_2).run Tryz.prog w180=.ok (.value (.int .i64 kq)) w180:=by have qq0:w180.cell? ⟨b101,0,none⟩=some (.int .i64 kd):=B101.cell 0;have qq1:w180.cell? ⟨b101,1,none⟩=some (.int .i64 kq):=B101.cell 1;have qq2:w180.cell? ⟨b101,2,none⟩=some (.int .i64 nn):=B101.cell 2;have qq3:w180.cell? ⟨b101,3,none⟩=some (.int .i64 t.k):=B101.cell 3;have qq4:w180.cell? ⟨b101,4,none⟩=some (.string (str t.nm)):=B101.cell 4;have qq5:w180.cell? ⟨b101,5,none⟩=some (.int .i64 t.i):=B101.cell 5;have qq6:w180.cell? ⟨b101,6,none⟩=some (.slice ta t.args.length tc):=B101.cell 6;unfold oz7_20_2;go_simp
        refine sv_ gz7_20_2 Y fun a215 e=>?_;clear Y
        clear h133;have h134:=pt_ F e;replace F:=pu_ F e;replace h132:=so_ e h132;clear e
        have Y:(execOp a215.eval oz7_20_3).run Tryz.prog w180=.ok (.value (.pointer (some ⟨b101,3,none⟩))) w180:=by have r5:=F.of h5;unfold oz7_20_3;go_simp
        refine sv_ gz7_20_3 Y fun a216 e=>?_;clear Y
        have h135:=pt_ F e;replace F:=pu_ F e;replace h132:=so_ e h132;replace h134:=so_ e h134;clear e
        have Y:(execOp a216.eval oz7_20_4).run Tryz.prog w180=.ok (.value (.agg #[.int .i64 t.k,.string (str t.nm),.int .i64 t.i,.slice ta t.args.length tc])) w180:=by have qq0:w180.cell? ⟨b101,0,none⟩=some (.int .i64 kd):=B101.cell 0;have qq1:w180.cell? ⟨b101,1,none⟩=some (.int .i64 kq):=B101.cell 1;have qq2:w180.cell? ⟨b101,2,none⟩=some (.int .i64 nn):=B101.cell 2;have qq3:w180.cell? ⟨b101,3,none⟩=some (.int .i64 t.k):=B101.cell 3;have qq4:w180.cell? ⟨b101,4,none⟩=some (.string (str t.nm)):=B101.cell 4;have qq5:w180.cell? ⟨b101,5,none⟩=some (.int .i64 t.i):=B101.cell 5;have qq6:w180.cell? ⟨b101,6,none⟩=some (.slice ta t.args.length tc):=B101.cell 6;unfold oz7_20_4;go_simp
        refine sv_ gz7_20_4 Y fun a217 e=>?_;clear Y
        clear h135;have h136:=pt_ F e;replace F:=pu_ F e;replace h132:=so_ e h132;replace h134:=so_ e h134;clear e
        have Y:(execOp a217.eval oz7_20_5).run Tryz.prog w180=.ok (.enter 18 #[.pointer (some ⟨pb,0,none⟩),.int .i64 kq,.agg #[.int .i64 t.k,.string (str t.nm),.int .i64 t.i,.slice ta t.args.length tc]]) w180:=by unfold oz7_20_5;go_simp
        refine st_call gz7_20_5 rfl (wanted_free rfl) Y ((peek_c1 (HP.out.on KP) HK.out (HT.out.on KP) HF.out).mono ?_);clear Y
        rintro e9 w218 ⟨u,ua,uc,er,rfl,hne,hc⟩
        replace B101:=B101.keep hc.2 ⟨B101.lt,fun h=>absurd (HP.out.rb _ h).2 (Nat.not_lt.2 LKP_b101)⟩
        replace B176:=B176.keep hc.2 ⟨B176.lt,fun h=>absurd (HP.out.rb _ h).2 (Nat.not_lt.2 LKP_b176)⟩
        have HC:Hid (Chg B RR W w218 pb mb md ff kq):=Lib.hid (Chg.onto (KP.less fun g hg=>hg.1) hc KP.size);clear hc
        clear KP
        have kk:=trivial
        have HE:=Lib.hid hne;clear hne
        clear kk
        have KC:=Keep.refl (fun g=>g < w218.heap.size) w218
        refine ⟨_,rfl,fun a219 e=>?_⟩
        clear h132 h134 h136;have h137:=pt_ F e;replace F:=pu_ F e;clear e
        refine sv_ gz7_20_6 (ym_ rfl h137) fun a220 e=>?_
        clear h137;have h131:=pt_ F e;replace F:=pu_ F e;clear e
        refine sv_ gz7_20_7 (ye20_ rfl h131) fun a221 e=>?_
        have h138:=pt_ F e;replace F:=pu_ F e;replace h131:=so_ e h131;clear e
        refine sv_ gz7_20_8 (ye21_ rfl h131) fun a222 e=>?_
        clear h131;have h139:=pt_ F e;replace F:=pu_ F e;replace h138:=so_ e h138;clear e
        have Y:(execOp a222.eval oz7_20_9).run Tryz.prog w218=.ok (.value (.pointer (some ⟨w218.heap.size,0,none⟩))) (w218.alloc (.cells #[.int .i64 0,.string (⟨#[]⟩),.int .i64 0,.slice none 0 0] 28)):=by unfold oz7_20_9;go_simp
        have B223:=Blk.new w218 28 #[.int .i64 0,.string (⟨#[]⟩),.int .i64 0,.slice none 0 0]
        obtain ⟨w224,hw⟩:∃ x,x=w218.alloc (.cells #[.int .i64 0,.string (⟨#[]⟩),.int .i64 0,.slice none 0 0] 28):=⟨_,rfl⟩;rw [← hw] at Y B223
        obtain ⟨b223,hb⟩:∃ x,x=w218.heap.size:=⟨_,rfl⟩;rw [← hb] at Y B223
        have Nb101_b223:=nb_ hb B101;replace B101:=ba_ hw B101;have Nb176_b223:=nb_ hb B176;replace B176:=ba_ hw B176;have LKC_b223:=lk_ hb KC;replace KC:=ka_ hw KC;clear hw hb
        refine sv_ gz7_20_9 Y fun a225 e=>?_;clear Y
        have h24:=pt_ F e;replace F:=pu_ F e;replace h138:=so_ e h138;replace h139:=so_ e h139;clear e
        obtain ⟨w226,Y,hk,hB⟩:=ys4_ (o:=oz7_20_10) rfl h24 h138 B223
        replace KC:=kx_ hk KC (Nat.not_lt.2 LKC_b223);replace B101:=bx_ hk B101 Nb101_b223;replace B176:=bx_ hk B176 Nb176_b223;clear B223;have B223:=hB;clear hB hk
        refine st_skip gz7_20_10 rfl (wanted_free rfl) Y ?_;clear Y
        refine sv_ gz7_20_11 (ya_ rfl h139) fun a227 e=>?_
        clear h138 h139;have h25:=pt_ F e;replace F:=pu_ F e;replace h24:=so_ e h24;clear e
        refine st_end ?_
        replace h0:=F.of h0;replace h1:=F.of h1;replace h5:=F.of h5;replace h6:=F.of h6;replace h7:=F.of h7;replace h19:=F.of h19;replace h20:=F.of h20;replace h21:=F.of h21;replace h29:=F.of h29;clear h112;have R:=F.r;clear F
        change (cz7_57).wp _ _ _ _
        refine wp_seq (x:=cz7_58) (y:=Code.ret) ?_
        change (Code.region 21 Oz7_21 false).wp _ _ _ _
        refine reg_in (l:=[0,1,2,3,4,5,6,7,8,9,10]) rfl ?_
        have F:FE_ _ [] a227 a227:=⟨R,Ag_.refl _⟩;clear R
        refine sv_ gz7_21_0 (ym_ rfl (F.of h19)) fun a228 e=>?_
        have h140:=pt_ F e;replace F:=pu_ F e;clear e
        refine sv_ gz7_21_1 (ym_ rfl (F.of h25)) fun a229 e=>?_
        have h141:=pt_ F e;replace F:=pu_ F e;replace h140:=so_ e h140;clear e
        refine sv_ gz7_21_2 (ym_ rfl (F.of h21)) fun a230 e=>?_
        have h142:=pt_ F e;replace F:=pu_ F e;replace h140:=so_ e h140;replace h141:=so_ e h141;clear e
        have Y:(execOp a230.eval oz7_21_3).run Tryz.prog w226=.ok (.value (.bool false)) w226:=by have hne:(er == 140)=false:=(by have:=HE.out;simpa using this);unfold oz7_21_3;go_simp
        refine sv_ gz7_21_3 Y fun a231 e=>?_;clear Y
        clear h141 h142;have h143:=pt_ F e;replace F:=pu_ F e;replace h140:=so_ e h140;clear e
        refine sv_ gz7_21_4 (ym_ rfl h143) fun a232 e=>?_
        clear h143;have h144:=pt_ F e;replace F:=pu_ F e;replace h140:=so_ e h140;clear e
        refine st_not gz7_21_5 rfl (wanted_is (j:=4) (d:=144) rfl rfl h144 rfl) fun a233 e=>?_
        have h145:=pt_ F e;replace F:=pu_ F e;replace h140:=so_ e h140;replace h144:=so_ e h144;clear e
        refine st_not gz7_21_6 rfl (wanted_is (j:=4) (d:=144) rfl rfl h144 rfl) fun a234 e=>?_
        have h146:=pt_ F e;replace F:=pu_ F e;replace h140:=so_ e h140;replace h144:=so_ e h144;replace h145:=so_ e h145;clear e
        refine st_not gz7_21_7 rfl (wanted_is (j:=4) (d:=144) rfl rfl h144 rfl) fun a235 e=>?_
        clear h145 h146;have h147:=pt_ F e;replace F:=pu_ F e;replace h140:=so_ e h140;replace h144:=so_ e h144;clear e
        have Y:(execOp a235.eval oz7_21_8).run Tryz.prog w226=.ok (.value (.bool false)) w226:=by unfold oz7_21_8;go_simp
        refine sv_ gz7_21_8 Y fun a236 e=>?_;clear Y
        clear h144 h147;have h148:=pt_ F e;replace F:=pu_ F e;replace h140:=so_ e h140;clear e
        refine sv_ gz7_21_9 (ya_ rfl h140) fun a237 e=>?_
        clear h140 h6;have h6:=pt_ F e;replace F:=pu_ F e;replace h148:=so_ e h148;clear e
        refine sv_ gz7_21_10 (ya_ rfl h148) fun a238 e=>?_
        clear h148 h7;have h7:=pt_ F e;replace F:=pu_ F e;replace h6:=so_ e h6;clear e
        refine st_end ?_
        replace h0:=F.of h0;replace h1:=F.of h1;replace h5:=F.of h5;clear h19;clear h20;clear h21;clear h24;clear h25;replace h29:=F.of h29;have R:=F.r;clear F
        change (Code.ret).wp _ _ _ _
        refine wp_ret ?_
        change bodyPost Tryz.prog Tryz.f7 (fun e w'=>(∃ (v:Value) (b:Bool),e=.returned (.tuple #[v,.bool b]))∧Chg B RR W w' pb mb md ff kq) .ret a238 w226
        refine ret_el2 rfl R.defers h6 h7 ?_
        exact ⟨⟨_,_,rfl⟩,HC.out.on KC⟩
      | true =>
       have fb184:=hb184;clear hb184
       simp only [decide_eq_true_eq,decide_eq_false_iff_not,bne_iff_ne,bne_eq_false_iff_eq,beq_iff_eq,beq_eq_false_iff_ne,ne_eq,Bool.not_eq_true',Bool.not_eq_false',Bool.not_eq_eq_eq_not,Bool.not_true,Bool.not_false] at fb184
       refine wp_cond_true (x:=cz7_49) (y:=Code.skip) (eval_slot h112) ?_
       refine wp_seq (x:=cz7_50) (y:=cz7_51) ?_
       change (Code.region 18 Oz7_18 false).wp _ _ _ _
       cases hf:ff kq with
       | none =>
        have HF:=Lib.hid hf;clear hf
        refine reg_in (l:=[0,1,2,3,4,5,6,7,8,9,10,11]) rfl ?_
        have F:FE_ _ [] a185 a185:=⟨R,Ag_.refl _⟩;clear R
        refine sv_ gz7_18_0 (ym_ rfl (F.of h0)) fun a239 e=>?_
        have h114:=pt_ F e;replace F:=pu_ F e;clear e
        have Y:(execOp a239.eval oz7_18_1).run Tryz.prog w180=.ok (.value (.pointer (some ⟨b101,1,none⟩))) w180:=by have r5:=F.of h5;unfold oz7_18_1;go_simp
        refine sv_ gz7_18_1 Y fun a240 e=>?_;clear Y
        have h115:=pt_ F e;replace F:=pu_ F e;replace h114:=so_ e h114;clear e
        have Y:(execOp a240.eval oz7_18_2).run Tryz.prog w180=.ok (.value (.int .i64 kq)) w180:=by have qq0:w180.cell? ⟨b101,0,none⟩=some (.int .i64 kd):=B101.cell 0;have qq1:w180.cell? ⟨b101,1,none⟩=some (.int .i64 kq):=B101.cell 1;have qq2:w180.cell? ⟨b101,2,none⟩=some (.int .i64 nn):=B101.cell 2;have qq3:w180.cell? ⟨b101,3,none⟩=some (.int .i64 t.k):=B101.cell 3;have qq4:w180.cell? ⟨b101,4,none⟩=some (.string (str t.nm)):=B101.cell 4;have qq5:w180.cell? ⟨b101,5,none⟩=some (.int .i64 t.i):=B101.cell 5;have qq6:w180.cell? ⟨b101,6,none⟩=some (.slice ta t.args.length tc):=B101.cell 6;unfold oz7_18_2;go_simp
        refine sv_ gz7_18_2 Y fun a241 e=>?_;clear Y
        clear h115;have h116:=pt_ F e;replace F:=pu_ F e;replace h114:=so_ e h114;clear e
        have Y:(execOp a241.eval oz7_18_3).run Tryz.prog w180=.ok (.value (.pointer (some ⟨b101,3,none⟩))) w180:=by have r5:=F.of h5;unfold oz7_18_3;go_simp
        refine sv_ gz7_18_3 Y fun a242 e=>?_;clear Y
        have h117:=pt_ F e;replace F:=pu_ F e;replace h114:=so_ e h114;replace h116:=so_ e h116;clear e
        have Y:(execOp a242.eval oz7_18_4).run Tryz.prog w180=.ok (.value (.agg #[.int .i64 t.k,.string (str t.nm),.int .i64 t.i,.slice ta t.args.length tc])) w180:=by have qq0:w180.cell? ⟨b101,0,none⟩=some (.int .i64 kd):=B101.cell 0;have qq1:w180.cell? ⟨b101,1,none⟩=some (.int .i64 kq):=B101.cell 1;have qq2:w180.cell? ⟨b101,2,none⟩=some (.int .i64 nn):=B101.cell 2;have qq3:w180.cell? ⟨b101,3,none⟩=some (.int .i64 t.k):=B101.cell 3;have qq4:w180.cell? ⟨b101,4,none⟩=some (.string (str t.nm)):=B101.cell 4;have qq5:w180.cell? ⟨b101,5,none⟩=some (.int .i64 t.i):=B101.cell 5;have qq6:w180.cell? ⟨b101,6,none⟩=some (.slice ta t.args.length tc):=B101.cell 6;unfold oz7_18_4;go_simp
        refine sv_ gz7_18_4 Y fun a243 e=>?_;clear Y
        clear h117;have h118:=pt_ F e;replace F:=pu_ F e;replace h114:=so_ e h114;replace h116:=so_ e h116;clear e
        have Y:(execOp a243.eval oz7_18_5).run Tryz.prog w180=.ok (.enter 17 #[.pointer (some ⟨pb,0,none⟩),.int .i64 kq,.agg #[.int .i64 t.k,.string (str t.nm),.int .i64 t.i,.slice ta t.args.length tc]]) w180:=by unfold oz7_18_5;go_simp
        refine st_call gz7_18_5 rfl (wanted_free rfl) Y ((get_c0 (HP.out.on KP) HK.out (HT.out.on KP) HF.out).mono ?_);clear Y
        rintro e9 w244 ⟨rfl,hc⟩
        replace B101:=B101.keep hc.2 ⟨B101.lt,fun h=>absurd (HP.out.rb _ h).2 (Nat.not_lt.2 LKP_b101)⟩
        replace B176:=B176.keep hc.2 ⟨B176.lt,fun h=>absurd (HP.out.rb _ h).2 (Nat.not_lt.2 LKP_b176)⟩
        have HC:Hid (Chg B RR W w244 pb mb md ff kq):=Lib.hid (Chg.onto (KP.less fun g hg=>hg.1) hc KP.size);clear hc
        clear KP
        have kk:=trivial
        clear kk
        have KC:=Keep.refl (fun g=>g < w244.heap.size) w244
        refine ⟨_,rfl,fun a245 e=>?_⟩
        clear h114 h116 h118;have h119:=pt_ F e;replace F:=pu_ F e;clear e
        refine sv_ gz7_18_6 (ym_ rfl h119) fun a246 e=>?_
        clear h119;have h113:=pt_ F e;replace F:=pu_ F e;clear e
        refine sv_ gz7_18_7 (ye20_ rfl h113) fun a247 e=>?_
        have h120:=pt_ F e;replace F:=pu_ F e;replace h113:=so_ e h113;clear e
        refine sv_ gz7_18_8 (ye21_ rfl h113) fun a248 e=>?_
        clear h113;have h121:=pt_ F e;replace F:=pu_ F e;replace h120:=so_ e h120;clear e
        have Y:(execOp a248.eval oz7_18_9).run Tryz.prog w244=.ok (.value (.pointer (some ⟨w244.heap.size,0,none⟩))) (w244.alloc (.cells #[.int .i64 0,.string (⟨#[]⟩),.int .i64 0,.slice none 0 0] 28)):=by unfold oz7_18_9;go_simp
        have B249:=Blk.new w244 28 #[.int .i64 0,.string (⟨#[]⟩),.int .i64 0,.slice none 0 0]
        obtain ⟨w250,hw⟩:∃ x,x=w244.alloc (.cells #[.int .i64 0,.string (⟨#[]⟩),.int .i64 0,.slice none 0 0] 28):=⟨_,rfl⟩;rw [← hw] at Y B249
        obtain ⟨b249,hb⟩:∃ x,x=w244.heap.size:=⟨_,rfl⟩;rw [← hb] at Y B249
        have Nb101_b249:=nb_ hb B101;replace B101:=ba_ hw B101;have Nb176_b249:=nb_ hb B176;replace B176:=ba_ hw B176;have LKC_b249:=lk_ hb KC;replace KC:=ka_ hw KC;clear hw hb
        refine sv_ gz7_18_9 Y fun a251 e=>?_;clear Y
        have h22:=pt_ F e;replace F:=pu_ F e;replace h120:=so_ e h120;replace h121:=so_ e h121;clear e
        obtain ⟨w252,Y,hk,hB⟩:=ys4_ (o:=oz7_18_10) rfl h22 h120 B249
        replace KC:=kx_ hk KC (Nat.not_lt.2 LKC_b249);replace B101:=bx_ hk B101 Nb101_b249;replace B176:=bx_ hk B176 Nb176_b249;clear B249;have B249:=hB;clear hB hk
        refine st_skip gz7_18_10 rfl (wanted_free rfl) Y ?_;clear Y
        refine sv_ gz7_18_11 (ya_ rfl h121) fun a253 e=>?_
        clear h120 h121;have h23:=pt_ F e;replace F:=pu_ F e;replace h22:=so_ e h22;clear e
        refine st_end ?_
        replace h0:=F.of h0;replace h1:=F.of h1;replace h5:=F.of h5;replace h6:=F.of h6;replace h7:=F.of h7;replace h19:=F.of h19;replace h20:=F.of h20;replace h21:=F.of h21;replace h29:=F.of h29;clear h112;have R:=F.r;clear F
        change (cz7_51).wp _ _ _ _
        refine wp_seq (x:=cz7_52) (y:=Code.ret) ?_
        change (Code.region 19 Oz7_19 false).wp _ _ _ _
        refine reg_in (l:=[0,1,2,3,4,5,6,7,8,9,10]) rfl ?_
        have F:FE_ _ [] a253 a253:=⟨R,Ag_.refl _⟩;clear R
        refine sv_ gz7_19_0 (ym_ rfl (F.of h19)) fun a254 e=>?_
        have h122:=pt_ F e;replace F:=pu_ F e;clear e
        refine sv_ gz7_19_1 (ym_ rfl (F.of h23)) fun a255 e=>?_
        have h123:=pt_ F e;replace F:=pu_ F e;replace h122:=so_ e h122;clear e
        refine sv_ gz7_19_2 (ym_ rfl (F.of h21)) fun a256 e=>?_
        have h124:=pt_ F e;replace F:=pu_ F e;replace h122:=so_ e h122;replace h123:=so_ e h123;clear e
        have Y:(execOp a256.eval oz7_19_3).run Tryz.prog w252=.ok (.value (.bool true)) w252:=by unfold oz7_19_3;go_simp
        refine sv_ gz7_19_3 Y fun a257 e=>?_;clear Y
        clear h123 h124;have h125:=pt_ F e;replace F:=pu_ F e;replace h122:=so_ e h122;clear e
        refine sv_ gz7_19_4 (ym_ rfl h125) fun a258 e=>?_
        clear h125;have h126:=pt_ F e;replace F:=pu_ F e;replace h122:=so_ e h122;clear e
        refine st_val gz7_19_5 rfl (wanted_is (j:=4) (d:=126) rfl rfl h126 rfl) (yl4_ rfl (F.of h22) B249) fun a259 e=>?_
        have h127:=pt_ F e;replace F:=pu_ F e;replace h122:=so_ e h122;replace h126:=so_ e h126;clear e
        refine st_val gz7_19_6 rfl (wanted_is (j:=4) (d:=126) rfl rfl h126 rfl) (yl4_ rfl (F.of h20) B176) fun a260 e=>?_
        have h128:=pt_ F e;replace F:=pu_ F e;replace h122:=so_ e h122;replace h126:=so_ e h126;replace h127:=so_ e h127;clear e
        have hcall:=refLike_any (W:=w252) (t:=.node 0 [] 0 []) (u:=.node 0 [] 0 []) tm_Z tm_Z (.inl ⟨rfl,rfl⟩)
        refine st_call gz7_19_7 rfl (wanted_is (j:=4) (d:=126) rfl rfl h126 rfl) (yc2_ enz7_11 rfl h127 h128) ((hcall).mono ?_)
        rintro e9 w261 ⟨rfl,kk⟩
        replace KC:=keep_onto KC kk
        replace B101:=blk_on B101 kk
        replace B176:=blk_on B176 kk
        replace B249:=blk_on B249 kk
        clear hcall
        clear kk
        refine ⟨_,rfl,fun a262 e=>?_⟩
        clear h127 h128;have h129:=pt_ F e;replace F:=pu_ F e;replace h122:=so_ e h122;replace h126:=so_ e h126;clear e
        have Y:(execOp a262.eval oz7_19_8).run Tryz.prog w261=.ok (.value (.bool true)) w261:=by unfold oz7_19_8;go_simp
        refine sv_ gz7_19_8 Y fun a263 e=>?_;clear Y
        clear h126 h129;have h130:=pt_ F e;replace F:=pu_ F e;replace h122:=so_ e h122;clear e
        refine sv_ gz7_19_9 (ya_ rfl h122) fun a264 e=>?_
        clear h122 h6;have h6:=pt_ F e;replace F:=pu_ F e;replace h130:=so_ e h130;clear e
        refine sv_ gz7_19_10 (ya_ rfl h130) fun a265 e=>?_
        clear h130 h7;have h7:=pt_ F e;replace F:=pu_ F e;replace h6:=so_ e h6;clear e
        refine st_end ?_
        replace h0:=F.of h0;replace h1:=F.of h1;replace h5:=F.of h5;replace h19:=F.of h19;replace h20:=F.of h20;replace h21:=F.of h21;clear h22;clear h23;replace h29:=F.of h29;have R:=F.r;clear F
        change (Code.ret).wp _ _ _ _
        refine wp_ret ?_
        change bodyPost Tryz.prog Tryz.f7 (fun e w'=>(∃ (v:Value) (b:Bool),e=.returned (.tuple #[v,.bool b]))∧Chg B RR W w' pb mb md ff kq) .ret a265 w261
        refine ret_el2 rfl R.defers h6 h7 ?_
        exact ⟨⟨_,_,rfl⟩,HC.out.on KC⟩
       | some qq =>
        have HF:Hid (ff kq ≠ none):=Lib.hid (by rw [hf];simp);clear hf
        refine reg_in (l:=[0,1,2,3,4,5,6,7,8,9,10,11]) rfl ?_
        have F:FE_ _ [] a185 a185:=⟨R,Ag_.refl _⟩;clear R
        refine sv_ gz7_18_0 (ym_ rfl (F.of h0)) fun a266 e=>?_
        have h114:=pt_ F e;replace F:=pu_ F e;clear e
        have Y:(execOp a266.eval oz7_18_1).run Tryz.prog w180=.ok (.value (.pointer (some ⟨b101,1,none⟩))) w180:=by have r5:=F.of h5;unfold oz7_18_1;go_simp
        refine sv_ gz7_18_1 Y fun a267 e=>?_;clear Y
        have h115:=pt_ F e;replace F:=pu_ F e;replace h114:=so_ e h114;clear e
        have Y:(execOp a267.eval oz7_18_2).run Tryz.prog w180=.ok (.value (.int .i64 kq)) w180:=by have qq0:w180.cell? ⟨b101,0,none⟩=some (.int .i64 kd):=B101.cell 0;have qq1:w180.cell? ⟨b101,1,none⟩=some (.int .i64 kq):=B101.cell 1;have qq2:w180.cell? ⟨b101,2,none⟩=some (.int .i64 nn):=B101.cell 2;have qq3:w180.cell? ⟨b101,3,none⟩=some (.int .i64 t.k):=B101.cell 3;have qq4:w180.cell? ⟨b101,4,none⟩=some (.string (str t.nm)):=B101.cell 4;have qq5:w180.cell? ⟨b101,5,none⟩=some (.int .i64 t.i):=B101.cell 5;have qq6:w180.cell? ⟨b101,6,none⟩=some (.slice ta t.args.length tc):=B101.cell 6;unfold oz7_18_2;go_simp
        refine sv_ gz7_18_2 Y fun a268 e=>?_;clear Y
        clear h115;have h116:=pt_ F e;replace F:=pu_ F e;replace h114:=so_ e h114;clear e
        have Y:(execOp a268.eval oz7_18_3).run Tryz.prog w180=.ok (.value (.pointer (some ⟨b101,3,none⟩))) w180:=by have r5:=F.of h5;unfold oz7_18_3;go_simp
        refine sv_ gz7_18_3 Y fun a269 e=>?_;clear Y
        have h117:=pt_ F e;replace F:=pu_ F e;replace h114:=so_ e h114;replace h116:=so_ e h116;clear e
        have Y:(execOp a269.eval oz7_18_4).run Tryz.prog w180=.ok (.value (.agg #[.int .i64 t.k,.string (str t.nm),.int .i64 t.i,.slice ta t.args.length tc])) w180:=by have qq0:w180.cell? ⟨b101,0,none⟩=some (.int .i64 kd):=B101.cell 0;have qq1:w180.cell? ⟨b101,1,none⟩=some (.int .i64 kq):=B101.cell 1;have qq2:w180.cell? ⟨b101,2,none⟩=some (.int .i64 nn):=B101.cell 2;have qq3:w180.cell? ⟨b101,3,none⟩=some (.int .i64 t.k):=B101.cell 3;have qq4:w180.cell? ⟨b101,4,none⟩=some (.string (str t.nm)):=B101.cell 4;have qq5:w180.cell? ⟨b101,5,none⟩=some (.int .i64 t.i):=B101.cell 5;have qq6:w180.cell? ⟨b101,6,none⟩=some (.slice ta t.args.length tc):=B101.cell 6;unfold oz7_18_4;go_simp
        refine sv_ gz7_18_4 Y fun a270 e=>?_;clear Y
        clear h117;have h118:=pt_ F e;replace F:=pu_ F e;replace h114:=so_ e h114;replace h116:=so_ e h116;clear e
        have Y:(execOp a270.eval oz7_18_5).run Tryz.prog w180=.ok (.enter 17 #[.pointer (some ⟨pb,0,none⟩),.int .i64 kq,.agg #[.int .i64 t.k,.string (str t.nm),.int .i64 t.i,.slice ta t.args.length tc]]) w180:=by unfold oz7_18_5;go_simp
        refine st_call gz7_18_5 rfl (wanted_free rfl) Y ((get_c1 (HP.out.on KP) HK.out (HT.out.on KP) HF.out).mono ?_);clear Y
        rintro e9 w271 ⟨u,ua,uc,er,rfl,hne,hc⟩
        replace B101:=B101.keep hc.2 ⟨B101.lt,fun h=>absurd (HP.out.rb _ h).2 (Nat.not_lt.2 LKP_b101)⟩
        replace B176:=B176.keep hc.2 ⟨B176.lt,fun h=>absurd (HP.out.rb _ h).2 (Nat.not_lt.2 LKP_b176)⟩
        have HC:Hid (Chg B RR W w271 pb mb md ff kq):=Lib.hid (Chg.onto (KP.less fun g hg=>hg.1) hc KP.size);clear hc
        clear KP
        have kk:=trivial
        have HE:=Lib.hid hne;clear hne
        clear kk
        have KC:=Keep.refl (fun g=>g < w271.heap.size) w271
        refine ⟨_,rfl,fun a272 e=>?_⟩
        clear h114 h116 h118;have h119:=pt_ F e;replace F:=pu_ F e;clear e
        refine sv_ gz7_18_6 (ym_ rfl h119) fun a273 e=>?_
        clear h119;have h113:=pt_ F e;replace F:=pu_ F e;clear e
        refine sv_ gz7_18_7 (ye20_ rfl h113) fun a274 e=>?_
        have h120:=pt_ F e;replace F:=pu_ F e;replace h113:=so_ e h113;clear e
        refine sv_ gz7_18_8 (ye21_ rfl h113) fun a275 e=>?_
        clear h113;have h121:=pt_ F e;replace F:=pu_ F e;replace h120:=so_ e h120;clear e
        have Y:(execOp a275.eval oz7_18_9).run Tryz.prog w271=.ok (.value (.pointer (some ⟨w271.heap.size,0,none⟩))) (w271.alloc (.cells #[.int .i64 0,.string (⟨#[]⟩),.int .i64 0,.slice none 0 0] 28)):=by unfold oz7_18_9;go_simp
        have B276:=Blk.new w271 28 #[.int .i64 0,.string (⟨#[]⟩),.int .i64 0,.slice none 0 0]
        obtain ⟨w277,hw⟩:∃ x,x=w271.alloc (.cells #[.int .i64 0,.string (⟨#[]⟩),.int .i64 0,.slice none 0 0] 28):=⟨_,rfl⟩;rw [← hw] at Y B276
        obtain ⟨b276,hb⟩:∃ x,x=w271.heap.size:=⟨_,rfl⟩;rw [← hb] at Y B276
        have Nb101_b276:=nb_ hb B101;replace B101:=ba_ hw B101;have Nb176_b276:=nb_ hb B176;replace B176:=ba_ hw B176;have LKC_b276:=lk_ hb KC;replace KC:=ka_ hw KC;clear hw hb
        refine sv_ gz7_18_9 Y fun a278 e=>?_;clear Y
        have h22:=pt_ F e;replace F:=pu_ F e;replace h120:=so_ e h120;replace h121:=so_ e h121;clear e
        obtain ⟨w279,Y,hk,hB⟩:=ys4_ (o:=oz7_18_10) rfl h22 h120 B276
        replace KC:=kx_ hk KC (Nat.not_lt.2 LKC_b276);replace B101:=bx_ hk B101 Nb101_b276;replace B176:=bx_ hk B176 Nb176_b276;clear B276;have B276:=hB;clear hB hk
        refine st_skip gz7_18_10 rfl (wanted_free rfl) Y ?_;clear Y
        refine sv_ gz7_18_11 (ya_ rfl h121) fun a280 e=>?_
        clear h120 h121;have h23:=pt_ F e;replace F:=pu_ F e;replace h22:=so_ e h22;clear e
        refine st_end ?_
        replace h0:=F.of h0;replace h1:=F.of h1;replace h5:=F.of h5;replace h6:=F.of h6;replace h7:=F.of h7;replace h19:=F.of h19;replace h20:=F.of h20;replace h21:=F.of h21;replace h29:=F.of h29;clear h112;have R:=F.r;clear F
        change (cz7_51).wp _ _ _ _
        refine wp_seq (x:=cz7_52) (y:=Code.ret) ?_
        change (Code.region 19 Oz7_19 false).wp _ _ _ _
        refine reg_in (l:=[0,1,2,3,4,5,6,7,8,9,10]) rfl ?_
        have F:FE_ _ [] a280 a280:=⟨R,Ag_.refl _⟩;clear R
        refine sv_ gz7_19_0 (ym_ rfl (F.of h19)) fun a281 e=>?_
        have h122:=pt_ F e;replace F:=pu_ F e;clear e
        refine sv_ gz7_19_1 (ym_ rfl (F.of h23)) fun a282 e=>?_
        have h123:=pt_ F e;replace F:=pu_ F e;replace h122:=so_ e h122;clear e
        refine sv_ gz7_19_2 (ym_ rfl (F.of h21)) fun a283 e=>?_
        have h124:=pt_ F e;replace F:=pu_ F e;replace h122:=so_ e h122;replace h123:=so_ e h123;clear e
        have Y:(execOp a283.eval oz7_19_3).run Tryz.prog w279=.ok (.value (.bool false)) w279:=by have hne:(er == 140)=false:=(by have:=HE.out;simpa using this);unfold oz7_19_3;go_simp
        refine sv_ gz7_19_3 Y fun a284 e=>?_;clear Y
        clear h123 h124;have h125:=pt_ F e;replace F:=pu_ F e;replace h122:=so_ e h122;clear e
        refine sv_ gz7_19_4 (ym_ rfl h125) fun a285 e=>?_
        clear h125;have h126:=pt_ F e;replace F:=pu_ F e;replace h122:=so_ e h122;clear e
        refine st_not gz7_19_5 rfl (wanted_is (j:=4) (d:=126) rfl rfl h126 rfl) fun a286 e=>?_
        have h127:=pt_ F e;replace F:=pu_ F e;replace h122:=so_ e h122;replace h126:=so_ e h126;clear e
        refine st_not gz7_19_6 rfl (wanted_is (j:=4) (d:=126) rfl rfl h126 rfl) fun a287 e=>?_
        have h128:=pt_ F e;replace F:=pu_ F e;replace h122:=so_ e h122;replace h126:=so_ e h126;replace h127:=so_ e h127;clear e
        refine st_not gz7_19_7 rfl (wanted_is (j:=4) (d:=126) rfl rfl h126 rfl) fun a288 e=>?_
        clear h127 h128;have h129:=pt_ F e;replace F:=pu_ F e;replace h122:=so_ e h122;replace h126:=so_ e h126;clear e
        have Y:(execOp a288.eval oz7_19_8).run Tryz.prog w279=.ok (.value (.bool false)) w279:=by unfold oz7_19_8;go_simp
        refine sv_ gz7_19_8 Y fun a289 e=>?_;clear Y
        clear h126 h129;have h130:=pt_ F e;replace F:=pu_ F e;replace h122:=so_ e h122;clear e
        refine sv_ gz7_19_9 (ya_ rfl h122) fun a290 e=>?_
        clear h122 h6;have h6:=pt_ F e;replace F:=pu_ F e;replace h130:=so_ e h130;clear e
        refine sv_ gz7_19_10 (ya_ rfl h130) fun a291 e=>?_
        clear h130 h7;have h7:=pt_ F e;replace F:=pu_ F e;replace h6:=so_ e h6;clear e
        refine st_end ?_
        replace h0:=F.of h0;replace h1:=F.of h1;replace h5:=F.of h5;replace h19:=F.of h19;replace h20:=F.of h20;replace h21:=F.of h21;clear h22;clear h23;replace h29:=F.of h29;have R:=F.r;clear F
        change (Code.ret).wp _ _ _ _
        refine wp_ret ?_
        change bodyPost Tryz.prog Tryz.f7 (fun e w'=>(∃ (v:Value) (b:Bool),e=.returned (.tuple #[v,.bool b]))∧Chg B RR W w' pb mb md ff kq) .ret a291 w279
        refine ret_el2 rfl R.defers h6 h7 ?_
        exact ⟨⟨_,_,rfl⟩,HC.out.on KC⟩
    | true =>
     have fb117:=hb117;clear hb117
     simp only [decide_eq_true_eq,decide_eq_false_iff_not,bne_iff_ne,bne_eq_false_iff_eq,beq_iff_eq,beq_eq_false_iff_ne,ne_eq,Bool.not_eq_true',Bool.not_eq_false',Bool.not_eq_eq_eq_not,Bool.not_true,Bool.not_false] at fb117
     refine wp_cond_true (x:=Code.skip) (y:=cz7_41) (eval_slot h94) ?_
     refine wp_skip ?_
     change (cz7_42).wp _ _ _ _
     refine wp_cond_true (x:=cz7_43) (y:=cz7_60) (eval_slot h94) ?_
     refine wp_seq (x:=cz7_44) (y:=cz7_45) ?_
     change (Code.region 16 Oz7_16 false).wp _ _ _ _
     refine reg_in (l:=[0,1,2,3,4,5,6,7,8,9,10,11,12,13,14,15,16]) rfl ?_
     have F:FE_ _ [] a119 a119:=⟨R,Ag_.refl _⟩;clear R
     refine sv_ gz7_16_0 (ym_ rfl (F.of h1)) fun a292 e=>?_
     have h98:=pt_ F e;replace F:=pu_ F e;clear e
     have Y:(execOp a292.eval oz7_16_1).run Tryz.prog w102=.ok (.value (.pointer (some ⟨b101,1,none⟩))) w102:=by have r5:=F.of h5;unfold oz7_16_1;go_simp
     refine sv_ gz7_16_1 Y fun a293 e=>?_;clear Y
     have h99:=pt_ F e;replace F:=pu_ F e;replace h98:=so_ e h98;clear e
     have Y:(execOp a293.eval oz7_16_2).run Tryz.prog w102=.ok (.value (.int .i64 kq)) w102:=by have qq0:w102.cell? ⟨b101,0,none⟩=some (.int .i64 kd):=B101.cell 0;have qq1:w102.cell? ⟨b101,1,none⟩=some (.int .i64 kq):=B101.cell 1;have qq2:w102.cell? ⟨b101,2,none⟩=some (.int .i64 nn):=B101.cell 2;have qq3:w102.cell? ⟨b101,3,none⟩=some (.int .i64 t.k):=B101.cell 3;have qq4:w102.cell? ⟨b101,4,none⟩=some (.string (str t.nm)):=B101.cell 4;have qq5:w102.cell? ⟨b101,5,none⟩=some (.int .i64 t.i):=B101.cell 5;have qq6:w102.cell? ⟨b101,6,none⟩=some (.slice ta t.args.length tc):=B101.cell 6;unfold oz7_16_2;go_simp
     refine sv_ gz7_16_2 Y fun a294 e=>?_;clear Y
     clear h99;have h100:=pt_ F e;replace F:=pu_ F e;replace h98:=so_ e h98;clear e
     have Y:(execOp a294.eval oz7_16_3).run Tryz.prog w102=.ok (.value (.pointer (some ⟨b101,3,none⟩))) w102:=by have r5:=F.of h5;unfold oz7_16_3;go_simp
     refine sv_ gz7_16_3 Y fun a295 e=>?_;clear Y
     have h101:=pt_ F e;replace F:=pu_ F e;replace h98:=so_ e h98;replace h100:=so_ e h100;clear e
     have Y:(execOp a295.eval oz7_16_4).run Tryz.prog w102=.ok (.value (.agg #[.int .i64 t.k,.string (str t.nm),.int .i64 t.i,.slice ta t.args.length tc])) w102:=by have qq0:w102.cell? ⟨b101,0,none⟩=some (.int .i64 kd):=B101.cell 0;have qq1:w102.cell? ⟨b101,1,none⟩=some (.int .i64 kq):=B101.cell 1;have qq2:w102.cell? ⟨b101,2,none⟩=some (.int .i64 nn):=B101.cell 2;have qq3:w102.cell? ⟨b101,3,none⟩=some (.int .i64 t.k):=B101.cell 3;have qq4:w102.cell? ⟨b101,4,none⟩=some (.string (str t.nm)):=B101.cell 4;have qq5:w102.cell? ⟨b101,5,none⟩=some (.int .i64 t.i):=B101.cell 5;have qq6:w102.cell? ⟨b101,6,none⟩=some (.slice ta t.args.length tc):=B101.cell 6;unfold oz7_16_4;go_simp
     refine sv_ gz7_16_4 Y fun a296 e=>?_;clear Y
     clear h101;have h102:=pt_ F e;replace F:=pu_ F e;replace h98:=so_ e h98;replace h100:=so_ e h100;clear e
     have Y:(execOp a296.eval oz7_16_5).run Tryz.prog w102=.ok (.value (.pointer (some ⟨b101,0,none⟩))) w102:=by have r5:=F.of h5;unfold oz7_16_5;go_simp
     refine sv_ gz7_16_5 Y fun a297 e=>?_;clear Y
     have h103:=pt_ F e;replace F:=pu_ F e;replace h98:=so_ e h98;replace h100:=so_ e h100;replace h102:=so_ e h102;clear e
     have Y:(execOp a297.eval oz7_16_6).run Tryz.prog w102=.ok (.value (.int .i64 kd)) w102:=by have qq0:w102.cell? ⟨b101,0,none⟩=some (.int .i64 kd):=B101.cell 0;have qq1:w102.cell? ⟨b101,1,none⟩=some (.int .i64 kq):=B101.cell 1;have qq2:w102.cell? ⟨b101,2,none⟩=some (.int .i64 nn):=B101.cell 2;have qq3:w102.cell? ⟨b101,3,none⟩=some (.int .i64 t.k):=B101.cell 3;have qq4:w102.cell? ⟨b101,4,none⟩=some (.string (str t.nm)):=B101.cell 4;have qq5:w102.cell? ⟨b101,5,none⟩=some (.int .i64 t.i):=B101.cell 5;have qq6:w102.cell? ⟨b101,6,none⟩=some (.slice ta t.args.length tc):=B101.cell 6;unfold oz7_16_6;go_simp
     refine sv_ gz7_16_6 Y fun a298 e=>?_;clear Y
     clear h103;have h104:=pt_ F e;replace F:=pu_ F e;replace h98:=so_ e h98;replace h100:=so_ e h100;replace h102:=so_ e h102;clear e
     obtain ⟨b299,hb299⟩:∃ x,(((kd:Int) == (4:Int)))=x:=⟨_,rfl⟩
     have Y:(execOp a298.eval oz7_16_7).run Tryz.prog w102=.ok (.value (.bool b299)) w102:=by rw [← hb299];unfold oz7_16_7;go_simp
     refine sv_ gz7_16_7 Y fun a300 e=>?_;clear Y
     clear h104;have h105:=pt_ F e;replace F:=pu_ F e;replace h98:=so_ e h98;replace h100:=so_ e h100;replace h102:=so_ e h102;clear e
     have Y:(execOp a300.eval oz7_16_8).run Tryz.prog w102=.ok (.enter 26 #[.slice va 0 vc,.int .i64 kq,.agg #[.int .i64 t.k,.string (str t.nm),.int .i64 t.i,.slice ta t.args.length tc],.bool b299]) w102:=by unfold oz7_16_8;go_simp
     refine st_call gz7_16_8 rfl (wanted_free rfl) Y ((refGet0 w102 va vc kq t ta tc b299).mono ?_);clear Y
     rintro e9 w301 ⟨rfl,kk⟩
     replace KP:=keep_onto KP kk
     replace B101:=blk_on B101 kk
     clear kk
     refine ⟨_,rfl,fun a302 e=>?_⟩
     clear h98 h100 h102 h105;have h106:=pt_ F e;replace F:=pu_ F e;clear e
     refine sv_ gz7_16_9 (ym_ rfl h106) fun a303 e=>?_
     clear h106;have h97:=pt_ F e;replace F:=pu_ F e;clear e
     refine sv_ gz7_16_10 (ye30_ rfl h97) fun a304 e=>?_
     have h107:=pt_ F e;replace F:=pu_ F e;replace h97:=so_ e h97;clear e
     refine sv_ gz7_16_11 (ye31_ rfl h97) fun a305 e=>?_
     have h108:=pt_ F e;replace F:=pu_ F e;replace h97:=so_ e h97;replace h107:=so_ e h107;clear e
     refine sv_ gz7_16_12 (ye32_ rfl h97) fun a306 e=>?_
     clear h97;have h109:=pt_ F e;replace F:=pu_ F e;replace h107:=so_ e h107;replace h108:=so_ e h108;clear e
     have Y:(execOp a306.eval oz7_16_13).run Tryz.prog w301=.ok (.value (.pointer (some ⟨w301.heap.size,0,none⟩))) (w301.alloc (.cells #[.int .i64 0,.string (⟨#[]⟩),.int .i64 0,.slice none 0 0] 28)):=by unfold oz7_16_13;go_simp
     have B307:=Blk.new w301 28 #[.int .i64 0,.string (⟨#[]⟩),.int .i64 0,.slice none 0 0]
     obtain ⟨w308,hw⟩:∃ x,x=w301.alloc (.cells #[.int .i64 0,.string (⟨#[]⟩),.int .i64 0,.slice none 0 0] 28):=⟨_,rfl⟩;rw [← hw] at Y B307
     obtain ⟨b307,hb⟩:∃ x,x=w301.heap.size:=⟨_,rfl⟩;rw [← hb] at Y B307
     have Nb101_b307:=nb_ hb B101;replace B101:=ba_ hw B101;have LKP_b307:=lk_ hb KP;replace KP:=ka_ hw KP;clear hw hb
     refine sv_ gz7_16_13 Y fun a309 e=>?_;clear Y
     have h20:=pt_ F e;replace F:=pu_ F e;replace h107:=so_ e h107;replace h108:=so_ e h108;replace h109:=so_ e h109;clear e
     refine sv_ gz7_16_14 (ya_ rfl h107) fun a310 e=>?_
     clear h107;have h19:=pt_ F e;replace F:=pu_ F e;replace h20:=so_ e h20;replace h108:=so_ e h108;replace h109:=so_ e h109;clear e
     obtain ⟨w311,Y,hk,hB⟩:=ys4_ (o:=oz7_16_15) rfl h20 h108 B307
     replace KP:=kx_ hk KP (Nat.not_lt.2 LKP_b307);replace B101:=bx_ hk B101 Nb101_b307;clear B307;have B307:=hB;clear hB hk
     refine st_skip gz7_16_15 rfl (wanted_free rfl) Y ?_;clear Y
     refine sv_ gz7_16_16 (ya_ rfl h109) fun a312 e=>?_
     clear h108 h109;have h21:=pt_ F e;replace F:=pu_ F e;replace h19:=so_ e h19;replace h20:=so_ e h20;clear e
     refine st_end ?_
     replace h0:=F.of h0;replace h1:=F.of h1;replace h5:=F.of h5;replace h6:=F.of h6;replace h7:=F.of h7;replace h29:=F.of h29;clear h94;have R:=F.r;clear F
     change (cz7_45).wp _ _ _ _
     refine wp_seq (x:=cz7_46) (y:=cz7_55) ?_
     refine wp_seq (x:=cz7_47) (y:=cz7_48) ?_
     change (Code.region 17 Oz7_17 false).wp _ _ _ _
     refine reg_in (l:=[0,1,2]) rfl ?_
     have F:FE_ _ [] a312 a312:=⟨R,Ag_.refl _⟩;clear R
     have Y:(execOp a312.eval oz7_17_0).run Tryz.prog w311=.ok (.value (.pointer (some ⟨b101,0,none⟩))) w311:=by have r5:=F.of h5;unfold oz7_17_0;go_simp
     refine sv_ gz7_17_0 Y fun a313 e=>?_;clear Y
     have h110:=pt_ F e;replace F:=pu_ F e;clear e
     have Y:(execOp a313.eval oz7_17_1).run Tryz.prog w311=.ok (.value (.int .i64 kd)) w311:=by have qq0:w311.cell? ⟨b101,0,none⟩=some (.int .i64 kd):=B101.cell 0;have qq1:w311.cell? ⟨b101,1,none⟩=some (.int .i64 kq):=B101.cell 1;have qq2:w311.cell? ⟨b101,2,none⟩=some (.int .i64 nn):=B101.cell 2;have qq3:w311.cell? ⟨b101,3,none⟩=some (.int .i64 t.k):=B101.cell 3;have qq4:w311.cell? ⟨b101,4,none⟩=some (.string (str t.nm)):=B101.cell 4;have qq5:w311.cell? ⟨b101,5,none⟩=some (.int .i64 t.i):=B101.cell 5;have qq6:w311.cell? ⟨b101,6,none⟩=some (.slice ta t.args.length tc):=B101.cell 6;unfold oz7_17_1;go_simp
     refine sv_ gz7_17_1 Y fun a314 e=>?_;clear Y
     clear h110;have h111:=pt_ F e;replace F:=pu_ F e;clear e
     obtain ⟨b315,hb315⟩:∃ x,(((kd:Int) == (4:Int)))=x:=⟨_,rfl⟩
     have Y:(execOp a314.eval oz7_17_2).run Tryz.prog w311=.ok (.value (.bool b315)) w311:=by rw [← hb315];unfold oz7_17_2;go_simp
     refine sv_ gz7_17_2 Y fun a316 e=>?_;clear Y
     clear h111;have h112:=pt_ F e;replace F:=pu_ F e;clear e
     refine st_end ?_
     replace h0:=F.of h0;replace h1:=F.of h1;replace h5:=F.of h5;replace h6:=F.of h6;replace h7:=F.of h7;replace h19:=F.of h19;replace h20:=F.of h20;replace h21:=F.of h21;replace h29:=F.of h29;have R:=F.r;clear F
     change (cz7_48).wp _ _ _ _
     cases b315 with
     | false =>
      have fb315:=hb315;clear hb315
      simp only [decide_eq_true_eq,decide_eq_false_iff_not,bne_iff_ne,bne_eq_false_iff_eq,beq_iff_eq,beq_eq_false_iff_ne,ne_eq,Bool.not_eq_true',Bool.not_eq_false',Bool.not_eq_eq_eq_not,Bool.not_true,Bool.not_false] at fb315
      refine wp_cond_false (x:=cz7_49) (y:=Code.skip) (eval_slot h112) ?_
      refine wp_skip ?_
      change (cz7_55).wp _ _ _ _
      refine wp_seq (x:=cz7_56) (y:=cz7_57) ?_
      change (Code.region 20 Oz7_20 false).wp _ _ _ _
      cases hf:ff kq with
      | none =>
       have HF:=Lib.hid hf;clear hf
       refine reg_in (l:=[0,1,2,3,4,5,6,7,8,9,10,11]) rfl ?_
       have F:FE_ _ [] a316 a316:=⟨R,Ag_.refl _⟩;clear R
       refine sv_ gz7_20_0 (ym_ rfl (F.of h0)) fun a317 e=>?_
       have h132:=pt_ F e;replace F:=pu_ F e;clear e
       have Y:(execOp a317.eval oz7_20_1).run Tryz.prog w311=.ok (.value (.pointer (some ⟨b101,1,none⟩))) w311:=by have r5:=F.of h5;unfold oz7_20_1;go_simp
       refine sv_ gz7_20_1 Y fun a318 e=>?_;clear Y
       have h133:=pt_ F e;replace F:=pu_ F e;replace h132:=so_ e h132;clear e
       have Y:(execOp a318.eval oz7_20_2).run Tryz.prog w311=.ok (.value (.int .i64 kq)) w311:=by have qq0:w311.cell? ⟨b101,0,none⟩=some (.int .i64 kd):=B101.cell 0;have qq1:w311.cell? ⟨b101,1,none⟩=some (.int .i64 kq):=B101.cell 1;have qq2:w311.cell? ⟨b101,2,none⟩=some (.int .i64 nn):=B101.cell 2;have qq3:w311.cell? ⟨b101,3,none⟩=some (.int .i64 t.k):=B101.cell 3;have qq4:w311.cell? ⟨b101,4,none⟩=some (.string (str t.nm)):=B101.cell 4;have qq5:w311.cell? ⟨b101,5,none⟩=some (.int .i64 t.i):=B101.cell 5;have qq6:w311.cell? ⟨b101,6,none⟩=some (.slice ta t.args.length tc):=B101.cell 6;unfold oz7_20_2;go_simp
       refine sv_ gz7_20_2 Y fun a319 e=>?_;clear Y
       clear h133;have h134:=pt_ F e;replace F:=pu_ F e;replace h132:=so_ e h132;clear e
       have Y:(execOp a319.eval oz7_20_3).run Tryz.prog w311=.ok (.value (.pointer (some ⟨b101,3,none⟩))) w311:=by have r5:=F.of h5;unfold oz7_20_3;go_simp
       refine sv_ gz7_20_3 Y fun a320 e=>?_;clear Y
       have h135:=pt_ F e;replace F:=pu_ F e;replace h132:=so_ e h132;replace h134:=so_ e h134;clear e
       have Y:(execOp a320.eval oz7_20_4).run Tryz.prog w311=.ok (.value (.agg #[.int .i64 t.k,.string (str t.nm),.int .i64 t.i,.slice ta t.args.length tc])) w311:=by have qq0:w311.cell? ⟨b101,0,none⟩=some (.int .i64 kd):=B101.cell 0;have qq1:w311.cell? ⟨b101,1,none⟩=some (.int .i64 kq):=B101.cell 1;have qq2:w311.cell? ⟨b101,2,none⟩=some (.int .i64 nn):=B101.cell 2;have qq3:w311.cell? ⟨b101,3,none⟩=some (.int .i64 t.k):=B101.cell 3;have qq4:w311.cell? ⟨b101,4,none⟩=some (.string (str t.nm)):=B101.cell 4;have qq5:w311.cell? ⟨b101,5,none⟩=some (.int .i64 t.i):=B101.cell 5;have qq6:w311.cell? ⟨b101,6,none⟩=some (.slice ta t.args.length tc):=B101.cell 6;unfold oz7_20_4;go_simp
       refine sv_ gz7_20_4 Y fun a321 e=>?_;clear Y
       clear h135;have h136:=pt_ F e;replace F:=pu_ F e;replace h132:=so_ e h132;replace h134:=so_ e h134;clear e
       have Y:(execOp a321.eval oz7_20_5).run Tryz.prog w311=.ok (.enter 18 #[.pointer (some ⟨pb,0,none⟩),.int .i64 kq,.agg #[.int .i64 t.k,.string (str t.nm),.int .i64 t.i,.slice ta t.args.length tc]]) w311:=by unfold oz7_20_5;go_simp
       refine st_call gz7_20_5 rfl (wanted_free rfl) Y ((peek_c0 (HP.out.on KP) HK.out (HT.out.on KP) HF.out).mono ?_);clear Y
       rintro e9 w322 ⟨rfl,hc⟩
       replace B101:=B101.keep hc.2 ⟨B101.lt,fun h=>absurd (HP.out.rb _ h).2 (Nat.not_lt.2 LKP_b101)⟩
       replace B307:=B307.keep hc.2 ⟨B307.lt,fun h=>absurd (HP.out.rb _ h).2 (Nat.not_lt.2 LKP_b307)⟩
       have HC:Hid (Chg B RR W w322 pb mb md ff kq):=Lib.hid (Chg.onto (KP.less fun g hg=>hg.1) hc KP.size);clear hc
       clear KP
       have kk:=trivial
       clear kk
       have KC:=Keep.refl (fun g=>g < w322.heap.size) w322
       refine ⟨_,rfl,fun a323 e=>?_⟩
       clear h132 h134 h136;have h137:=pt_ F e;replace F:=pu_ F e;clear e
       refine sv_ gz7_20_6 (ym_ rfl h137) fun a324 e=>?_
       clear h137;have h131:=pt_ F e;replace F:=pu_ F e;clear e
       refine sv_ gz7_20_7 (ye20_ rfl h131) fun a325 e=>?_
       have h138:=pt_ F e;replace F:=pu_ F e;replace h131:=so_ e h131;clear e
       refine sv_ gz7_20_8 (ye21_ rfl h131) fun a326 e=>?_
       clear h131;have h139:=pt_ F e;replace F:=pu_ F e;replace h138:=so_ e h138;clear e
       have Y:(execOp a326.eval oz7_20_9).run Tryz.prog w322=.ok (.value (.pointer (some ⟨w322.heap.size,0,none⟩))) (w322.alloc (.cells #[.int .i64 0,.string (⟨#[]⟩),.int .i64 0,.slice none 0 0] 28)):=by unfold oz7_20_9;go_simp
       have B327:=Blk.new w322 28 #[.int .i64 0,.string (⟨#[]⟩),.int .i64 0,.slice none 0 0]
       obtain ⟨w328,hw⟩:∃ x,x=w322.alloc (.cells #[.int .i64 0,.string (⟨#[]⟩),.int .i64 0,.slice none 0 0] 28):=⟨_,rfl⟩;rw [← hw] at Y B327
       obtain ⟨b327,hb⟩:∃ x,x=w322.heap.size:=⟨_,rfl⟩;rw [← hb] at Y B327
       have Nb101_b327:=nb_ hb B101;replace B101:=ba_ hw B101;have Nb307_b327:=nb_ hb B307;replace B307:=ba_ hw B307;have LKC_b327:=lk_ hb KC;replace KC:=ka_ hw KC;clear hw hb
       refine sv_ gz7_20_9 Y fun a329 e=>?_;clear Y
       have h24:=pt_ F e;replace F:=pu_ F e;replace h138:=so_ e h138;replace h139:=so_ e h139;clear e
       obtain ⟨w330,Y,hk,hB⟩:=ys4_ (o:=oz7_20_10) rfl h24 h138 B327
       replace KC:=kx_ hk KC (Nat.not_lt.2 LKC_b327);replace B101:=bx_ hk B101 Nb101_b327;replace B307:=bx_ hk B307 Nb307_b327;clear B327;have B327:=hB;clear hB hk
       refine st_skip gz7_20_10 rfl (wanted_free rfl) Y ?_;clear Y
       refine sv_ gz7_20_11 (ya_ rfl h139) fun a331 e=>?_
       clear h138 h139;have h25:=pt_ F e;replace F:=pu_ F e;replace h24:=so_ e h24;clear e
       refine st_end ?_
       replace h0:=F.of h0;replace h1:=F.of h1;replace h5:=F.of h5;replace h6:=F.of h6;replace h7:=F.of h7;replace h19:=F.of h19;replace h20:=F.of h20;replace h21:=F.of h21;replace h29:=F.of h29;clear h112;have R:=F.r;clear F
       change (cz7_57).wp _ _ _ _
       refine wp_seq (x:=cz7_58) (y:=Code.ret) ?_
       change (Code.region 21 Oz7_21 false).wp _ _ _ _
       refine reg_in (l:=[0,1,2,3,4,5,6,7,8,9,10]) rfl ?_
       have F:FE_ _ [] a331 a331:=⟨R,Ag_.refl _⟩;clear R
       refine sv_ gz7_21_0 (ym_ rfl (F.of h19)) fun a332 e=>?_
       have h140:=pt_ F e;replace F:=pu_ F e;clear e
       refine sv_ gz7_21_1 (ym_ rfl (F.of h25)) fun a333 e=>?_
       have h141:=pt_ F e;replace F:=pu_ F e;replace h140:=so_ e h140;clear e
       refine sv_ gz7_21_2 (ym_ rfl (F.of h21)) fun a334 e=>?_
       have h142:=pt_ F e;replace F:=pu_ F e;replace h140:=so_ e h140;replace h141:=so_ e h141;clear e
       have Y:(execOp a334.eval oz7_21_3).run Tryz.prog w330=.ok (.value (.bool true)) w330:=by unfold oz7_21_3;go_simp
       refine sv_ gz7_21_3 Y fun a335 e=>?_;clear Y
       clear h141 h142;have h143:=pt_ F e;replace F:=pu_ F e;replace h140:=so_ e h140;clear e
       refine sv_ gz7_21_4 (ym_ rfl h143) fun a336 e=>?_
       clear h143;have h144:=pt_ F e;replace F:=pu_ F e;replace h140:=so_ e h140;clear e
       refine st_val gz7_21_5 rfl (wanted_is (j:=4) (d:=144) rfl rfl h144 rfl) (yl4_ rfl (F.of h24) B327) fun a337 e=>?_
       have h145:=pt_ F e;replace F:=pu_ F e;replace h140:=so_ e h140;replace h144:=so_ e h144;clear e
       refine st_val gz7_21_6 rfl (wanted_is (j:=4) (d:=144) rfl rfl h144 rfl) (yl4_ rfl (F.of h20) B307) fun a338 e=>?_
       have h146:=pt_ F e;replace F:=pu_ F e;replace h140:=so_ e h140;replace h144:=so_ e h144;replace h145:=so_ e h145;clear e
       have hcall:=refLike_any (W:=w330) (t:=.node 0 [] 0 []) (u:=.node 0 [] 0 []) tm_Z tm_Z (.inl ⟨rfl,rfl⟩)
       refine st_call gz7_21_7 rfl (wanted_is (j:=4) (d:=144) rfl rfl h144 rfl) (yc2_ enz7_11 rfl h145 h146) ((hcall).mono ?_)
       rintro e9 w339 ⟨rfl,kk⟩
       replace KC:=keep_onto KC kk
       replace B101:=blk_on B101 kk
       replace B307:=blk_on B307 kk
       replace B327:=blk_on B327 kk
       clear hcall
       clear kk
       refine ⟨_,rfl,fun a340 e=>?_⟩
       clear h145 h146;have h147:=pt_ F e;replace F:=pu_ F e;replace h140:=so_ e h140;replace h144:=so_ e h144;clear e
       have Y:(execOp a340.eval oz7_21_8).run Tryz.prog w339=.ok (.value (.bool true)) w339:=by unfold oz7_21_8;go_simp
       refine sv_ gz7_21_8 Y fun a341 e=>?_;clear Y
       clear h144 h147;have h148:=pt_ F e;replace F:=pu_ F e;replace h140:=so_ e h140;clear e
       refine sv_ gz7_21_9 (ya_ rfl h140) fun a342 e=>?_
       clear h140 h6;have h6:=pt_ F e;replace F:=pu_ F e;replace h148:=so_ e h148;clear e
       refine sv_ gz7_21_10 (ya_ rfl h148) fun a343 e=>?_
       clear h148 h7;have h7:=pt_ F e;replace F:=pu_ F e;replace h6:=so_ e h6;clear e
       refine st_end ?_
       replace h0:=F.of h0;replace h1:=F.of h1;replace h5:=F.of h5;clear h19;clear h20;clear h21;clear h24;clear h25;replace h29:=F.of h29;have R:=F.r;clear F
       change (Code.ret).wp _ _ _ _
       refine wp_ret ?_
       change bodyPost Tryz.prog Tryz.f7 (fun e w'=>(∃ (v:Value) (b:Bool),e=.returned (.tuple #[v,.bool b]))∧Chg B RR W w' pb mb md ff kq) .ret a343 w339
       refine ret_el2 rfl R.defers h6 h7 ?_
       exact ⟨⟨_,_,rfl⟩,HC.out.on KC⟩
      | some qq =>
       have HF:Hid (ff kq ≠ none):=Lib.hid (by rw [hf];simp);clear hf
       refine reg_in (l:=[0,1,2,3,4,5,6,7,8,9,10,11]) rfl ?_
       have F:FE_ _ [] a316 a316:=⟨R,Ag_.refl _⟩;clear R
       refine sv_ gz7_20_0 (ym_ rfl (F.of h0)) fun a344 e=>?_
       have h132:=pt_ F e;replace F:=pu_ F e;clear e
       have Y:(execOp a344.eval oz7_20_1).run Tryz.prog w311=.ok (.value (.pointer (some ⟨b101,1,none⟩))) w311:=by have r5:=F.of h5;unfold oz7_20_1;go_simp
       refine sv_ gz7_20_1 Y fun a345 e=>?_;clear Y
       have h133:=pt_ F e;replace F:=pu_ F e;replace h132:=so_ e h132;clear e
       have Y:(execOp a345.eval oz7_20_2).run Tryz.prog w311=.ok (.value (.int .i64 kq)) w311:=by have qq0:w311.cell? ⟨b101,0,none⟩=some (.int .i64 kd):=B101.cell 0;have qq1:w311.cell? ⟨b101,1,none⟩=some (.int .i64 kq):=B101.cell 1;have qq2:w311.cell? ⟨b101,2,none⟩=some (.int .i64 nn):=B101.cell 2;have qq3:w311.cell? ⟨b101,3,none⟩=some (.int .i64 t.k):=B101.cell 3;have qq4:w311.cell? ⟨b101,4,none⟩=some (.string (str t.nm)):=B101.cell 4;have qq5:w311.cell? ⟨b101,5,none⟩=some (.int .i64 t.i):=B101.cell 5;have qq6:w311.cell? ⟨b101,6,none⟩=some (.slice ta t.args.length tc):=B101.cell 6;unfold oz7_20_2;go_simp
       refine sv_ gz7_20_2 Y fun a346 e=>?_;clear Y
       clear h133;have h134:=pt_ F e;replace F:=pu_ F e;replace h132:=so_ e h132;clear e
       have Y:(execOp a346.eval oz7_20_3).run Tryz.prog w311=.ok (.value (.pointer (some ⟨b101,3,none⟩))) w311:=by have r5:=F.of h5;unfold oz7_20_3;go_simp
       refine sv_ gz7_20_3 Y fun a347 e=>?_;clear Y
       have h135:=pt_ F e;replace F:=pu_ F e;replace h132:=so_ e h132;replace h134:=so_ e h134;clear e
       have Y:(execOp a347.eval oz7_20_4).run Tryz.prog w311=.ok (.value (.agg #[.int .i64 t.k,.string (str t.nm),.int .i64 t.i,.slice ta t.args.length tc])) w311:=by have qq0:w311.cell? ⟨b101,0,none⟩=some (.int .i64 kd):=B101.cell 0;have qq1:w311.cell? ⟨b101,1,none⟩=some (.int .i64 kq):=B101.cell 1;have qq2:w311.cell? ⟨b101,2,none⟩=some (.int .i64 nn):=B101.cell 2;have qq3:w311.cell? ⟨b101,3,none⟩=some (.int .i64 t.k):=B101.cell 3;have qq4:w311.cell? ⟨b101,4,none⟩=some (.string (str t.nm)):=B101.cell 4;have qq5:w311.cell? ⟨b101,5,none⟩=some (.int .i64 t.i):=B101.cell 5;have qq6:w311.cell? ⟨b101,6,none⟩=some (.slice ta t.args.length tc):=B101.cell 6;unfold oz7_20_4;go_simp
       refine sv_ gz7_20_4 Y fun a348 e=>?_;clear Y
       clear h135;have h136:=pt_ F e;replace F:=pu_ F e;replace h132:=so_ e h132;replace h134:=so_ e h134;clear e
       have Y:(execOp a348.eval oz7_20_5).run Tryz.prog w311=.ok (.enter 18 #[.pointer (some ⟨pb,0,none⟩),.int .i64 kq,.agg #[.int .i64 t.k,.string (str t.nm),.int .i64 t.i,.slice ta t.args.length tc]]) w311:=by unfold oz7_20_5;go_simp
       refine st_call gz7_20_5 rfl (wanted_free rfl) Y ((peek_c1 (HP.out.on KP) HK.out (HT.out.on KP) HF.out).mono ?_);clear Y
       rintro e9 w349 ⟨u,ua,uc,er,rfl,hne,hc⟩
       replace B101:=B101.keep hc.2 ⟨B101.lt,fun h=>absurd (HP.out.rb _ h).2 (Nat.not_lt.2 LKP_b101)⟩
       replace B307:=B307.keep hc.2 ⟨B307.lt,fun h=>absurd (HP.out.rb _ h).2 (Nat.not_lt.2 LKP_b307)⟩
       have HC:Hid (Chg B RR W w349 pb mb md ff kq):=Lib.hid (Chg.onto (KP.less fun g hg=>hg.1) hc KP.size);clear hc
       clear KP
       have kk:=trivial
       have HE:=Lib.hid hne;clear hne
       clear kk
       have KC:=Keep.refl (fun g=>g < w349.heap.size) w349
       refine ⟨_,rfl,fun a350 e=>?_⟩
       clear h132 h134 h136;have h137:=pt_ F e;replace F:=pu_ F e;clear e
       refine sv_ gz7_20_6 (ym_ rfl h137) fun a351 e=>?_
       clear h137;have h131:=pt_ F e;replace F:=pu_ F e;clear e
       refine sv_ gz7_20_7 (ye20_ rfl h131) fun a352 e=>?_
       have h138:=pt_ F e;replace F:=pu_ F e;replace h131:=so_ e h131;clear e
       refine sv_ gz7_20_8 (ye21_ rfl h131) fun a353 e=>?_
       clear h131;have h139:=pt_ F e;replace F:=pu_ F e;replace h138:=so_ e h138;clear e
       have Y:(execOp a353.eval oz7_20_9).run Tryz.prog w349=.ok (.value (.pointer (some ⟨w349.heap.size,0,none⟩))) (w349.alloc (.cells #[.int .i64 0,.string (⟨#[]⟩),.int .i64 0,.slice none 0 0] 28)):=by unfold oz7_20_9;go_simp
       have B354:=Blk.new w349 28 #[.int .i64 0,.string (⟨#[]⟩),.int .i64 0,.slice none 0 0]
       obtain ⟨w355,hw⟩:∃ x,x=w349.alloc (.cells #[.int .i64 0,.string (⟨#[]⟩),.int .i64 0,.slice none 0 0] 28):=⟨_,rfl⟩;rw [← hw] at Y B354
       obtain ⟨b354,hb⟩:∃ x,x=w349.heap.size:=⟨_,rfl⟩;rw [← hb] at Y B354
       have Nb101_b354:=nb_ hb B101;replace B101:=ba_ hw B101;have Nb307_b354:=nb_ hb B307;replace B307:=ba_ hw B307;have LKC_b354:=lk_ hb KC;replace KC:=ka_ hw KC;clear hw hb
       refine sv_ gz7_20_9 Y fun a356 e=>?_;clear Y
       have h24:=pt_ F e;replace F:=pu_ F e;replace h138:=so_ e h138;replace h139:=so_ e h139;clear e
       obtain ⟨w357,Y,hk,hB⟩:=ys4_ (o:=oz7_20_10) rfl h24 h138 B354
       replace KC:=kx_ hk KC (Nat.not_lt.2 LKC_b354);replace B101:=bx_ hk B101 Nb101_b354;replace B307:=bx_ hk B307 Nb307_b354;clear B354;have B354:=hB;clear hB hk
       refine st_skip gz7_20_10 rfl (wanted_free rfl) Y ?_;clear Y
       refine sv_ gz7_20_11 (ya_ rfl h139) fun a358 e=>?_
       clear h138 h139;have h25:=pt_ F e;replace F:=pu_ F e;replace h24:=so_ e h24;clear e
       refine st_end ?_
       replace h0:=F.of h0;replace h1:=F.of h1;replace h5:=F.of h5;replace h6:=F.of h6;replace h7:=F.of h7;replace h19:=F.of h19;replace h20:=F.of h20;replace h21:=F.of h21;replace h29:=F.of h29;clear h112;have R:=F.r;clear F
       change (cz7_57).wp _ _ _ _
       refine wp_seq (x:=cz7_58) (y:=Code.ret) ?_
       change (Code.region 21 Oz7_21 false).wp _ _ _ _
       refine reg_in (l:=[0,1,2,3,4,5,6,7,8,9,10]) rfl ?_
       have F:FE_ _ [] a358 a358:=⟨R,Ag_.refl _⟩;clear R
       refine sv_ gz7_21_0 (ym_ rfl (F.of h19)) fun a359 e=>?_
       have h140:=pt_ F e;replace F:=pu_ F e;clear e
       refine sv_ gz7_21_1 (ym_ rfl (F.of h25)) fun a360 e=>?_
       have h141:=pt_ F e;replace F:=pu_ F e;replace h140:=so_ e h140;clear e
       refine sv_ gz7_21_2 (ym_ rfl (F.of h21)) fun a361 e=>?_
       have h142:=pt_ F e;replace F:=pu_ F e;replace h140:=so_ e h140;replace h141:=so_ e h141;clear e
       have Y:(execOp a361.eval oz7_21_3).run Tryz.prog w357=.ok (.value (.bool false)) w357:=by have hne:(er == 140)=false:=(by have:=HE.out;simpa using this);unfold oz7_21_3;go_simp
       refine sv_ gz7_21_3 Y fun a362 e=>?_;clear Y
       clear h141 h142;have h143:=pt_ F e;replace F:=pu_ F e;replace h140:=so_ e h140;clear e
       refine sv_ gz7_21_4 (ym_ rfl h143) fun a363 e=>?_
       clear h143;have h144:=pt_ F e;replace F:=pu_ F e;replace h140:=so_ e h140;clear e
       refine st_not gz7_21_5 rfl (wanted_is (j:=4) (d:=144) rfl rfl h144 rfl) fun a364 e=>?_
       have h145:=pt_ F e;replace F:=pu_ F e;replace h140:=so_ e h140;replace h144:=so_ e h144;clear e
       refine st_not gz7_21_6 rfl (wanted_is (j:=4) (d:=144) rfl rfl h144 rfl) fun a365 e=>?_
       have h146:=pt_ F e;replace F:=pu_ F e;replace h140:=so_ e h140;replace h144:=so_ e h144;replace h145:=so_ e h145;clear e
       refine st_not gz7_21_7 rfl (wanted_is (j:=4) (d:=144) rfl rfl h144 rfl) fun a366 e=>?_
       clear h145 h146;have h147:=pt_ F e;replace F:=pu_ F e;replace h140:=so_ e h140;replace h144:=so_ e h144;clear e
       have Y:(execOp a366.eval oz7_21_8).run Tryz.prog w357=.ok (.value (.bool false)) w357:=by unfold oz7_21_8;go_simp
       refine sv_ gz7_21_8 Y fun a367 e=>?_;clear Y
       clear h144 h147;have h148:=pt_ F e;replace F:=pu_ F e;replace h140:=so_ e h140;clear e
       refine sv_ gz7_21_9 (ya_ rfl h140) fun a368 e=>?_
       clear h140 h6;have h6:=pt_ F e;replace F:=pu_ F e;replace h148:=so_ e h148;clear e
       refine sv_ gz7_21_10 (ya_ rfl h148) fun a369 e=>?_
       clear h148 h7;have h7:=pt_ F e;replace F:=pu_ F e;replace h6:=so_ e h6;clear e
       refine st_end ?_
       replace h0:=F.of h0;replace h1:=F.of h1;replace h5:=F.of h5;clear h19;clear h20;clear h21;clear h24;clear h25;replace h29:=F.of h29;have R:=F.r;clear F
       change (Code.ret).wp _ _ _ _
       refine wp_ret ?_
       change bodyPost Tryz.prog Tryz.f7 (fun e w'=>(∃ (v:Value) (b:Bool),e=.returned (.tuple #[v,.bool b]))∧Chg B RR W w' pb mb md ff kq) .ret a369 w357
       refine ret_el2 rfl R.defers h6 h7 ?_
       exact ⟨⟨_,_,rfl⟩,HC.out.on KC⟩
     | true =>
      have fb315:=hb315;clear hb315
      simp only [decide_eq_true_eq,decide_eq_false_iff_not,bne_iff_ne,bne_eq_false_iff_eq,beq_iff_eq,beq_eq_false_iff_ne,ne_eq,Bool.not_eq_true',Bool.not_eq_false',Bool.not_eq_eq_eq_not,Bool.not_true,Bool.not_false] at fb315
      refine wp_cond_true (x:=cz7_49) (y:=Code.skip) (eval_slot h112) ?_
      refine wp_seq (x:=cz7_50) (y:=cz7_51) ?_
      change (Code.region 18 Oz7_18 false).wp _ _ _ _
      cases hf:ff kq with
      | none =>
       have HF:=Lib.hid hf;clear hf
       refine reg_in (l:=[0,1,2,3,4,5,6,7,8,9,10,11]) rfl ?_
       have F:FE_ _ [] a316 a316:=⟨R,Ag_.refl _⟩;clear R
       refine sv_ gz7_18_0 (ym_ rfl (F.of h0)) fun a370 e=>?_
       have h114:=pt_ F e;replace F:=pu_ F e;clear e
       have Y:(execOp a370.eval oz7_18_1).run Tryz.prog w311=.ok (.value (.pointer (some ⟨b101,1,none⟩))) w311:=by have r5:=F.of h5;unfold oz7_18_1;go_simp
       refine sv_ gz7_18_1 Y fun a371 e=>?_;clear Y
       have h115:=pt_ F e;replace F:=pu_ F e;replace h114:=so_ e h114;clear e
       have Y:(execOp a371.eval oz7_18_2).run Tryz.prog w311=.ok (.value (.int .i64 kq)) w311:=by have qq0:w311.cell? ⟨b101,0,none⟩=some (.int .i64 kd):=B101.cell 0;have qq1:w311.cell? ⟨b101,1,none⟩=some (.int .i64 kq):=B101.cell 1;have qq2:w311.cell? ⟨b101,2,none⟩=some (.int .i64 nn):=B101.cell 2;have qq3:w311.cell? ⟨b101,3,none⟩=some (.int .i64 t.k):=B101.cell 3;have qq4:w311.cell? ⟨b101,4,none⟩=some (.string (str t.nm)):=B101.cell 4;have qq5:w311.cell? ⟨b101,5,none⟩=some (.int .i64 t.i):=B101.cell 5;have qq6:w311.cell? ⟨b101,6,none⟩=some (.slice ta t.args.length tc):=B101.cell 6;unfold oz7_18_2;go_simp
       refine sv_ gz7_18_2 Y fun a372 e=>?_;clear Y
       clear h115;have h116:=pt_ F e;replace F:=pu_ F e;replace h114:=so_ e h114;clear e
       have Y:(execOp a372.eval oz7_18_3).run Tryz.prog w311=.ok (.value (.pointer (some ⟨b101,3,none⟩))) w311:=by have r5:=F.of h5;unfold oz7_18_3;go_simp
       refine sv_ gz7_18_3 Y fun a373 e=>?_;clear Y
       have h117:=pt_ F e;replace F:=pu_ F e;replace h114:=so_ e h114;replace h116:=so_ e h116;clear e
       have Y:(execOp a373.eval oz7_18_4).run Tryz.prog w311=.ok (.value (.agg #[.int .i64 t.k,.string (str t.nm),.int .i64 t.i,.slice ta t.args.length tc])) w311:=by have qq0:w311.cell? ⟨b101,0,none⟩=some (.int .i64 kd):=B101.cell 0;have qq1:w311.cell? ⟨b101,1,none⟩=some (.int .i64 kq):=B101.cell 1;have qq2:w311.cell? ⟨b101,2,none⟩=some (.int .i64 nn):=B101.cell 2;have qq3:w311.cell? ⟨b101,3,none⟩=some (.int .i64 t.k):=B101.cell 3;have qq4:w311.cell? ⟨b101,4,none⟩=some (.string (str t.nm)):=B101.cell 4;have qq5:w311.cell? ⟨b101,5,none⟩=some (.int .i64 t.i):=B101.cell 5;have qq6:w311.cell? ⟨b101,6,none⟩=some (.slice ta t.args.length tc):=B101.cell 6;unfold oz7_18_4;go_simp
       refine sv_ gz7_18_4 Y fun a374 e=>?_;clear Y
       clear h117;have h118:=pt_ F e;replace F:=pu_ F e;replace h114:=so_ e h114;replace h116:=so_ e h116;clear e
       have Y:(execOp a374.eval oz7_18_5).run Tryz.prog w311=.ok (.enter 17 #[.pointer (some ⟨pb,0,none⟩),.int .i64 kq,.agg #[.int .i64 t.k,.string (str t.nm),.int .i64 t.i,.slice ta t.args.length tc]]) w311:=by unfold oz7_18_5;go_simp
       refine st_call gz7_18_5 rfl (wanted_free rfl) Y ((get_c0 (HP.out.on KP) HK.out (HT.out.on KP) HF.out).mono ?_);clear Y
       rintro e9 w375 ⟨rfl,hc⟩
       replace B101:=B101.keep hc.2 ⟨B101.lt,fun h=>absurd (HP.out.rb _ h).2 (Nat.not_lt.2 LKP_b101)⟩
       replace B307:=B307.keep hc.2 ⟨B307.lt,fun h=>absurd (HP.out.rb _ h).2 (Nat.not_lt.2 LKP_b307)⟩
       have HC:Hid (Chg B RR W w375 pb mb md ff kq):=Lib.hid (Chg.onto (KP.less fun g hg=>hg.1) hc KP.size);clear hc
       clear KP
       have kk:=trivial
       clear kk
       have KC:=Keep.refl (fun g=>g < w375.heap.size) w375
       refine ⟨_,rfl,fun a376 e=>?_⟩
       clear h114 h116 h118;have h119:=pt_ F e;replace F:=pu_ F e;clear e
       refine sv_ gz7_18_6 (ym_ rfl h119) fun a377 e=>?_
       clear h119;have h113:=pt_ F e;replace F:=pu_ F e;clear e
       refine sv_ gz7_18_7 (ye20_ rfl h113) fun a378 e=>?_
       have h120:=pt_ F e;replace F:=pu_ F e;replace h113:=so_ e h113;clear e
       refine sv_ gz7_18_8 (ye21_ rfl h113) fun a379 e=>?_
       clear h113;have h121:=pt_ F e;replace F:=pu_ F e;replace h120:=so_ e h120;clear e
       have Y:(execOp a379.eval oz7_18_9).run Tryz.prog w375=.ok (.value (.pointer (some ⟨w375.heap.size,0,none⟩))) (w375.alloc (.cells #[.int .i64 0,.string (⟨#[]⟩),.int .i64 0,.slice none 0 0] 28)):=by unfold oz7_18_9;go_simp
       have B380:=Blk.new w375 28 #[.int .i64 0,.string (⟨#[]⟩),.int .i64 0,.slice none 0 0]
       obtain ⟨w381,hw⟩:∃ x,x=w375.alloc (.cells #[.int .i64 0,.string (⟨#[]⟩),.int .i64 0,.slice none 0 0] 28):=⟨_,rfl⟩;rw [← hw] at Y B380
       obtain ⟨b380,hb⟩:∃ x,x=w375.heap.size:=⟨_,rfl⟩;rw [← hb] at Y B380
       have Nb101_b380:=nb_ hb B101;replace B101:=ba_ hw B101;have Nb307_b380:=nb_ hb B307;replace B307:=ba_ hw B307;have LKC_b380:=lk_ hb KC;replace KC:=ka_ hw KC;clear hw hb
       refine sv_ gz7_18_9 Y fun a382 e=>?_;clear Y
       have h22:=pt_ F e;replace F:=pu_ F e;replace h120:=so_ e h120;replace h121:=so_ e h121;clear e
       obtain ⟨w383,Y,hk,hB⟩:=ys4_ (o:=oz7_18_10) rfl h22 h120 B380
       replace KC:=kx_ hk KC (Nat.not_lt.2 LKC_b380);replace B101:=bx_ hk B101 Nb101_b380;replace B307:=bx_ hk B307 Nb307_b380;clear B380;have B380:=hB;clear hB hk
       refine st_skip gz7_18_10 rfl (wanted_free rfl) Y ?_;clear Y
       refine sv_ gz7_18_11 (ya_ rfl h121) fun a384 e=>?_
       clear h120 h121;have h23:=pt_ F e;replace F:=pu_ F e;replace h22:=so_ e h22;clear e
       refine st_end ?_
       replace h0:=F.of h0;replace h1:=F.of h1;replace h5:=F.of h5;replace h6:=F.of h6;replace h7:=F.of h7;replace h19:=F.of h19;replace h20:=F.of h20;replace h21:=F.of h21;replace h29:=F.of h29;clear h112;have R:=F.r;clear F
       change (cz7_51).wp _ _ _ _
       refine wp_seq (x:=cz7_52) (y:=Code.ret) ?_
       change (Code.region 19 Oz7_19 false).wp _ _ _ _
       refine reg_in (l:=[0,1,2,3,4,5,6,7,8,9,10]) rfl ?_
       have F:FE_ _ [] a384 a384:=⟨R,Ag_.refl _⟩;clear R
       refine sv_ gz7_19_0 (ym_ rfl (F.of h19)) fun a385 e=>?_
       have h122:=pt_ F e;replace F:=pu_ F e;clear e
       refine sv_ gz7_19_1 (ym_ rfl (F.of h23)) fun a386 e=>?_
       have h123:=pt_ F e;replace F:=pu_ F e;replace h122:=so_ e h122;clear e
       refine sv_ gz7_19_2 (ym_ rfl (F.of h21)) fun a387 e=>?_
       have h124:=pt_ F e;replace F:=pu_ F e;replace h122:=so_ e h122;replace h123:=so_ e h123;clear e
       have Y:(execOp a387.eval oz7_19_3).run Tryz.prog w383=.ok (.value (.bool true)) w383:=by unfold oz7_19_3;go_simp
       refine sv_ gz7_19_3 Y fun a388 e=>?_;clear Y
       clear h123 h124;have h125:=pt_ F e;replace F:=pu_ F e;replace h122:=so_ e h122;clear e
       refine sv_ gz7_19_4 (ym_ rfl h125) fun a389 e=>?_
       clear h125;have h126:=pt_ F e;replace F:=pu_ F e;replace h122:=so_ e h122;clear e
       refine st_val gz7_19_5 rfl (wanted_is (j:=4) (d:=126) rfl rfl h126 rfl) (yl4_ rfl (F.of h22) B380) fun a390 e=>?_
       have h127:=pt_ F e;replace F:=pu_ F e;replace h122:=so_ e h122;replace h126:=so_ e h126;clear e
       refine st_val gz7_19_6 rfl (wanted_is (j:=4) (d:=126) rfl rfl h126 rfl) (yl4_ rfl (F.of h20) B307) fun a391 e=>?_
       have h128:=pt_ F e;replace F:=pu_ F e;replace h122:=so_ e h122;replace h126:=so_ e h126;replace h127:=so_ e h127;clear e
       have hcall:=refLike_any (W:=w383) (t:=.node 0 [] 0 []) (u:=.node 0 [] 0 []) tm_Z tm_Z (.inl ⟨rfl,rfl⟩)
       refine st_call gz7_19_7 rfl (wanted_is (j:=4) (d:=126) rfl rfl h126 rfl) (yc2_ enz7_11 rfl h127 h128) ((hcall).mono ?_)
       rintro e9 w392 ⟨rfl,kk⟩
       replace KC:=keep_onto KC kk
       replace B101:=blk_on B101 kk
       replace B307:=blk_on B307 kk
       replace B380:=blk_on B380 kk
       clear hcall
       clear kk
       refine ⟨_,rfl,fun a393 e=>?_⟩
       clear h127 h128;have h129:=pt_ F e;replace F:=pu_ F e;replace h122:=so_ e h122;replace h126:=so_ e h126;clear e
       have Y:(execOp a393.eval oz7_19_8).run Tryz.prog w392=.ok (.value (.bool true)) w392:=by unfold oz7_19_8;go_simp
       refine sv_ gz7_19_8 Y fun a394 e=>?_;clear Y
       clear h126 h129;have h130:=pt_ F e;replace F:=pu_ F e;replace h122:=so_ e h122;clear e
       refine sv_ gz7_19_9 (ya_ rfl h122) fun a395 e=>?_
       clear h122 h6;have h6:=pt_ F e;replace F:=pu_ F e;replace h130:=so_ e h130;clear e
       refine sv_ gz7_19_10 (ya_ rfl h130) fun a396 e=>?_
       clear h130 h7;have h7:=pt_ F e;replace F:=pu_ F e;replace h6:=so_ e h6;clear e
       refine st_end ?_
       replace h0:=F.of h0;replace h1:=F.of h1;replace h5:=F.of h5;replace h19:=F.of h19;replace h20:=F.of h20;replace h21:=F.of h21;clear h22;clear h23;replace h29:=F.of h29;have R:=F.r;clear F
       change (Code.ret).wp _ _ _ _
       refine wp_ret ?_
       change bodyPost Tryz.prog Tryz.f7 (fun e w'=>(∃ (v:Value) (b:Bool),e=.returned (.tuple #[v,.bool b]))∧Chg B RR W w' pb mb md ff kq) .ret a396 w392
       refine ret_el2 rfl R.defers h6 h7 ?_
       exact ⟨⟨_,_,rfl⟩,HC.out.on KC⟩
      | some qq =>
       have HF:Hid (ff kq ≠ none):=Lib.hid (by rw [hf];simp);clear hf
       refine reg_in (l:=[0,1,2,3,4,5,6,7,8,9,10,11]) rfl ?_
       have F:FE_ _ [] a316 a316:=⟨R,Ag_.refl _⟩;clear R
       refine sv_ gz7_18_0 (ym_ rfl (F.of h0)) fun a397 e=>?_
       have h114:=pt_ F e;replace F:=pu_ F e;clear e
       have Y:(execOp a397.eval oz7_18_1).run Tryz.prog w311=.ok (.value (.pointer (some ⟨b101,1,none⟩))) w311:=by have r5:=F.of h5;unfold oz7_18_1;go_simp
       refine sv_ gz7_18_1 Y fun a398 e=>?_;clear Y
       have h115:=pt_ F e;replace F:=pu_ F e;replace h114:=so_ e h114;clear e
       have Y:(execOp a398.eval oz7_18_2).run Tryz.prog w311=.ok (.value (.int .i64 kq)) w311:=by have qq0:w311.cell? ⟨b101,0,none⟩=some (.int .i64 kd):=B101.cell 0;have qq1:w311.cell? ⟨b101,1,none⟩=some (.int .i64 kq):=B101.cell 1;have qq2:w311.cell? ⟨b101,2,none⟩=some (.int .i64 nn):=B101.cell 2;have qq3:w311.cell? ⟨b101,3,none⟩=some (.int .i64 t.k):=B101.cell 3;have qq4:w311.cell? ⟨b101,4,none⟩=some (.string (str t.nm)):=B101.cell 4;have qq5:w311.cell? ⟨b101,5,none⟩=some (.int .i64 t.i):=B101.cell 5;have qq6:w311.cell? ⟨b101,6,none⟩=some (.slice ta t.args.length tc):=B101.cell 6;unfold oz7_18_2;go_simp
       refine sv_ gz7_18_2 Y fun a399 e=>?_;clear Y
       clear h115;have h116:=pt_ F e;replace F:=pu_ F e;replace h114:=so_ e h114;clear e
       have Y:(execOp a399.eval oz7_18_3).run Tryz.prog w311=.ok (.value (.pointer (some ⟨b101,3,none⟩))) w311:=by have r5:=F.of h5;unfold oz7_18_3;go_simp
       refine sv_ gz7_18_3 Y fun a400 e=>?_;clear Y
       have h117:=pt_ F e;replace F:=pu_ F e;replace h114:=so_ e h114;replace h116:=so_ e h116;clear e
       have Y:(execOp a400.eval oz7_18_4).run Tryz.prog w311=.ok (.value (.agg #[.int .i64 t.k,.string (str t.nm),.int .i64 t.i,.slice ta t.args.length tc])) w311:=by have qq0:w311.cell? ⟨b101,0,none⟩=some (.int .i64 kd):=B101.cell 0;have qq1:w311.cell? ⟨b101,1,none⟩=some (.int .i64 kq):=B101.cell 1;have qq2:w311.cell? ⟨b101,2,none⟩=some (.int .i64 nn):=B101.cell 2;have qq3:w311.cell? ⟨b101,3,none⟩=some (.int .i64 t.k):=B101.cell 3;have qq4:w311.cell? ⟨b101,4,none⟩=some (.string (str t.nm)):=B101.cell 4;have qq5:w311.cell? ⟨b101,5,none⟩=some (.int .i64 t.i):=B101.cell 5;have qq6:w311.cell? ⟨b101,6,none⟩=some (.slice ta t.args.length tc):=B101.cell 6;unfold oz7_18_4;go_simp
       refine sv_ gz7_18_4 Y fun a401 e=>?_;clear Y
       clear h117;have h118:=pt_ F e;replace F:=pu_ F e;replace h114:=so_ e h114;replace h116:=so_ e h116;clear e
       have Y:(execOp a401.eval oz7_18_5).run Tryz.prog w311=.ok (.enter 17 #[.pointer (some ⟨pb,0,none⟩),.int .i64 kq,.agg #[.int .i64 t.k,.string (str t.nm),.int .i64 t.i,.slice ta t.args.length tc]]) w311:=by unfold oz7_18_5;go_simp
       refine st_call gz7_18_5 rfl (wanted_free rfl) Y ((get_c1 (HP.out.on KP) HK.out (HT.out.on KP) HF.out).mono ?_);clear Y
       rintro e9 w402 ⟨u,ua,uc,er,rfl,hne,hc⟩
       replace B101:=B101.keep hc.2 ⟨B101.lt,fun h=>absurd (HP.out.rb _ h).2 (Nat.not_lt.2 LKP_b101)⟩
       replace B307:=B307.keep hc.2 ⟨B307.lt,fun h=>absurd (HP.out.rb _ h).2 (Nat.not_lt.2 LKP_b307)⟩
       have HC:Hid (Chg B RR W w402 pb mb md ff kq):=Lib.hid (Chg.onto (KP.less fun g hg=>hg.1) hc KP.size);clear hc
       clear KP
       have kk:=trivial
       have HE:=Lib.hid hne;clear hne
       clear kk
       have KC:=Keep.refl (fun g=>g < w402.heap.size) w402
       refine ⟨_,rfl,fun a403 e=>?_⟩
       clear h114 h116 h118;have h119:=pt_ F e;replace F:=pu_ F e;clear e
       refine sv_ gz7_18_6 (ym_ rfl h119) fun a404 e=>?_
       clear h119;have h113:=pt_ F e;replace F:=pu_ F e;clear e
       refine sv_ gz7_18_7 (ye20_ rfl h113) fun a405 e=>?_
       have h120:=pt_ F e;replace F:=pu_ F e;replace h113:=so_ e h113;clear e
       refine sv_ gz7_18_8 (ye21_ rfl h113) fun a406 e=>?_
       clear h113;have h121:=pt_ F e;replace F:=pu_ F e;replace h120:=so_ e h120;clear e
       have Y:(execOp a406.eval oz7_18_9).run Tryz.prog w402=.ok (.value (.pointer (some ⟨w402.heap.size,0,none⟩))) (w402.alloc (.cells #[.int .i64 0,.string (⟨#[]⟩),.int .i64 0,.slice none 0 0] 28)):=by unfold oz7_18_9;go_simp
       have B407:=Blk.new w402 28 #[.int .i64 0,.string (⟨#[]⟩),.int .i64 0,.slice none 0 0]
       obtain ⟨w408,hw⟩:∃ x,x=w402.alloc (.cells #[.int .i64 0,.string (⟨#[]⟩),.int .i64 0,.slice none 0 0] 28):=⟨_,rfl⟩;rw [← hw] at Y B407
       obtain ⟨b407,hb⟩:∃ x,x=w402.heap.size:=⟨_,rfl⟩;rw [← hb] at Y B407
       have Nb101_b407:=nb_ hb B101;replace B101:=ba_ hw B101;have Nb307_b407:=nb_ hb B307;replace B307:=ba_ hw B307;have LKC_b407:=lk_ hb KC;replace KC:=ka_ hw KC;clear hw hb
       refine sv_ gz7_18_9 Y fun a409 e=>?_;clear Y
       have h22:=pt_ F e;replace F:=pu_ F e;replace h120:=so_ e h120;replace h121:=so_ e h121;clear e
       obtain ⟨w410,Y,hk,hB⟩:=ys4_ (o:=oz7_18_10) rfl h22 h120 B407
       replace KC:=kx_ hk KC (Nat.not_lt.2 LKC_b407);replace B101:=bx_ hk B101 Nb101_b407;replace B307:=bx_ hk B307 Nb307_b407;clear B407;have B407:=hB;clear hB hk
       refine st_skip gz7_18_10 rfl (wanted_free rfl) Y ?_;clear Y
       refine sv_ gz7_18_11 (ya_ rfl h121) fun a411 e=>?_
       clear h120 h121;have h23:=pt_ F e;replace F:=pu_ F e;replace h22:=so_ e h22;clear e
       refine st_end ?_
       replace h0:=F.of h0;replace h1:=F.of h1;replace h5:=F.of h5;replace h6:=F.of h6;replace h7:=F.of h7;replace h19:=F.of h19;replace h20:=F.of h20;replace h21:=F.of h21;replace h29:=F.of h29;clear h112;have R:=F.r;clear F
       change (cz7_51).wp _ _ _ _
       refine wp_seq (x:=cz7_52) (y:=Code.ret) ?_
       change (Code.region 19 Oz7_19 false).wp _ _ _ _
       refine reg_in (l:=[0,1,2,3,4,5,6,7,8,9,10]) rfl ?_
       have F:FE_ _ [] a411 a411:=⟨R,Ag_.refl _⟩;clear R
       refine sv_ gz7_19_0 (ym_ rfl (F.of h19)) fun a412 e=>?_
       have h122:=pt_ F e;replace F:=pu_ F e;clear e
       refine sv_ gz7_19_1 (ym_ rfl (F.of h23)) fun a413 e=>?_
       have h123:=pt_ F e;replace F:=pu_ F e;replace h122:=so_ e h122;clear e
       refine sv_ gz7_19_2 (ym_ rfl (F.of h21)) fun a414 e=>?_
       have h124:=pt_ F e;replace F:=pu_ F e;replace h122:=so_ e h122;replace h123:=so_ e h123;clear e
       have Y:(execOp a414.eval oz7_19_3).run Tryz.prog w410=.ok (.value (.bool false)) w410:=by have hne:(er == 140)=false:=(by have:=HE.out;simpa using this);unfold oz7_19_3;go_simp
       refine sv_ gz7_19_3 Y fun a415 e=>?_;clear Y
       clear h123 h124;have h125:=pt_ F e;replace F:=pu_ F e;replace h122:=so_ e h122;clear e
       refine sv_ gz7_19_4 (ym_ rfl h125) fun a416 e=>?_
       clear h125;have h126:=pt_ F e;replace F:=pu_ F e;replace h122:=so_ e h122;clear e
       refine st_not gz7_19_5 rfl (wanted_is (j:=4) (d:=126) rfl rfl h126 rfl) fun a417 e=>?_
       have h127:=pt_ F e;replace F:=pu_ F e;replace h122:=so_ e h122;replace h126:=so_ e h126;clear e
       refine st_not gz7_19_6 rfl (wanted_is (j:=4) (d:=126) rfl rfl h126 rfl) fun a418 e=>?_
       have h128:=pt_ F e;replace F:=pu_ F e;replace h122:=so_ e h122;replace h126:=so_ e h126;replace h127:=so_ e h127;clear e
       refine st_not gz7_19_7 rfl (wanted_is (j:=4) (d:=126) rfl rfl h126 rfl) fun a419 e=>?_
       clear h127 h128;have h129:=pt_ F e;replace F:=pu_ F e;replace h122:=so_ e h122;replace h126:=so_ e h126;clear e
       have Y:(execOp a419.eval oz7_19_8).run Tryz.prog w410=.ok (.value (.bool false)) w410:=by unfold oz7_19_8;go_simp
       refine sv_ gz7_19_8 Y fun a420 e=>?_;clear Y
       clear h126 h129;have h130:=pt_ F e;replace F:=pu_ F e;replace h122:=so_ e h122;clear e
       refine sv_ gz7_19_9 (ya_ rfl h122) fun a421 e=>?_
       clear h122 h6;have h6:=pt_ F e;replace F:=pu_ F e;replace h130:=so_ e h130;clear e
       refine sv_ gz7_19_10 (ya_ rfl h130) fun a422 e=>?_
       clear h130 h7;have h7:=pt_ F e;replace F:=pu_ F e;replace h6:=so_ e h6;clear e
       refine st_end ?_
       replace h0:=F.of h0;replace h1:=F.of h1;replace h5:=F.of h5;replace h19:=F.of h19;replace h20:=F.of h20;replace h21:=F.of h21;clear h22;clear h23;replace h29:=F.of h29;have R:=F.r;clear F
       change (Code.ret).wp _ _ _ _
       refine wp_ret ?_
       change bodyPost Tryz.prog Tryz.f7 (fun e w'=>(∃ (v:Value) (b:Bool),e=.returned (.tuple #[v,.bool b]))∧Chg B RR W w' pb mb md ff kq) .ret a422 w410
       refine ret_el2 rfl R.defers h6 h7 ?_
       exact ⟨⟨_,_,rfl⟩,HC.out.on KC⟩
   | true =>
    have fb114:=hb114;clear hb114
    simp only [decide_eq_true_eq,decide_eq_false_iff_not,bne_iff_ne,bne_eq_false_iff_eq,beq_iff_eq,beq_eq_false_iff_ne,ne_eq,Bool.not_eq_true',Bool.not_eq_false',Bool.not_eq_eq_eq_not,Bool.not_true,Bool.not_false] at fb114
    refine wp_cond_true (x:=cz7_29) (y:=cz7_36) (eval_slot h73) ?_
    refine wp_seq (x:=cz7_30) (y:=cz7_31) ?_
    change (Code.region 11 Oz7_11 false).wp _ _ _ _
    refine reg_in (l:=[0,1,2,3,4,5,6]) rfl ?_
    have F:FE_ _ [] a116 a116:=⟨R,Ag_.refl _⟩;clear R
    refine sv_ gz7_11_0 (ym_ rfl (F.of h0)) fun a423 e=>?_
    have h75:=pt_ F e;replace F:=pu_ F e;clear e
    have Y:(execOp a423.eval oz7_11_1).run Tryz.prog w102=.ok (.value (.pointer (some ⟨b101,1,none⟩))) w102:=by have r5:=F.of h5;unfold oz7_11_1;go_simp
    refine sv_ gz7_11_1 Y fun a424 e=>?_;clear Y
    have h76:=pt_ F e;replace F:=pu_ F e;replace h75:=so_ e h75;clear e
    have Y:(execOp a424.eval oz7_11_2).run Tryz.prog w102=.ok (.value (.int .i64 kq)) w102:=by have qq0:w102.cell? ⟨b101,0,none⟩=some (.int .i64 kd):=B101.cell 0;have qq1:w102.cell? ⟨b101,1,none⟩=some (.int .i64 kq):=B101.cell 1;have qq2:w102.cell? ⟨b101,2,none⟩=some (.int .i64 nn):=B101.cell 2;have qq3:w102.cell? ⟨b101,3,none⟩=some (.int .i64 t.k):=B101.cell 3;have qq4:w102.cell? ⟨b101,4,none⟩=some (.string (str t.nm)):=B101.cell 4;have qq5:w102.cell? ⟨b101,5,none⟩=some (.int .i64 t.i):=B101.cell 5;have qq6:w102.cell? ⟨b101,6,none⟩=some (.slice ta t.args.length tc):=B101.cell 6;unfold oz7_11_2;go_simp
    refine sv_ gz7_11_2 Y fun a425 e=>?_;clear Y
    clear h76;have h77:=pt_ F e;replace F:=pu_ F e;replace h75:=so_ e h75;clear e
    have Y:(execOp a425.eval oz7_11_3).run Tryz.prog w102=.ok (.value (.pointer (some ⟨b101,3,none⟩))) w102:=by have r5:=F.of h5;unfold oz7_11_3;go_simp
    refine sv_ gz7_11_3 Y fun a426 e=>?_;clear Y
    have h78:=pt_ F e;replace F:=pu_ F e;replace h75:=so_ e h75;replace h77:=so_ e h77;clear e
    have Y:(execOp a426.eval oz7_11_4).run Tryz.prog w102=.ok (.value (.agg #[.int .i64 t.k,.string (str t.nm),.int .i64 t.i,.slice ta t.args.length tc])) w102:=by have qq0:w102.cell? ⟨b101,0,none⟩=some (.int .i64 kd):=B101.cell 0;have qq1:w102.cell? ⟨b101,1,none⟩=some (.int .i64 kq):=B101.cell 1;have qq2:w102.cell? ⟨b101,2,none⟩=some (.int .i64 nn):=B101.cell 2;have qq3:w102.cell? ⟨b101,3,none⟩=some (.int .i64 t.k):=B101.cell 3;have qq4:w102.cell? ⟨b101,4,none⟩=some (.string (str t.nm)):=B101.cell 4;have qq5:w102.cell? ⟨b101,5,none⟩=some (.int .i64 t.i):=B101.cell 5;have qq6:w102.cell? ⟨b101,6,none⟩=some (.slice ta t.args.length tc):=B101.cell 6;unfold oz7_11_4;go_simp
    refine sv_ gz7_11_4 Y fun a427 e=>?_;clear Y
    clear h78;have h79:=pt_ F e;replace F:=pu_ F e;replace h75:=so_ e h75;replace h77:=so_ e h77;clear e
    have Y:(execOp a427.eval oz7_11_5).run Tryz.prog w102=.ok (.enter 11 #[.pointer (some ⟨pb,0,none⟩),.int .i64 kq,.agg #[.int .i64 t.k,.string (str t.nm),.int .i64 t.i,.slice ta t.args.length tc]]) w102:=by unfold oz7_11_5;go_simp
    refine st_call gz7_11_5 rfl (wanted_free rfl) Y ((sendc (HP.out.on KP) HK.out (HT.out.on KP)).mono ?_);clear Y
    rintro e9 w428 ⟨er,rfl,hc⟩
    replace B101:=B101.keep hc.2 ⟨B101.lt,fun h=>absurd (HP.out.rb _ h).2 (Nat.not_lt.2 LKP_b101)⟩
    have HC:Hid (Chg B RR W w428 pb mb md ff kq):=Lib.hid (Chg.onto (KP.less fun g hg=>hg.1) hc KP.size);clear hc
    clear KP
    have kk:=trivial
    clear kk
    have KC:=Keep.refl (fun g=>g < w428.heap.size) w428
    refine ⟨_,rfl,fun a429 e=>?_⟩
    clear h75 h77 h79;have h80:=pt_ F e;replace F:=pu_ F e;clear e
    refine sv_ gz7_11_6 (ya_ rfl h80) fun a430 e=>?_
    clear h80;have h16:=pt_ F e;replace F:=pu_ F e;clear e
    refine st_end ?_
    replace h0:=F.of h0;replace h1:=F.of h1;replace h5:=F.of h5;replace h6:=F.of h6;replace h7:=F.of h7;replace h29:=F.of h29;clear h73;have R:=F.r;clear F
    change (cz7_31).wp _ _ _ _
    refine wp_seq (x:=cz7_32) (y:=cz7_33) ?_
    change (Code.region 12 Oz7_12 false).wp _ _ _ _
    refine reg_in (l:=[0,1,2,3,4,5,6,7,8,9,10]) rfl ?_
    have F:FE_ _ [] a430 a430:=⟨R,Ag_.refl _⟩;clear R
    refine sv_ gz7_12_0 (ym_ rfl (F.of h1)) fun a431 e=>?_
    have h82:=pt_ F e;replace F:=pu_ F e;clear e
    have Y:(execOp a431.eval oz7_12_1).run Tryz.prog w428=.ok (.value (.pointer (some ⟨b101,1,none⟩))) w428:=by have r5:=F.of h5;unfold oz7_12_1;go_simp
    refine sv_ gz7_12_1 Y fun a432 e=>?_;clear Y
    have h83:=pt_ F e;replace F:=pu_ F e;replace h82:=so_ e h82;clear e
    have Y:(execOp a432.eval oz7_12_2).run Tryz.prog w428=.ok (.value (.int .i64 kq)) w428:=by have qq0:w428.cell? ⟨b101,0,none⟩=some (.int .i64 kd):=B101.cell 0;have qq1:w428.cell? ⟨b101,1,none⟩=some (.int .i64 kq):=B101.cell 1;have qq2:w428.cell? ⟨b101,2,none⟩=some (.int .i64 nn):=B101.cell 2;have qq3:w428.cell? ⟨b101,3,none⟩=some (.int .i64 t.k):=B101.cell 3;have qq4:w428.cell? ⟨b101,4,none⟩=some (.string (str t.nm)):=B101.cell 4;have qq5:w428.cell? ⟨b101,5,none⟩=some (.int .i64 t.i):=B101.cell 5;have qq6:w428.cell? ⟨b101,6,none⟩=some (.slice ta t.args.length tc):=B101.cell 6;unfold oz7_12_2;go_simp
    refine sv_ gz7_12_2 Y fun a433 e=>?_;clear Y
    clear h83;have h84:=pt_ F e;replace F:=pu_ F e;replace h82:=so_ e h82;clear e
    have Y:(execOp a433.eval oz7_12_3).run Tryz.prog w428=.ok (.value (.pointer (some ⟨b101,3,none⟩))) w428:=by have r5:=F.of h5;unfold oz7_12_3;go_simp
    refine sv_ gz7_12_3 Y fun a434 e=>?_;clear Y
    have h85:=pt_ F e;replace F:=pu_ F e;replace h82:=so_ e h82;replace h84:=so_ e h84;clear e
    have Y:(execOp a434.eval oz7_12_4).run Tryz.prog w428=.ok (.value (.agg #[.int .i64 t.k,.string (str t.nm),.int .i64 t.i,.slice ta t.args.length tc])) w428:=by have qq0:w428.cell? ⟨b101,0,none⟩=some (.int .i64 kd):=B101.cell 0;have qq1:w428.cell? ⟨b101,1,none⟩=some (.int .i64 kq):=B101.cell 1;have qq2:w428.cell? ⟨b101,2,none⟩=some (.int .i64 nn):=B101.cell 2;have qq3:w428.cell? ⟨b101,3,none⟩=some (.int .i64 t.k):=B101.cell 3;have qq4:w428.cell? ⟨b101,4,none⟩=some (.string (str t.nm)):=B101.cell 4;have qq5:w428.cell? ⟨b101,5,none⟩=some (.int .i64 t.i):=B101.cell 5;have qq6:w428.cell? ⟨b101,6,none⟩=some (.slice ta t.args.length tc):=B101.cell 6;unfold oz7_12_4;go_simp
    refine sv_ gz7_12_4 Y fun a435 e=>?_;clear Y
    clear h85;have h86:=pt_ F e;replace F:=pu_ F e;replace h82:=so_ e h82;replace h84:=so_ e h84;clear e
    have Y:(execOp a435.eval oz7_12_5).run Tryz.prog w428=.ok (.enter 25 #[.slice va 0 vc,.int .i64 kq,.agg #[.int .i64 t.k,.string (str t.nm),.int .i64 t.i,.slice ta t.args.length tc]]) w428:=by unfold oz7_12_5;go_simp
    refine st_call gz7_12_5 rfl (wanted_free rfl) Y ((refSend0 w428 va vc kq t ta tc).mono ?_);clear Y
    rintro e9 w436 ⟨rfl,kk⟩
    replace KC:=keep_onto KC kk
    replace B101:=blk_on B101 kk
    clear kk
    refine ⟨_,rfl,fun a437 e=>?_⟩
    clear h82 h84 h86;have h87:=pt_ F e;replace F:=pu_ F e;clear e
    refine sv_ gz7_12_6 (ym_ rfl h87) fun a438 e=>?_
    clear h87;have h81:=pt_ F e;replace F:=pu_ F e;clear e
    refine sv_ gz7_12_7 (ye20_ rfl h81) fun a439 e=>?_
    have h88:=pt_ F e;replace F:=pu_ F e;replace h81:=so_ e h81;clear e
    refine sv_ gz7_12_8 (ye21_ rfl h81) fun a440 e=>?_
    clear h81;have h89:=pt_ F e;replace F:=pu_ F e;replace h88:=so_ e h88;clear e
    refine sv_ gz7_12_9 (ya_ rfl h88) fun a441 e=>?_
    clear h88;have h17:=pt_ F e;replace F:=pu_ F e;replace h89:=so_ e h89;clear e
    refine sv_ gz7_12_10 (ya_ rfl h89) fun a442 e=>?_
    clear h89;have h18:=pt_ F e;replace F:=pu_ F e;replace h17:=so_ e h17;clear e
    refine st_end ?_
    replace h0:=F.of h0;replace h1:=F.of h1;replace h5:=F.of h5;replace h6:=F.of h6;replace h7:=F.of h7;replace h16:=F.of h16;replace h29:=F.of h29;have R:=F.r;clear F
    change (cz7_33).wp _ _ _ _
    refine wp_seq (x:=cz7_34) (y:=Code.ret) ?_
    change (Code.region 13 Oz7_13 false).wp _ _ _ _
    refine reg_in (l:=[0,1,2,3,4,5]) rfl ?_
    have F:FE_ _ [] a442 a442:=⟨R,Ag_.refl _⟩;clear R
    refine sv_ gz7_13_0 (ym_ rfl (F.of h17)) fun a443 e=>?_
    have h90:=pt_ F e;replace F:=pu_ F e;clear e
    refine sv_ gz7_13_1 (ym_ rfl (F.of h16)) fun a444 e=>?_
    have h91:=pt_ F e;replace F:=pu_ F e;replace h90:=so_ e h90;clear e
    refine sv_ gz7_13_2 (ym_ rfl (F.of h18)) fun a445 e=>?_
    have h92:=pt_ F e;replace F:=pu_ F e;replace h90:=so_ e h90;replace h91:=so_ e h91;clear e
    obtain ⟨b446,hb446⟩:∃ x,(((er:Int) == (140:Int)))=x:=⟨_,rfl⟩
    have Y:(execOp a445.eval oz7_13_3).run Tryz.prog w436=.ok (.value (.bool b446)) w436:=by rw [← hb446];unfold oz7_13_3;go_simp
    refine sv_ gz7_13_3 Y fun a447 e=>?_;clear Y
    clear h91 h92;have h93:=pt_ F e;replace F:=pu_ F e;replace h90:=so_ e h90;clear e
    refine sv_ gz7_13_4 (ya_ rfl h90) fun a448 e=>?_
    clear h90 h6;have h6:=pt_ F e;replace F:=pu_ F e;replace h93:=so_ e h93;clear e
    refine sv_ gz7_13_5 (ya_ rfl h93) fun a449 e=>?_
    clear h93 h7;have h7:=pt_ F e;replace F:=pu_ F e;replace h6:=so_ e h6;clear e
    refine st_end ?_
    replace h0:=F.of h0;replace h1:=F.of h1;replace h5:=F.of h5;clear h16;clear h17;clear h18;replace h29:=F.of h29;have R:=F.r;clear F
    change (Code.ret).wp _ _ _ _
    refine wp_ret ?_
    change bodyPost Tryz.prog Tryz.f7 (fun e w'=>(∃ (v:Value) (b:Bool),e=.returned (.tuple #[v,.bool b]))∧Chg B RR W w' pb mb md ff kq) .ret a449 w436
    refine ret_el2 rfl R.defers h6 h7 ?_
    exact ⟨⟨_,_,rfl⟩,HC.out.on KC⟩
  | true =>
   have fb111:=hb111;clear hb111
   simp only [decide_eq_true_eq,decide_eq_false_iff_not,bne_iff_ne,bne_eq_false_iff_eq,beq_iff_eq,beq_eq_false_iff_ne,ne_eq,Bool.not_eq_true',Bool.not_eq_false',Bool.not_eq_eq_eq_not,Bool.not_true,Bool.not_false] at fb111
   refine wp_cond_true (x:=cz7_19) (y:=cz7_26) (eval_slot h56) ?_
   refine wp_seq (x:=cz7_20) (y:=cz7_21) ?_
   change (Code.region 7 Oz7_7 false).wp _ _ _ _
   refine reg_in (l:=[0,1,2,3,4]) rfl ?_
   have F:FE_ _ [] a113 a113:=⟨R,Ag_.refl _⟩;clear R
   refine sv_ gz7_7_0 (ym_ rfl (F.of h0)) fun a450 e=>?_
   have h58:=pt_ F e;replace F:=pu_ F e;clear e
   have Y:(execOp a450.eval oz7_7_1).run Tryz.prog w102=.ok (.value (.pointer (some ⟨b101,1,none⟩))) w102:=by have r5:=F.of h5;unfold oz7_7_1;go_simp
   refine sv_ gz7_7_1 Y fun a451 e=>?_;clear Y
   have h59:=pt_ F e;replace F:=pu_ F e;replace h58:=so_ e h58;clear e
   have Y:(execOp a451.eval oz7_7_2).run Tryz.prog w102=.ok (.value (.int .i64 kq)) w102:=by have qq0:w102.cell? ⟨b101,0,none⟩=some (.int .i64 kd):=B101.cell 0;have qq1:w102.cell? ⟨b101,1,none⟩=some (.int .i64 kq):=B101.cell 1;have qq2:w102.cell? ⟨b101,2,none⟩=some (.int .i64 nn):=B101.cell 2;have qq3:w102.cell? ⟨b101,3,none⟩=some (.int .i64 t.k):=B101.cell 3;have qq4:w102.cell? ⟨b101,4,none⟩=some (.string (str t.nm)):=B101.cell 4;have qq5:w102.cell? ⟨b101,5,none⟩=some (.int .i64 t.i):=B101.cell 5;have qq6:w102.cell? ⟨b101,6,none⟩=some (.slice ta t.args.length tc):=B101.cell 6;unfold oz7_7_2;go_simp
   refine sv_ gz7_7_2 Y fun a452 e=>?_;clear Y
   clear h59;have h60:=pt_ F e;replace F:=pu_ F e;replace h58:=so_ e h58;clear e
   refine st_call gz7_7_3 rfl (wanted_free rfl) (yc2_ enz7_59 rfl h58 h60) ((drop_c (HP.out.on KP) HK.out).mono ?_)
   rintro e9 w453 ⟨er,rfl,hc⟩
   replace B101:=B101.keep hc.2 ⟨B101.lt,fun h=>absurd (HP.out.rb _ h).2 (Nat.not_lt.2 LKP_b101)⟩
   have HC:Hid (Chg B RR W w453 pb mb md ff kq):=Lib.hid (Chg.onto (KP.less fun g hg=>hg.1) hc KP.size);clear hc
   clear KP
   have kk:=trivial
   clear kk
   have KC:=Keep.refl (fun g=>g < w453.heap.size) w453
   refine ⟨_,rfl,fun a454 e=>?_⟩
   clear h58 h60;have h61:=pt_ F e;replace F:=pu_ F e;clear e
   refine sv_ gz7_7_4 (ya_ rfl h61) fun a455 e=>?_
   clear h61;have h13:=pt_ F e;replace F:=pu_ F e;clear e
   refine st_end ?_
   replace h0:=F.of h0;replace h1:=F.of h1;replace h5:=F.of h5;replace h6:=F.of h6;replace h7:=F.of h7;replace h29:=F.of h29;clear h56;have R:=F.r;clear F
   change (cz7_21).wp _ _ _ _
   refine wp_seq (x:=cz7_22) (y:=cz7_23) ?_
   change (Code.region 8 Oz7_8 false).wp _ _ _ _
   refine reg_in (l:=[0,1,2,3,4,5,6,7,8]) rfl ?_
   have F:FE_ _ [] a455 a455:=⟨R,Ag_.refl _⟩;clear R
   refine sv_ gz7_8_0 (ym_ rfl (F.of h1)) fun a456 e=>?_
   have h63:=pt_ F e;replace F:=pu_ F e;clear e
   have Y:(execOp a456.eval oz7_8_1).run Tryz.prog w453=.ok (.value (.pointer (some ⟨b101,1,none⟩))) w453:=by have r5:=F.of h5;unfold oz7_8_1;go_simp
   refine sv_ gz7_8_1 Y fun a457 e=>?_;clear Y
   have h64:=pt_ F e;replace F:=pu_ F e;replace h63:=so_ e h63;clear e
   have Y:(execOp a457.eval oz7_8_2).run Tryz.prog w453=.ok (.value (.int .i64 kq)) w453:=by have qq0:w453.cell? ⟨b101,0,none⟩=some (.int .i64 kd):=B101.cell 0;have qq1:w453.cell? ⟨b101,1,none⟩=some (.int .i64 kq):=B101.cell 1;have qq2:w453.cell? ⟨b101,2,none⟩=some (.int .i64 nn):=B101.cell 2;have qq3:w453.cell? ⟨b101,3,none⟩=some (.int .i64 t.k):=B101.cell 3;have qq4:w453.cell? ⟨b101,4,none⟩=some (.string (str t.nm)):=B101.cell 4;have qq5:w453.cell? ⟨b101,5,none⟩=some (.int .i64 t.i):=B101.cell 5;have qq6:w453.cell? ⟨b101,6,none⟩=some (.slice ta t.args.length tc):=B101.cell 6;unfold oz7_8_2;go_simp
   refine sv_ gz7_8_2 Y fun a458 e=>?_;clear Y
   clear h64;have h65:=pt_ F e;replace F:=pu_ F e;replace h63:=so_ e h63;clear e
   refine st_call gz7_8_3 rfl (wanted_free rfl) (yc2_ enz7_1024 rfl h63 h65) ((refDropK w453 va vc kq).mono ?_)
   rintro e9 w459 ⟨rfl,kk⟩
   replace KC:=keep_onto KC kk
   replace B101:=blk_on B101 kk
   clear kk
   refine ⟨_,rfl,fun a460 e=>?_⟩
   clear h63 h65;have h66:=pt_ F e;replace F:=pu_ F e;clear e
   refine sv_ gz7_8_4 (ym_ rfl h66) fun a461 e=>?_
   clear h66;have h62:=pt_ F e;replace F:=pu_ F e;clear e
   refine sv_ gz7_8_5 (ye20_ rfl h62) fun a462 e=>?_
   have h67:=pt_ F e;replace F:=pu_ F e;replace h62:=so_ e h62;clear e
   refine sv_ gz7_8_6 (ye21_ rfl h62) fun a463 e=>?_
   clear h62;have h68:=pt_ F e;replace F:=pu_ F e;replace h67:=so_ e h67;clear e
   refine sv_ gz7_8_7 (ya_ rfl h67) fun a464 e=>?_
   clear h67;have h14:=pt_ F e;replace F:=pu_ F e;replace h68:=so_ e h68;clear e
   refine sv_ gz7_8_8 (ya_ rfl h68) fun a465 e=>?_
   clear h68;have h15:=pt_ F e;replace F:=pu_ F e;replace h14:=so_ e h14;clear e
   refine st_end ?_
   replace h0:=F.of h0;replace h1:=F.of h1;replace h5:=F.of h5;replace h6:=F.of h6;replace h7:=F.of h7;replace h13:=F.of h13;replace h29:=F.of h29;have R:=F.r;clear F
   change (cz7_23).wp _ _ _ _
   refine wp_seq (x:=cz7_24) (y:=Code.ret) ?_
   change (Code.region 9 Oz7_9 false).wp _ _ _ _
   refine reg_in (l:=[0,1,2,3,4,5]) rfl ?_
   have F:FE_ _ [] a465 a465:=⟨R,Ag_.refl _⟩;clear R
   refine sv_ gz7_9_0 (ym_ rfl (F.of h14)) fun a466 e=>?_
   have h69:=pt_ F e;replace F:=pu_ F e;clear e
   refine sv_ gz7_9_1 (ym_ rfl (F.of h13)) fun a467 e=>?_
   have h70:=pt_ F e;replace F:=pu_ F e;replace h69:=so_ e h69;clear e
   refine sv_ gz7_9_2 (ym_ rfl (F.of h15)) fun a468 e=>?_
   have h71:=pt_ F e;replace F:=pu_ F e;replace h69:=so_ e h69;replace h70:=so_ e h70;clear e
   obtain ⟨b469,hb469⟩:∃ x,(((er:Int) == (140:Int)))=x:=⟨_,rfl⟩
   have Y:(execOp a468.eval oz7_9_3).run Tryz.prog w459=.ok (.value (.bool b469)) w459:=by rw [← hb469];unfold oz7_9_3;go_simp
   refine sv_ gz7_9_3 Y fun a470 e=>?_;clear Y
   clear h70 h71;have h72:=pt_ F e;replace F:=pu_ F e;replace h69:=so_ e h69;clear e
   refine sv_ gz7_9_4 (ya_ rfl h69) fun a471 e=>?_
   clear h69 h6;have h6:=pt_ F e;replace F:=pu_ F e;replace h72:=so_ e h72;clear e
   refine sv_ gz7_9_5 (ya_ rfl h72) fun a472 e=>?_
   clear h72 h7;have h7:=pt_ F e;replace F:=pu_ F e;replace h6:=so_ e h6;clear e
   refine st_end ?_
   replace h0:=F.of h0;replace h1:=F.of h1;replace h5:=F.of h5;clear h13;clear h14;clear h15;replace h29:=F.of h29;have R:=F.r;clear F
   change (Code.ret).wp _ _ _ _
   refine wp_ret ?_
   change bodyPost Tryz.prog Tryz.f7 (fun e w'=>(∃ (v:Value) (b:Bool),e=.returned (.tuple #[v,.bool b]))∧Chg B RR W w' pb mb md ff kq) .ret a472 w459
   refine ret_el2 rfl R.defers h6 h7 ?_
   exact ⟨⟨_,_,rfl⟩,HC.out.on KC⟩
 | true =>
  have fb108:=hb108;clear hb108
  simp only [decide_eq_true_eq,decide_eq_false_iff_not,bne_iff_ne,bne_eq_false_iff_eq,beq_iff_eq,beq_eq_false_iff_ne,ne_eq,Bool.not_eq_true',Bool.not_eq_false',Bool.not_eq_eq_eq_not,Bool.not_true,Bool.not_false] at fb108
  refine wp_cond_true (x:=cz7_9) (y:=cz7_16) (eval_slot h30) ?_
  refine wp_seq (x:=cz7_10) (y:=cz7_11) ?_
  change (Code.region 3 Oz7_3 false).wp _ _ _ _
  refine reg_in (l:=[0,1,2,3,4,5,6,7,8]) rfl ?_
  have F:FE_ _ [] a110 a110:=⟨R,Ag_.refl _⟩;clear R
  refine sv_ gz7_3_0 (ym_ rfl (F.of h0)) fun a473 e=>?_
  have h33:=pt_ F e;replace F:=pu_ F e;clear e
  have Y:(execOp a473.eval oz7_3_1).run Tryz.prog w102=.ok (.value (.pointer (some ⟨b101,2,none⟩))) w102:=by have r5:=F.of h5;unfold oz7_3_1;go_simp
  refine sv_ gz7_3_1 Y fun a474 e=>?_;clear Y
  have h34:=pt_ F e;replace F:=pu_ F e;replace h33:=so_ e h33;clear e
  have Y:(execOp a474.eval oz7_3_2).run Tryz.prog w102=.ok (.value (.int .i64 nn)) w102:=by have qq0:w102.cell? ⟨b101,0,none⟩=some (.int .i64 kd):=B101.cell 0;have qq1:w102.cell? ⟨b101,1,none⟩=some (.int .i64 kq):=B101.cell 1;have qq2:w102.cell? ⟨b101,2,none⟩=some (.int .i64 nn):=B101.cell 2;have qq3:w102.cell? ⟨b101,3,none⟩=some (.int .i64 t.k):=B101.cell 3;have qq4:w102.cell? ⟨b101,4,none⟩=some (.string (str t.nm)):=B101.cell 4;have qq5:w102.cell? ⟨b101,5,none⟩=some (.int .i64 t.i):=B101.cell 5;have qq6:w102.cell? ⟨b101,6,none⟩=some (.slice ta t.args.length tc):=B101.cell 6;unfold oz7_3_2;go_simp
  refine sv_ gz7_3_2 Y fun a475 e=>?_;clear Y
  clear h34;have h35:=pt_ F e;replace F:=pu_ F e;replace h33:=so_ e h33;clear e
  refine st_call gz7_3_3 rfl (wanted_free rfl) (yc2_ enz7_23 rfl h33 h35) ((make_c (k:=kq) (most:=nn) (HP.out.on KP) HMD.out).mono ?_)
  rintro e9 w476 ⟨q1,er,rfl,hc⟩
  replace B101:=B101.keep hc.2 ⟨B101.lt,fun h=>absurd (HP.out.rb _ h).2 (Nat.not_lt.2 LKP_b101)⟩
  have HC:Hid (Chg B RR W w476 pb mb md ff kq):=Lib.hid (Chg.onto (KP.less fun g hg=>hg.1) hc KP.size);clear hc
  clear KP
  have kk:=trivial
  clear kk
  have KC:=Keep.refl (fun g=>g < w476.heap.size) w476
  refine ⟨_,rfl,fun a477 e=>?_⟩
  clear h33 h35;have h36:=pt_ F e;replace F:=pu_ F e;clear e
  refine sv_ gz7_3_4 (ym_ rfl h36) fun a478 e=>?_
  clear h36;have h32:=pt_ F e;replace F:=pu_ F e;clear e
  refine sv_ gz7_3_5 (ye20_ rfl h32) fun a479 e=>?_
  have h37:=pt_ F e;replace F:=pu_ F e;replace h32:=so_ e h32;clear e
  refine sv_ gz7_3_6 (ye21_ rfl h32) fun a480 e=>?_
  clear h32;have h38:=pt_ F e;replace F:=pu_ F e;replace h37:=so_ e h37;clear e
  refine sv_ gz7_3_7 (ya_ rfl h37) fun a481 e=>?_
  clear h37;have h8:=pt_ F e;replace F:=pu_ F e;replace h38:=so_ e h38;clear e
  refine sv_ gz7_3_8 (ya_ rfl h38) fun a482 e=>?_
  clear h38;have h9:=pt_ F e;replace F:=pu_ F e;replace h8:=so_ e h8;clear e
  refine st_end ?_
  replace h0:=F.of h0;replace h1:=F.of h1;replace h5:=F.of h5;replace h6:=F.of h6;replace h7:=F.of h7;replace h29:=F.of h29;clear h30;have R:=F.r;clear F
  change (cz7_11).wp _ _ _ _
  refine wp_seq (x:=cz7_12) (y:=cz7_13) ?_
  change (Code.region 4 Oz7_4 false).wp _ _ _ _
  refine reg_in (l:=[0,1,2,3,4,5,6,7,8,9,10]) rfl ?_
  have F:FE_ _ [] a482 a482:=⟨R,Ag_.refl _⟩;clear R
  refine sv_ gz7_4_0 (ym_ rfl (F.of h1)) fun a483 e=>?_
  have h40:=pt_ F e;replace F:=pu_ F e;clear e
  have Y:(execOp a483.eval oz7_4_1).run Tryz.prog w476=.ok (.value (.pointer (some ⟨b101,2,none⟩))) w476:=by have r5:=F.of h5;unfold oz7_4_1;go_simp
  refine sv_ gz7_4_1 Y fun a484 e=>?_;clear Y
  have h41:=pt_ F e;replace F:=pu_ F e;replace h40:=so_ e h40;clear e
  have Y:(execOp a484.eval oz7_4_2).run Tryz.prog w476=.ok (.value (.int .i64 nn)) w476:=by have qq0:w476.cell? ⟨b101,0,none⟩=some (.int .i64 kd):=B101.cell 0;have qq1:w476.cell? ⟨b101,1,none⟩=some (.int .i64 kq):=B101.cell 1;have qq2:w476.cell? ⟨b101,2,none⟩=some (.int .i64 nn):=B101.cell 2;have qq3:w476.cell? ⟨b101,3,none⟩=some (.int .i64 t.k):=B101.cell 3;have qq4:w476.cell? ⟨b101,4,none⟩=some (.string (str t.nm)):=B101.cell 4;have qq5:w476.cell? ⟨b101,5,none⟩=some (.int .i64 t.i):=B101.cell 5;have qq6:w476.cell? ⟨b101,6,none⟩=some (.slice ta t.args.length tc):=B101.cell 6;unfold oz7_4_2;go_simp
  refine sv_ gz7_4_2 Y fun a485 e=>?_;clear Y
  clear h41;have h42:=pt_ F e;replace F:=pu_ F e;replace h40:=so_ e h40;clear e
  refine st_call gz7_4_3 rfl (wanted_free rfl) (yc2_ enz7_1023 rfl h40 h42) ((refMake0 w476 va vc nn).mono ?_)
  rintro e9 w486 ⟨⟨ra,rc,rfl⟩,kk⟩
  replace KC:=keep_onto KC kk
  replace B101:=blk_on B101 kk
  clear kk
  refine ⟨_,rfl,fun a487 e=>?_⟩
  clear h40 h42;have h43:=pt_ F e;replace F:=pu_ F e;clear e
  refine sv_ gz7_4_4 (ym_ rfl h43) fun a488 e=>?_
  clear h43;have h39:=pt_ F e;replace F:=pu_ F e;clear e
  refine sv_ gz7_4_5 (ye30_ rfl h39) fun a489 e=>?_
  have h44:=pt_ F e;replace F:=pu_ F e;replace h39:=so_ e h39;clear e
  refine sv_ gz7_4_6 (ye31_ rfl h39) fun a490 e=>?_
  have h45:=pt_ F e;replace F:=pu_ F e;replace h39:=so_ e h39;replace h44:=so_ e h44;clear e
  refine sv_ gz7_4_7 (ye32_ rfl h39) fun a491 e=>?_
  clear h39;have h46:=pt_ F e;replace F:=pu_ F e;replace h44:=so_ e h44;replace h45:=so_ e h45;clear e
  refine sv_ gz7_4_8 (ya_ rfl h44) fun a492 e=>?_
  clear h44;have h10:=pt_ F e;replace F:=pu_ F e;replace h45:=so_ e h45;replace h46:=so_ e h46;clear e
  refine sv_ gz7_4_9 (ya_ rfl h45) fun a493 e=>?_
  clear h45;have h11:=pt_ F e;replace F:=pu_ F e;replace h10:=so_ e h10;replace h46:=so_ e h46;clear e
  refine sv_ gz7_4_10 (ya_ rfl h46) fun a494 e=>?_
  clear h46;have h12:=pt_ F e;replace F:=pu_ F e;replace h10:=so_ e h10;replace h11:=so_ e h11;clear e
  refine st_end ?_
  replace h0:=F.of h0;replace h1:=F.of h1;replace h5:=F.of h5;replace h6:=F.of h6;replace h7:=F.of h7;replace h8:=F.of h8;replace h9:=F.of h9;replace h29:=F.of h29;have R:=F.r;clear F
  change (cz7_13).wp _ _ _ _
  refine wp_seq (x:=cz7_14) (y:=Code.ret) ?_
  change (Code.region 5 Oz7_5 false).wp _ _ _ _
  refine reg_in (l:=[0,1,2,3,4,5,6,7,8,9,10]) rfl ?_
  have F:FE_ _ [] a494 a494:=⟨R,Ag_.refl _⟩;clear R
  refine sv_ gz7_5_0 (ym_ rfl (F.of h10)) fun a495 e=>?_
  have h47:=pt_ F e;replace F:=pu_ F e;clear e
  refine sv_ gz7_5_1 (ym_ rfl (F.of h8)) fun a496 e=>?_
  have h48:=pt_ F e;replace F:=pu_ F e;replace h47:=so_ e h47;clear e
  refine sv_ gz7_5_2 (ym_ rfl (F.of h11)) fun a497 e=>?_
  have h49:=pt_ F e;replace F:=pu_ F e;replace h47:=so_ e h47;replace h48:=so_ e h48;clear e
  obtain ⟨b498,hb498⟩:∃ x,(((q1:Int) == (1:Int)))=x:=⟨_,rfl⟩
  have Y:(execOp a497.eval oz7_5_3).run Tryz.prog w486=.ok (.value (.bool b498)) w486:=by rw [← hb498];unfold oz7_5_3;go_simp
  refine sv_ gz7_5_3 Y fun a499 e=>?_;clear Y
  clear h48 h49;have h50:=pt_ F e;replace F:=pu_ F e;replace h47:=so_ e h47;clear e
  refine sv_ gz7_5_4 (ym_ rfl h50) fun a500 e=>?_
  clear h50;have h51:=pt_ F e;replace F:=pu_ F e;replace h47:=so_ e h47;clear e
  cases b498 with
  | false =>
   have fb498:=hb498;clear hb498
   simp only [decide_eq_true_eq,decide_eq_false_iff_not,bne_iff_ne,bne_eq_false_iff_eq,beq_iff_eq,beq_eq_false_iff_ne,ne_eq,Bool.not_eq_true',Bool.not_eq_false',Bool.not_eq_eq_eq_not,Bool.not_true,Bool.not_false] at fb498
   refine st_not gz7_5_5 rfl (wanted_is (j:=4) (d:=51) rfl rfl h51 rfl) fun a501 e=>?_
   have h52:=pt_ F e;replace F:=pu_ F e;replace h47:=so_ e h47;replace h51:=so_ e h51;clear e
   refine st_not gz7_5_6 rfl (wanted_is (j:=4) (d:=51) rfl rfl h51 rfl) fun a502 e=>?_
   have h53:=pt_ F e;replace F:=pu_ F e;replace h47:=so_ e h47;replace h51:=so_ e h51;replace h52:=so_ e h52;clear e
   refine st_not gz7_5_7 rfl (wanted_is (j:=4) (d:=51) rfl rfl h51 rfl) fun a503 e=>?_
   clear h52 h53;have h54:=pt_ F e;replace F:=pu_ F e;replace h47:=so_ e h47;replace h51:=so_ e h51;clear e
   have Y:(execOp a503.eval oz7_5_8).run Tryz.prog w486=.ok (.value (.bool false)) w486:=by unfold oz7_5_8;go_simp
   refine sv_ gz7_5_8 Y fun a504 e=>?_;clear Y
   clear h51 h54;have h55:=pt_ F e;replace F:=pu_ F e;replace h47:=so_ e h47;clear e
   refine sv_ gz7_5_9 (ya_ rfl h47) fun a505 e=>?_
   clear h47 h6;have h6:=pt_ F e;replace F:=pu_ F e;replace h55:=so_ e h55;clear e
   refine sv_ gz7_5_10 (ya_ rfl h55) fun a506 e=>?_
   clear h55 h7;have h7:=pt_ F e;replace F:=pu_ F e;replace h6:=so_ e h6;clear e
   refine st_end ?_
   replace h0:=F.of h0;replace h1:=F.of h1;replace h5:=F.of h5;clear h8;clear h9;clear h10;clear h11;clear h12;replace h29:=F.of h29;have R:=F.r;clear F
   change (Code.ret).wp _ _ _ _
   refine wp_ret ?_
   change bodyPost Tryz.prog Tryz.f7 (fun e w'=>(∃ (v:Value) (b:Bool),e=.returned (.tuple #[v,.bool b]))∧Chg B RR W w' pb mb md ff kq) .ret a506 w486
   refine ret_el2 rfl R.defers h6 h7 ?_
   exact ⟨⟨_,_,rfl⟩,HC.out.on KC⟩
  | true =>
   have fb498:=hb498;clear hb498
   simp only [decide_eq_true_eq,decide_eq_false_iff_not,bne_iff_ne,bne_eq_false_iff_eq,beq_iff_eq,beq_eq_false_iff_ne,ne_eq,Bool.not_eq_true',Bool.not_eq_false',Bool.not_eq_eq_eq_not,Bool.not_true,Bool.not_false] at fb498
   refine st_val gz7_5_5 rfl (wanted_is (j:=4) (d:=51) rfl rfl h51 rfl) (ym_ rfl (F.of h9)) fun a507 e=>?_
   have h52:=pt_ F e;replace F:=pu_ F e;replace h47:=so_ e h47;replace h51:=so_ e h51;clear e
   refine st_val gz7_5_6 rfl (wanted_is (j:=4) (d:=51) rfl rfl h51 rfl) (ym_ rfl (F.of h12)) fun a508 e=>?_
   have h53:=pt_ F e;replace F:=pu_ F e;replace h47:=so_ e h47;replace h51:=so_ e h51;replace h52:=so_ e h52;clear e
   obtain ⟨b509,hb509⟩:∃ x,(((er:Int) == (0:Int)))=x:=⟨_,rfl⟩
   have Y:(execOp a508.eval oz7_5_7).run Tryz.prog w486=.ok (.value (.bool b509)) w486:=by rw [← hb509];unfold oz7_5_7;go_simp
   refine st_val gz7_5_7 rfl (wanted_is (j:=4) (d:=51) rfl rfl h51 rfl) Y fun a510 e=>?_;clear Y
   clear h52 h53;have h54:=pt_ F e;replace F:=pu_ F e;replace h47:=so_ e h47;replace h51:=so_ e h51;clear e
   have Y:(execOp a510.eval oz7_5_8).run Tryz.prog w486=.ok (.value (.bool b509)) w486:=by unfold oz7_5_8;go_simp
   refine sv_ gz7_5_8 Y fun a511 e=>?_;clear Y
   clear h51 h54;have h55:=pt_ F e;replace F:=pu_ F e;replace h47:=so_ e h47;clear e
   refine sv_ gz7_5_9 (ya_ rfl h47) fun a512 e=>?_
   clear h47 h6;have h6:=pt_ F e;replace F:=pu_ F e;replace h55:=so_ e h55;clear e
   refine sv_ gz7_5_10 (ya_ rfl h55) fun a513 e=>?_
   clear h55 h7;have h7:=pt_ F e;replace F:=pu_ F e;replace h6:=so_ e h6;clear e
   refine st_end ?_
   replace h0:=F.of h0;replace h1:=F.of h1;replace h5:=F.of h5;clear h8;clear h9;clear h10;clear h11;clear h12;replace h29:=F.of h29;have R:=F.r;clear F
   change (Code.ret).wp _ _ _ _
   refine wp_ret ?_
   change bodyPost Tryz.prog Tryz.f7 (fun e w'=>(∃ (v:Value) (b:Bool),e=.returned (.tuple #[v,.bool b]))∧Chg B RR W w' pb mb md ff kq) .ret a513 w486
   refine ret_el2 rfl R.defers h6 h7 ?_
   exact ⟨⟨_,_,rfl⟩,HC.out.on KC⟩
theorem does_any {W:World} {B pb mb nq:Nat} {RR:Nat→Prop} {md kd kq nn:Int} {ff:Int→Option Qu} {t:Tm} {va ta:Option Addr} {vc tc:Nat} (hP:PoAt B RR W pb mb md ff nq) (hm:md ≤ 4611686018427387904) (hk:(ik kq).wf=true) (hT:TmAt W.heap.size W t ta tc):Calls Tryz.prog 7 #[.pointer (some ⟨pb,0,none⟩),.slice va 0 vc,.agg #[.int .i64 kd,.int .i64 kq,.int .i64 nn,.int .i64 t.k,.string (str t.nm),.int .i64 t.i,.slice ta t.args.length tc]] W fun e w'=>(∃ (v:Value) (b:Bool),e=.returned (.tuple #[v,.bool b]))∧Chg B RR W w' pb mb md ff kq:=by
  refine enter_sx Tryz.func7 bodyz7 rfl (by show (3:Nat) ≤ 186;decide) fun f0 R0 hs=>?_
  exact does_w R0 (hs 0 _ rfl) (hs 1 _ rfl) (hs 2 _ rfl) (Keep.refl _ W) (Lib.hid hP) (Lib.hid hm) (Lib.hid hk) (Lib.hid hT)
end Go.Proofs.YtnfcbalppecnfaaGreat
