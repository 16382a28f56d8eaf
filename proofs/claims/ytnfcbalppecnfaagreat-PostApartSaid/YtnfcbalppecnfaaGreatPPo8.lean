/-
  Package post: a post with one queue; which messages fit; the document's example: walked with letter frames. No condition.
-/
import Derived.Test.YtnfcbalppecnfaaGreatPPo6
import Derived.Test.YtnfcbalppecnfaaGreatPPo7
import Derived.Test.YtnfcbalppecnfaaGreatPSx15
namespace Go.Proofs.YtnfcbalppecnfaaGreat
open Go.RowKit Go.Maps
set_option linter.unusedVariables false
set_option linter.unusedSimpArgs false
def OneQ (BB:Nat) (R:Nat→Prop) (w:World) (pa mb:Nat) (m:Int) (ps:List TP) (g:Nat) (v:Value):Prop:=∃ f,PoAt BB R w pa mb 1 f 1∧f 1=some ⟨g,m,v,ps⟩
section
variable {BB pa mb g:Nat} {R:Nat→Prop} {w w' W:World} {m er:Int} {ps:List TP} {v:Value} {t:Tm} {a:Option Addr} {c:Nat}
theorem OneQ.on (h:OneQ BB R w pa mb m ps g v) (k:Keep (fun g=>g < w.heap.size) w w'):OneQ BB R w' pa mb m ps g v:=by
  obtain ⟨f,h1,h2⟩:=h;exact ⟨f,h1.on k,h2⟩
theorem OneQ.lt (h:OneQ BB R w pa mb m ps g v):g < w.heap.size∧(∀ b,v.ownBlock=some b→b < w.heap.size)∧BB ≤ w.heap.size∧BB ≤ g∧(∀ b,v.ownBlock=some b→BB ≤ b)∧(ps.length:Int) ≤ m∧m ≤ 64:=by
  obtain ⟨f,h1,h2⟩:=h
  have hq:=h1.qs 1 _ h2
  exact ⟨(h1.rb _ hq.rg).2,fun b hb=>(h1.rb _ (hq.rv b hb)).2,h1.le,(h1.rb _ hq.rg).1,fun b hb=>(h1.rb _ (hq.rv b hb)).1,hq.le,hq.m1.2⟩
theorem OneQ.msg (h:OneQ BB R w pa mb m ps g v):∀ p ∈ ps,Msg p.1:=by
  obtain ⟨f,h1,h2⟩:=h;exact (h1.qs 1 _ h2).ren
theorem key1:(ik 1).wf=true:=by decide
theorem send1_yes (h:OneQ BB R W pa mb m ps g v) (hT:TmAt W.heap.size W t a c) (hr:t.right=true) (hm:(ps.length:Int) < m):Calls Tryz.prog 11 #[.pointer (some ⟨pa,0,none⟩),.int .i64 1,tv t a c] W fun e w'=>∃ (R':Nat→Prop) (v':Value) (au:Option Addr) (cu:Nat),e=.returned (.int .i64 0)∧OneQ BB R' w' pa mb m (ps ++ [((t.tree.ren 1).tm,au,cu)]) g v'∧(∀ b,(R' b→R b∨W.heap.size ≤ b)∧(R b→R' b))∧(∀ b,v'.ownBlock=some b→v.ownBlock=some b∨W.heap.size ≤ b)∧Keep (fun b=>b < BB) W w'∧Keep (fun b=>b < W.heap.size∧b ≠ g∧v.ownBlock ≠ some b) W w':=by
  have hl:=h.lt
  obtain ⟨f,h1,h2⟩:=h
  refine Calls.mono (send_yes h1 key1 hT h2 hr hm) ?_
  rintro e w' ⟨R',v',au,cu,rfl,h3,h4,h5,h6⟩
  exact ⟨R',v',au,cu,rfl,⟨_,h3,if_pos rfl⟩,h4,h5,h6.less fun b hb=>⟨Nat.lt_of_lt_of_le hb hl.2.2.1,fun e=>by have e2:b=g:=e;subst e2;exact absurd hb (Nat.not_lt.2 hl.2.2.2.1),fun e=>absurd hb (Nat.not_lt.2 (hl.2.2.2.2.1 b e))⟩,h6⟩
theorem send1_no (h:OneQ BB R W pa mb m ps g v) (hT:TmAt W.heap.size W t a c) (hc:(t.right=false∧er=70)∨(t.right=true∧er=141∧m ≤ (ps.length:Int))):Calls Tryz.prog 11 #[.pointer (some ⟨pa,0,none⟩),.int .i64 1,tv t a c] W fun e w'=>e=.returned (.int .i64 er)∧Keep (fun g=>g < W.heap.size) W w':=by
  obtain ⟨f,h1,h2⟩:=h
  exact send_no h1 key1 hT (.inr ⟨_,h2,hc⟩)
theorem get1_yes {j:Nat} {p:TP} (h:OneQ BB R W pa mb m ps g v) (hT:TmAt W.heap.size W t a c) (hr:t.right=true) (hp:ps[j]? = some p) (hf:Fit p.1 (t.tree.ren 2001).tm) (hn:∀ (i:Nat) (x:TP),i < j→ps[i]? = some x→¬ Fit x.1 (t.tree.ren 2001).tm):Calls Tryz.prog 17 #[.pointer (some ⟨pa,0,none⟩),.int .i64 1,tv t a c] W fun e w'=>∃ v':Value,e=.returned (.tuple #[tv p.1 p.2.1 p.2.2,.int .i64 0])∧OneQ BB R w' pa mb m (ps.eraseIdx j) g v'∧Fr 0 R w' BB w'.heap.size p.1 p.2.1 p.2.2∧(∀ b,v'.ownBlock=some b→v.ownBlock=some b)∧Keep (fun b=>b < BB) W w'∧Keep (fun b=>b < W.heap.size∧b ≠ g∧v.ownBlock ≠ some b) W w':=by
  have hl:=h.lt
  obtain ⟨f,h1,h2⟩:=h
  refine Calls.mono (get_yes h1 key1 hT h2 ⟨hr,hp,hf,hn⟩) ?_
  rintro e w' ⟨v',rfl,h3,h4,h5,h6⟩
  exact ⟨v',rfl,⟨_,h3,if_pos rfl⟩,h4,h5,h6.less fun b hb=>⟨Nat.lt_of_lt_of_le hb hl.2.2.1,fun e=>by have e2:b=g:=e;subst e2;exact absurd hb (Nat.not_lt.2 hl.2.2.2.1),fun e=>absurd hb (Nat.not_lt.2 (hl.2.2.2.2.1 b e))⟩,h6⟩
theorem get1_no (h:OneQ BB R W pa mb m ps g v) (hT:TmAt W.heap.size W t a c) (hr:t.right=true) (hn:∀ p ∈ ps,¬ Fit p.1 (t.tree.ren 2001).tm):Calls Tryz.prog 17 #[.pointer (some ⟨pa,0,none⟩),.int .i64 1,tv t a c] W fun e w'=>e=.returned (.tuple #[.agg #[.int .i64 0,.string ⟨#[]⟩,.int .i64 0,.slice none 0 0],.int .i64 141])∧Keep (fun g=>g < W.heap.size) W w':=by
  obtain ⟨f,h1,h2⟩:=h
  exact get_no h1 key1 hT (.inr ⟨_,h2,.inr ⟨hr,rfl,hn⟩⟩)
theorem peek1_yes {j:Nat} {p:TP} (h:OneQ BB R W pa mb m ps g v) (hT:TmAt W.heap.size W t a c) (hr:t.right=true) (hp:ps[j]? = some p) (hf:Fit p.1 (t.tree.ren 2001).tm) (hn:∀ (i:Nat) (x:TP),i < j→ps[i]? = some x→¬ Fit x.1 (t.tree.ren 2001).tm):Calls Tryz.prog 18 #[.pointer (some ⟨pa,0,none⟩),.int .i64 1,tv t a c] W fun e w'=>∃ a' c',e=.returned (.tuple #[tv p.1 a' c',.int .i64 0])∧Fr 0 (fun _=>False) w' W.heap.size w'.heap.size p.1 a' c'∧Keep (fun g=>g < W.heap.size) W w':=by
  obtain ⟨f,h1,h2⟩:=h
  exact peek_yes h1 key1 hT h2 ⟨hr,hp,hf,hn⟩
theorem len1 (h:OneQ BB R W pa mb m ps g v):Calls Tryz.prog 10 #[.pointer (some ⟨pa,0,none⟩),.int .i64 1] W fun e w'=>e=.returned (.tuple #[.int .i64 (ps.length:Int),.int .i64 0])∧Keep (fun g=>g < W.heap.size) W w':=by
  obtain ⟨f,h1,h2⟩:=h
  exact len_yes h1 key1 h2
theorem drop1 (h:OneQ BB R W pa mb m ps g v):Calls Tryz.prog 13 #[.pointer (some ⟨pa,0,none⟩),.int .i64 1] W fun e w'=>e=.returned (.int .i64 0)∧Keep (fun b=>b < BB) W w':=by
  obtain ⟨f,h1,h2⟩:=h
  refine Calls.mono (drop_any h1 key1 h2) ?_
  rintro e w' ⟨rfl,_,h3⟩
  exact ⟨rfl,h3.less fun b hb=>⟨Nat.lt_of_lt_of_le hb h1.le,fun e=>by have:=(h1.rb b e).1;omega⟩⟩
theorem queues1 (h:OneQ BB R W pa mb m ps g v):Calls Tryz.prog 9 #[.pointer (some ⟨pa,0,none⟩)] W fun e w'=>∃ a c,e=.returned (.slice a 1 c)∧Keep (fun g=>g < W.heap.size) W w':=by
  obtain ⟨f,h1,h2⟩:=h
  exact queues_any h1
theorem make1 {most:Int} (h:PoAt BB R W pa mb 0 (fun _=>none) 0):Calls Tryz.prog 14 #[.pointer (some ⟨pa,0,none⟩),.int .i64 most] W fun e w'=>∃ (R':Nat→Prop) (bq:Nat),e=.returned (.tuple #[.int .i64 1,.int .i64 0])∧OneQ BB R' w' pa mb (min (max most 1) 64) [] bq (.slice none 0 0)∧W.heap.size ≤ bq∧Keep (fun b=>b < BB) W w'∧Keep (fun b=>b < W.heap.size∧¬ R b) W w':=by
  refine Calls.mono (make_any h (by decide) (by decide)) ?_
  rintro e w' ⟨R',bq,rfl,h1,h2,h4,h3⟩
  exact ⟨R',bq,rfl,⟨_,h1,if_pos rfl⟩,h4,h3.less fun b hb=>⟨Nat.lt_of_lt_of_le hb h.le,fun e=>by have:=(h.rb b e).1;omega⟩,h3⟩
end
theorem msg_lt {t:Tm} (h:Msg t) {x:Int} (hx:t.tree.has x):1 ≤ x∧x ≤ 2000:=by
  obtain ⟨h1,h2⟩:=h
  have e:t.tree=t.tree.ren 1:=by rw [← T.tm_tree (t.tree.ren 1),h2]
  have hR:=Tm.tree_right (right_of.1 h1)
  rw [e] at hx
  have hm:=(T.mem_vars _ _).2 hx
  obtain ⟨i,hi,hg⟩:=List.getElem_of_mem hm
  have:=T.vars_ren_at 1 t.tree i hi
  have h3:=T.vars_len (t.tree.ren 1)
  rw [← e] at h3 hi
  have h4:=hR.2.1
  rw [← hg,this]
  omega
theorem fit_var {t:Tm} (h:Msg t) (v:Int):Fit t ((Tm.node 1 [] v []).tree.ren 2001).tm:=by
  have e:(Tm.node 1 [] v []).tree.ren 2001=.v 2001:=by
    rw [tree_1 rfl]
    show (T.v _).ren 2001=.v 2001
    unfold T.ren
    rw [T.sub_v]
    have hv:(T.v (Tm.node 1 [] v []).i).vars=[v]:=by simp [T.vars,T.acc,Tm.i]
    rw [hv]
    simp [renB,idx,Tm.i]
  refine ⟨fun x=>if x=2001 then t.tree else .v x,?_⟩
  rw [e,T.tm_tree]
  unfold Uni
  rw [T.sub_v,if_pos rfl]
  have:t.tree.sub (fun x=>if x=2001 then t.tree else .v x)=t.tree.sub .v:=T.sub_same fun x hx=>if_neg (by have:=msg_lt h hx;omega)
  rw [this,T.sub_id]
theorem sl_row {w:World} {b:Nat} {ps:List TP} (hb:Blk w b 28 (ps.flatMap TP.cells).toArray) (h:∀ p ∈ ps,TmAt w.heap.size w p.1 p.2.1 p.2.2):TmSl w.heap.size w (some ⟨b,0,none⟩) ps:=fun j p hj =>
  ⟨⟨b,0,rfl,hb.lt,fun f v hv=>by rw [Nat.zero_add,hb.cell,List.getElem?_toArray,flat_get ps j f (get_lt' hv),hj];exact hv⟩,h p (List.mem_of_getElem? hj)⟩
theorem tm_N {w:World} {v:Int} (h:(ik v).wf=true):TmAt w.heap.size w (.node 2 [] v []) none 0:=tm_leaf (show (ik 2).wf=true by decide) h (by decide)
theorem tm_A {w:World} {nm:List UInt8} (h:nm.length ≤ maxLen):TmAt w.heap.size w (.node 3 nm 0 []) none 0:=tm_leaf (show (ik 3).wf=true by decide) (show (ik 0).wf=true by decide) h
theorem tm_V {w:World} {v:Int} (h:(ik v).wf=true):TmAt w.heap.size w (.node 1 [] v []) none 0:=tm_leaf (show (ik 1).wf=true by decide) h (by decide)
theorem tm_1 {w:World} {b:Nat} {nm:List UInt8} {v:Int} {cap:Nat} (hb:Blk w b 28 #[.int .i64 2,.string ⟨#[]⟩,.int .i64 v,.slice none 0 0]) (hv:(ik v).wf=true) (hn:nm.length ≤ maxLen):TmAt w.heap.size w (.node 4 nm 0 [.node 2 [] v []]) (some ⟨b,0,none⟩) cap :=
  tm_row (ps:=[(.node 2 [] v [],none,0)]) (sl_row hb fun p hp=>by rw [List.mem_singleton.1 hp];exact tm_N hv) hn (show 1 ≤ maxLen by decide)
def pA1:Tm:=.node 4 [97] 0 [.node 2 [] 1 []]
def pA2:Tm:=.node 4 [97] 0 [.node 2 [] 2 []]
def pB:Tm:=.node 3 [98] 0 []
def pC:Tm:=.node 3 [99] 0 []
def pV:Tm:=.node 1 [] 1 []
theorem rA1:pA1.right=true:=by kernel_rfl
theorem rA2:pA2.right=true:=by kernel_rfl
theorem rB:pB.right=true:=by kernel_rfl
theorem rC:pC.right=true:=by kernel_rfl
theorem rV:pV.right=true:=by kernel_rfl
theorem mA1:(pA1.tree.ren 1).tm=pA1:=by kernel_rfl
theorem mB:(pB.tree.ren 1).tm=pB:=by kernel_rfl
theorem uA1:pA1.tree=.c [97] [.n 1]:=by kernel_rfl
theorem uB:pB.tree=.a [98]:=by kernel_rfl
theorem vA2:(pA2.tree.ren 2001).tm.tree=.c [97] [.n 2]:=by kernel_rfl
theorem vB:(pB.tree.ren 2001).tm.tree=.a [98]:=by kernel_rfl
theorem nA1B:¬ Fit pA1 (pB.tree.ren 2001).tm:=by
  rintro ⟨f,h⟩
  unfold Uni at h
  rw [uA1,vB,T.sub_c,T.sub_a] at h
  cases h
theorem nA1A2:¬ Fit pA1 (pA2.tree.ren 2001).tm:=by
  rintro ⟨f,h⟩
  unfold Uni at h
  rw [uA1,vA2,T.sub_c,T.sub_c] at h
  simp only [List.map_cons,List.map_nil,T.sub_n,T.c.injEq,List.cons.injEq,T.n.injEq] at h
  exact absurd h.2.1 (by decide)
theorem fBB:Fit pB (pB.tree.ren 2001).tm:=⟨.v,by unfold Uni;rw [vB,uB]⟩
theorem before1 {u:Tm} {p q:TP} (h:¬ Fit p.1 u):∀ (i:Nat) (x:TP),i < 1→[p,q][i]? = some x→¬ Fit x.1 u:=fun i x hi hx=>by
  have:i=0:=by omega
  subst this;cases hx;exact h
theorem far_new {b gq s:Nat} (h:b < s) (hg:s ≤ gq):b ≠ gq∧(Value.slice none 0 0).ownBlock ≠ some b:=⟨Nat.ne_of_lt (Nat.lt_of_lt_of_le h hg),fun e=>by simp [Value.ownBlock] at e⟩
theorem far_send {b g s:Nat} {v v':Value} (h:b ≠ g∧v.ownBlock ≠ some b) (hl:b < s) (hv:∀ b,v'.ownBlock=some b→v.ownBlock=some b∨s ≤ b):b ≠ g∧v'.ownBlock ≠ some b:=⟨h.1,fun e=>(hv b e).elim h.2 fun h=>absurd hl (Nat.not_lt.2 h)⟩
theorem far_get {b g:Nat} {v v':Value} (h:b ≠ g∧v.ownBlock ≠ some b) (hv:∀ b,v'.ownBlock=some b→v.ownBlock=some b):b ≠ g∧v'.ownBlock ≠ some b:=⟨h.1,fun e=>h.2 (hv b e)⟩
def oq22_0_0:Oper:=⟨some 0,Op.assign (Operand.const (Value.bool false)),4, "law.go:19",#[],none⟩
def Oq22_0:Array Oper:=List.toArray (oq22_0_0::[])
theorem gq22_0_0:Oq22_0[0]? = some oq22_0_0:=rfl
def cq22_1:Code:=Code.region 0 Oq22_0 false
def oq22_1_0:Oper:=⟨some 17,Op.call { callee:=Callee.value (Operand.func 4),args:=#[],argTypes:=#[] },23, "law.go:20",#[],none⟩
def oq22_1_1:Oper:=⟨some 1,Op.assign (Operand.tmp 17),23, "law.go:20",#[ed_ 0,ec_ 0,ep_ 0],none⟩
def Oq22_1:Array Oper:=List.toArray (oq22_1_0::oq22_1_1::[])
theorem gq22_1_0:Oq22_1[0]? = some oq22_1_0:=rfl
theorem gq22_1_1:Oq22_1[1]? = some oq22_1_1:=rfl
def cq22_3:Code:=Code.region 1 Oq22_1 false
def oq22_2_0:Oper:=⟨some 18,Op.move (Operand.tmp 1),23, "law.go:21",#[],none⟩
def oq22_2_1:Oper:=⟨some 19,Op.binOp Go.BinOp.eql 23 (Operand.tmp 18) (Operand.const (Value.pointer none)) 23,4, "law.go:21",#[ed_ 0],none⟩
def Oq22_2:Array Oper:=List.toArray (oq22_2_0::oq22_2_1::[])
theorem gq22_2_0:Oq22_2[0]? = some oq22_2_0:=rfl
theorem gq22_2_1:Oq22_2[1]? = some oq22_2_1:=rfl
def cq22_6:Code:=Code.region 2 Oq22_2 false
def oq22_3_0:Oper:=⟨some 0,Op.assign (Operand.const (Value.bool false)),4, "law.go:22",#[],none⟩
def Oq22_3:Array Oper:=List.toArray (oq22_3_0::[])
def cq22_9:Code:=Code.region 3 Oq22_3 false
def cq22_8:Code:=Code.seq cq22_9 Code.ret
def cq22_7:Code:=Code.cond (Operand.tmp 19) cq22_8 Code.skip
def cq22_5:Code:=Code.seq cq22_6 cq22_7
def oq22_4_0:Oper:=⟨some 20,Op.call { callee:=Callee.value (Operand.func 16),args:=#[Operand.const (Value.int IntKind.i64 1)],argTypes:=#[2] },28, "law.go:24",#[],none⟩
def oq22_4_1:Oper:=⟨some 21,Op.buildSlice 26 1 #[(0,Operand.tmp 20)],26, "law.go:24",#[ed_ 0],none⟩
def oq22_4_2:Oper:=⟨some 22,Op.call { callee:=Callee.value (Operand.func 15),args:=#[Operand.const (Value.string { data:=#[97] }),Operand.tmp 21],argTypes:=#[9,26] },28, "law.go:24",#[ed_ 1,ec_ 0],none⟩
def oq22_4_3:Oper:=⟨some 2,Op.alloc 28,0, "law.go:24",#[],none⟩
def oq22_4_4:Oper:=⟨none,Op.store 28 (Operand.tmp 2) (Operand.tmp 22),0, "law.go:24",#[ed_ 3,ed_ 2,ec_ 2,ep_ 0,ep_ 1,ep_ 2,ep_ 3],none⟩
def Oq22_4:Array Oper:=List.toArray (oq22_4_0::oq22_4_1::oq22_4_2::oq22_4_3::oq22_4_4::[])
theorem gq22_4_0:Oq22_4[0]? = some oq22_4_0:=rfl
theorem gq22_4_1:Oq22_4[1]? = some oq22_4_1:=rfl
theorem gq22_4_2:Oq22_4[2]? = some oq22_4_2:=rfl
theorem gq22_4_3:Oq22_4[3]? = some oq22_4_3:=rfl
theorem gq22_4_4:Oq22_4[4]? = some oq22_4_4:=rfl
def cq22_13:Code:=Code.region 4 Oq22_4 false
def oq22_5_0:Oper:=⟨some 23,Op.call { callee:=Callee.value (Operand.func 12),args:=#[Operand.const (Value.string { data:=#[98] })],argTypes:=#[9] },28, "law.go:25",#[],none⟩
def oq22_5_1:Oper:=⟨some 3,Op.alloc 28,0, "law.go:25",#[],none⟩
def oq22_5_2:Oper:=⟨none,Op.store 28 (Operand.tmp 3) (Operand.tmp 23),0, "law.go:25",#[ed_ 1,ed_ 0,ec_ 0,ep_ 0,ep_ 1],none⟩
def Oq22_5:Array Oper:=List.toArray (oq22_5_0::oq22_5_1::oq22_5_2::[])
theorem gq22_5_0:Oq22_5[0]? = some oq22_5_0:=rfl
theorem gq22_5_1:Oq22_5[1]? = some oq22_5_1:=rfl
theorem gq22_5_2:Oq22_5[2]? = some oq22_5_2:=rfl
def cq22_15:Code:=Code.region 5 Oq22_5 false
def oq22_6_0:Oper:=⟨some 25,Op.move (Operand.tmp 1),23, "law.go:26",#[],none⟩
def oq22_6_1:Oper:=⟨some 26,Op.call { callee:=Callee.value (Operand.func 14),args:=#[Operand.tmp 25,Operand.const (Value.int IntKind.i64 2)],argTypes:=#[23,3] },40, "law.go:26",#[ed_ 0],none⟩
def oq22_6_2:Oper:=⟨some 24,Op.move (Operand.tmp 26),40, "law.go:26",#[ed_ 1],none⟩
def oq22_6_3:Oper:=⟨some 27,Op.extract (Operand.tmp 24) 0,3, "law.go:26",#[ed_ 2],none⟩
def oq22_6_4:Oper:=⟨some 28,Op.extract (Operand.tmp 24) 1,39, "law.go:26",#[ed_ 2,{ on:=5,ground:=Go.Ground.gcOnly Go.Departure.lateStores }],none⟩
def oq22_6_5:Oper:=⟨some 4,Op.assign (Operand.tmp 27),3, "law.go:26",#[ed_ 3,ec_ 1,ep_ 0,ep_ 1,ep_ 2,ep_ 3,{ on:=4,ground:=Go.Ground.textOnly Go.Departure.lateStores }],none⟩
def oq22_6_6:Oper:=⟨some 5,Op.assign (Operand.tmp 28),39, "law.go:26",#[ed_ 4,ec_ 5,ep_ 0,ep_ 1,ep_ 2,ep_ 3,ep_ 4,ep_ 5],none⟩
def Oq22_6:Array Oper:=List.toArray (oq22_6_0::oq22_6_1::oq22_6_2::oq22_6_3::oq22_6_4::oq22_6_5::oq22_6_6::[])
theorem gq22_6_0:Oq22_6[0]? = some oq22_6_0:=rfl
theorem gq22_6_1:Oq22_6[1]? = some oq22_6_1:=rfl
theorem gq22_6_2:Oq22_6[2]? = some oq22_6_2:=rfl
theorem gq22_6_3:Oq22_6[3]? = some oq22_6_3:=rfl
theorem gq22_6_4:Oq22_6[4]? = some oq22_6_4:=rfl
theorem gq22_6_5:Oq22_6[5]? = some oq22_6_5:=rfl
theorem gq22_6_6:Oq22_6[6]? = some oq22_6_6:=rfl
def cq22_17:Code:=Code.region 6 Oq22_6 false
def oq22_7_0:Oper:=⟨some 29,Op.move (Operand.tmp 1),23, "law.go:27",#[],none⟩
def oq22_7_1:Oper:=⟨some 30,Op.load 28 (Operand.tmp 2),28, "law.go:27",#[],none⟩
def oq22_7_2:Oper:=⟨some 31,Op.call { callee:=Callee.value (Operand.func 11),args:=#[Operand.tmp 29,Operand.const (Value.int IntKind.i64 1),Operand.tmp 30],argTypes:=#[23,3,28] },39, "law.go:27",#[ed_ 0,ed_ 1],none⟩
def oq22_7_3:Oper:=⟨some 32,Op.move (Operand.tmp 1),23, "law.go:27",#[],none⟩
def oq22_7_4:Oper:=⟨some 33,Op.load 28 (Operand.tmp 3),28, "law.go:27",#[],none⟩
def oq22_7_5:Oper:=⟨some 34,Op.call { callee:=Callee.value (Operand.func 11),args:=#[Operand.tmp 32,Operand.const (Value.int IntKind.i64 1),Operand.tmp 33],argTypes:=#[23,3,28] },39, "law.go:27",#[ed_ 3,ed_ 4,ec_ 2],none⟩
def oq22_7_6:Oper:=⟨some 35,Op.move (Operand.tmp 1),23, "law.go:27",#[],none⟩
def oq22_7_7:Oper:=⟨some 36,Op.call { callee:=Callee.value (Operand.func 12),args:=#[Operand.const (Value.string { data:=#[99] })],argTypes:=#[9] },28, "law.go:27",#[ec_ 5],none⟩
def oq22_7_8:Oper:=⟨some 37,Op.call { callee:=Callee.value (Operand.func 11),args:=#[Operand.tmp 35,Operand.const (Value.int IntKind.i64 1),Operand.tmp 36],argTypes:=#[23,3,28] },39, "law.go:27",#[ed_ 6,ed_ 7,ec_ 7],none⟩
def oq22_7_9:Oper:=⟨some 6,Op.assign (Operand.tmp 31),39, "law.go:27",#[ed_ 2,ec_ 8,ep_ 0,ep_ 1,ep_ 2,{ on:=3,ground:=Go.Ground.textOnly Go.Departure.lateStores },{ on:=4,ground:=Go.Ground.textOnly Go.Departure.lateStores },{ on:=5,ground:=Go.Ground.textOnly Go.Departure.lateStoresUnsure },{ on:=6,ground:=Go.Ground.textOnly Go.Departure.lateStores },{ on:=7,ground:=Go.Ground.textOnly Go.Departure.lateStoresUnsure },{ on:=8,ground:=Go.Ground.textOnly Go.Departure.lateStoresUnsure }],none⟩
def oq22_7_10:Oper:=⟨some 7,Op.assign (Operand.tmp 34),39, "law.go:27",#[ed_ 5,ec_ 9,ep_ 0,ep_ 1,ep_ 2,ep_ 3,ep_ 4,ep_ 5,{ on:=6,ground:=Go.Ground.textOnly Go.Departure.lateStores },{ on:=7,ground:=Go.Ground.textOnly Go.Departure.lateStoresUnsure },{ on:=8,ground:=Go.Ground.textOnly Go.Departure.lateStoresUnsure },ep_ 9],none⟩
def oq22_7_11:Oper:=⟨some 8,Op.assign (Operand.tmp 37),39, "law.go:27",#[ed_ 8,ec_ 10,ep_ 0,ep_ 1,ep_ 2,ep_ 3,ep_ 4,ep_ 5,ep_ 6,ep_ 7,ep_ 8,ep_ 9,ep_ 10],none⟩
def Oq22_7:Array Oper:=List.toArray (oq22_7_0::oq22_7_1::oq22_7_2::oq22_7_3::oq22_7_4::oq22_7_5::oq22_7_6::oq22_7_7::oq22_7_8::oq22_7_9::oq22_7_10::oq22_7_11::[])
theorem gq22_7_0:Oq22_7[0]? = some oq22_7_0:=rfl
theorem gq22_7_1:Oq22_7[1]? = some oq22_7_1:=rfl
theorem gq22_7_2:Oq22_7[2]? = some oq22_7_2:=rfl
theorem gq22_7_3:Oq22_7[3]? = some oq22_7_3:=rfl
theorem gq22_7_4:Oq22_7[4]? = some oq22_7_4:=rfl
theorem gq22_7_5:Oq22_7[5]? = some oq22_7_5:=rfl
theorem gq22_7_6:Oq22_7[6]? = some oq22_7_6:=rfl
theorem gq22_7_7:Oq22_7[7]? = some oq22_7_7:=rfl
theorem gq22_7_8:Oq22_7[8]? = some oq22_7_8:=rfl
theorem gq22_7_9:Oq22_7[9]? = some oq22_7_9:=rfl
theorem gq22_7_10:Oq22_7[10]? = some oq22_7_10:=rfl
theorem gq22_7_11:Oq22_7[11]? = some oq22_7_11:=rfl
theorem nsq22_7:Region.noSelect Oq22_7=true:=by kernel_rfl
def cq22_19:Code:=Code.region 7 Oq22_7 true
def oq22_8_0:Oper:=⟨some 39,Op.move (Operand.tmp 1),23, "law.go:28",#[],none⟩
def oq22_8_1:Oper:=⟨some 40,Op.load 28 (Operand.tmp 3),28, "law.go:28",#[],none⟩
def oq22_8_2:Oper:=⟨some 41,Op.call { callee:=Callee.value (Operand.func 17),args:=#[Operand.tmp 39,Operand.const (Value.int IntKind.i64 1),Operand.tmp 40],argTypes:=#[23,3,28] },51, "law.go:28",#[ed_ 0,ed_ 1],none⟩
def oq22_8_3:Oper:=⟨some 38,Op.move (Operand.tmp 41),51, "law.go:28",#[ed_ 2],none⟩
def oq22_8_4:Oper:=⟨some 42,Op.extract (Operand.tmp 38) 0,28, "law.go:28",#[ed_ 3],none⟩
def oq22_8_5:Oper:=⟨some 43,Op.extract (Operand.tmp 38) 1,39, "law.go:28",#[ed_ 3,{ on:=7,ground:=Go.Ground.gcOnly Go.Departure.lateStores }],none⟩
def oq22_8_6:Oper:=⟨some 9,Op.alloc 28,0, "law.go:28",#[],none⟩
def oq22_8_7:Oper:=⟨none,Op.store 28 (Operand.tmp 9) (Operand.tmp 42),0, "law.go:28",#[ed_ 6,ed_ 4,ec_ 2,ep_ 0,ep_ 1,ep_ 2,ep_ 3,ep_ 4,{ on:=5,ground:=Go.Ground.textOnly Go.Departure.lateStores },ep_ 6],none⟩
def oq22_8_8:Oper:=⟨some 10,Op.assign (Operand.tmp 43),39, "law.go:28",#[ed_ 5,ec_ 7,ep_ 0,ep_ 1,ep_ 2,ep_ 3,ep_ 4,ep_ 5,ep_ 6,ep_ 7],none⟩
def Oq22_8:Array Oper:=List.toArray (oq22_8_0::oq22_8_1::oq22_8_2::oq22_8_3::oq22_8_4::oq22_8_5::oq22_8_6::oq22_8_7::oq22_8_8::[])
theorem gq22_8_0:Oq22_8[0]? = some oq22_8_0:=rfl
theorem gq22_8_1:Oq22_8[1]? = some oq22_8_1:=rfl
theorem gq22_8_2:Oq22_8[2]? = some oq22_8_2:=rfl
theorem gq22_8_3:Oq22_8[3]? = some oq22_8_3:=rfl
theorem gq22_8_4:Oq22_8[4]? = some oq22_8_4:=rfl
theorem gq22_8_5:Oq22_8[5]? = some oq22_8_5:=rfl
theorem gq22_8_6:Oq22_8[6]? = some oq22_8_6:=rfl
theorem gq22_8_7:Oq22_8[7]? = some oq22_8_7:=rfl
theorem gq22_8_8:Oq22_8[8]? = some oq22_8_8:=rfl
def cq22_21:Code:=Code.region 8 Oq22_8 false
def oq22_9_0:Oper:=⟨some 45,Op.move (Operand.tmp 1),23, "law.go:29",#[],none⟩
def oq22_9_1:Oper:=⟨some 46,Op.call { callee:=Callee.value (Operand.func 19),args:=#[Operand.const (Value.int IntKind.i64 1)],argTypes:=#[2] },28, "law.go:29",#[],none⟩
def oq22_9_2:Oper:=⟨some 47,Op.call { callee:=Callee.value (Operand.func 18),args:=#[Operand.tmp 45,Operand.const (Value.int IntKind.i64 1),Operand.tmp 46],argTypes:=#[23,3,28] },51, "law.go:29",#[ed_ 0,ed_ 1,ec_ 1],none⟩
def oq22_9_3:Oper:=⟨some 44,Op.move (Operand.tmp 47),51, "law.go:29",#[ed_ 2],none⟩
def oq22_9_4:Oper:=⟨some 48,Op.extract (Operand.tmp 44) 0,28, "law.go:29",#[ed_ 3],none⟩
def oq22_9_5:Oper:=⟨some 49,Op.extract (Operand.tmp 44) 1,39, "law.go:29",#[ed_ 3,{ on:=7,ground:=Go.Ground.gcOnly Go.Departure.lateStores }],none⟩
def oq22_9_6:Oper:=⟨some 11,Op.alloc 28,0, "law.go:29",#[],none⟩
def oq22_9_7:Oper:=⟨none,Op.store 28 (Operand.tmp 11) (Operand.tmp 48),0, "law.go:29",#[ed_ 6,ed_ 4,ec_ 2,ep_ 0,ep_ 1,ep_ 2,ep_ 3,ep_ 4,{ on:=5,ground:=Go.Ground.textOnly Go.Departure.lateStores },ep_ 6],none⟩
def oq22_9_8:Oper:=⟨some 12,Op.assign (Operand.tmp 49),39, "law.go:29",#[ed_ 5,ec_ 7,ep_ 0,ep_ 1,ep_ 2,ep_ 3,ep_ 4,ep_ 5,ep_ 6,ep_ 7],none⟩
def Oq22_9:Array Oper:=List.toArray (oq22_9_0::oq22_9_1::oq22_9_2::oq22_9_3::oq22_9_4::oq22_9_5::oq22_9_6::oq22_9_7::oq22_9_8::[])
theorem gq22_9_0:Oq22_9[0]? = some oq22_9_0:=rfl
theorem gq22_9_1:Oq22_9[1]? = some oq22_9_1:=rfl
theorem gq22_9_2:Oq22_9[2]? = some oq22_9_2:=rfl
theorem gq22_9_3:Oq22_9[3]? = some oq22_9_3:=rfl
theorem gq22_9_4:Oq22_9[4]? = some oq22_9_4:=rfl
theorem gq22_9_5:Oq22_9[5]? = some oq22_9_5:=rfl
theorem gq22_9_6:Oq22_9[6]? = some oq22_9_6:=rfl
theorem gq22_9_7:Oq22_9[7]? = some oq22_9_7:=rfl
theorem gq22_9_8:Oq22_9[8]? = some oq22_9_8:=rfl
def cq22_23:Code:=Code.region 9 Oq22_9 false
def oq22_10_0:Oper:=⟨some 51,Op.move (Operand.tmp 1),23, "law.go:30",#[],none⟩
def oq22_10_1:Oper:=⟨some 52,Op.call { callee:=Callee.value (Operand.func 16),args:=#[Operand.const (Value.int IntKind.i64 2)],argTypes:=#[2] },28, "law.go:30",#[],none⟩
def oq22_10_2:Oper:=⟨some 53,Op.buildSlice 26 1 #[(0,Operand.tmp 52)],26, "law.go:30",#[ed_ 1],none⟩
def oq22_10_3:Oper:=⟨some 54,Op.call { callee:=Callee.value (Operand.func 15),args:=#[Operand.const (Value.string { data:=#[97] }),Operand.tmp 53],argTypes:=#[9,26] },28, "law.go:30",#[ed_ 2,ec_ 1],none⟩
def oq22_10_4:Oper:=⟨some 55,Op.call { callee:=Callee.value (Operand.func 17),args:=#[Operand.tmp 51,Operand.const (Value.int IntKind.i64 1),Operand.tmp 54],argTypes:=#[23,3,28] },51, "law.go:30",#[ed_ 0,ed_ 3,ec_ 3],none⟩
def oq22_10_5:Oper:=⟨some 50,Op.move (Operand.tmp 55),51, "law.go:30",#[ed_ 4],none⟩
def oq22_10_6:Oper:=⟨some 56,Op.extract (Operand.tmp 50) 0,28, "law.go:30",#[ed_ 5],none⟩
def oq22_10_7:Oper:=⟨some 57,Op.extract (Operand.tmp 50) 1,39, "law.go:30",#[ed_ 5,{ on:=9,ground:=Go.Ground.gcOnly Go.Departure.lateStores }],none⟩
def oq22_10_8:Oper:=⟨some 13,Op.alloc 28,0, "law.go:30",#[],none⟩
def oq22_10_9:Oper:=⟨none,Op.store 28 (Operand.tmp 13) (Operand.tmp 56),0, "law.go:30",#[ed_ 8,ed_ 6,ec_ 4,ep_ 0,ep_ 1,ep_ 2,ep_ 3,ep_ 4,ep_ 5,ep_ 6,{ on:=7,ground:=Go.Ground.textOnly Go.Departure.lateStores },ep_ 8],none⟩
def oq22_10_10:Oper:=⟨some 14,Op.assign (Operand.tmp 57),39, "law.go:30",#[ed_ 7,ec_ 9,ep_ 0,ep_ 1,ep_ 2,ep_ 3,ep_ 4,ep_ 5,ep_ 6,ep_ 7,ep_ 8,ep_ 9],none⟩
def Oq22_10:Array Oper:=List.toArray (oq22_10_0::oq22_10_1::oq22_10_2::oq22_10_3::oq22_10_4::oq22_10_5::oq22_10_6::oq22_10_7::oq22_10_8::oq22_10_9::oq22_10_10::[])
theorem gq22_10_0:Oq22_10[0]? = some oq22_10_0:=rfl
theorem gq22_10_1:Oq22_10[1]? = some oq22_10_1:=rfl
theorem gq22_10_2:Oq22_10[2]? = some oq22_10_2:=rfl
theorem gq22_10_3:Oq22_10[3]? = some oq22_10_3:=rfl
theorem gq22_10_4:Oq22_10[4]? = some oq22_10_4:=rfl
theorem gq22_10_5:Oq22_10[5]? = some oq22_10_5:=rfl
theorem gq22_10_6:Oq22_10[6]? = some oq22_10_6:=rfl
theorem gq22_10_7:Oq22_10[7]? = some oq22_10_7:=rfl
theorem gq22_10_8:Oq22_10[8]? = some oq22_10_8:=rfl
theorem gq22_10_9:Oq22_10[9]? = some oq22_10_9:=rfl
theorem gq22_10_10:Oq22_10[10]? = some oq22_10_10:=rfl
def cq22_25:Code:=Code.region 10 Oq22_10 false
def oq22_11_0:Oper:=⟨some 59,Op.move (Operand.tmp 1),23, "law.go:31",#[],none⟩
def oq22_11_1:Oper:=⟨some 60,Op.call { callee:=Callee.value (Operand.func 10),args:=#[Operand.tmp 59,Operand.const (Value.int IntKind.i64 1)],argTypes:=#[23,3] },40, "law.go:31",#[ed_ 0],none⟩
def oq22_11_2:Oper:=⟨some 58,Op.move (Operand.tmp 60),40, "law.go:31",#[ed_ 1],none⟩
def oq22_11_3:Oper:=⟨some 61,Op.extract (Operand.tmp 58) 0,3, "law.go:31",#[ed_ 2],none⟩
def oq22_11_4:Oper:=⟨some 62,Op.extract (Operand.tmp 58) 1,39, "law.go:31",#[ed_ 2,{ on:=5,ground:=Go.Ground.gcOnly Go.Departure.lateStores }],none⟩
def oq22_11_5:Oper:=⟨some 15,Op.assign (Operand.tmp 61),3, "law.go:31",#[ed_ 3,ec_ 1,ep_ 0,ep_ 1,ep_ 2,ep_ 3,{ on:=4,ground:=Go.Ground.textOnly Go.Departure.lateStores }],none⟩
def oq22_11_6:Oper:=⟨some 16,Op.assign (Operand.tmp 62),39, "law.go:31",#[ed_ 4,ec_ 5,ep_ 0,ep_ 1,ep_ 2,ep_ 3,ep_ 4,ep_ 5],none⟩
def Oq22_11:Array Oper:=List.toArray (oq22_11_0::oq22_11_1::oq22_11_2::oq22_11_3::oq22_11_4::oq22_11_5::oq22_11_6::[])
theorem gq22_11_0:Oq22_11[0]? = some oq22_11_0:=rfl
theorem gq22_11_1:Oq22_11[1]? = some oq22_11_1:=rfl
theorem gq22_11_2:Oq22_11[2]? = some oq22_11_2:=rfl
theorem gq22_11_3:Oq22_11[3]? = some oq22_11_3:=rfl
theorem gq22_11_4:Oq22_11[4]? = some oq22_11_4:=rfl
theorem gq22_11_5:Oq22_11[5]? = some oq22_11_5:=rfl
theorem gq22_11_6:Oq22_11[6]? = some oq22_11_6:=rfl
def cq22_27:Code:=Code.region 11 Oq22_11 false
def oq22_12_0:Oper:=⟨some 63,Op.move (Operand.tmp 4),3, "law.go:32",#[],none⟩
def oq22_12_1:Oper:=⟨some 64,Op.binOp Go.BinOp.eql 3 (Operand.tmp 63) (Operand.const (Value.int IntKind.i64 1)) 3,4, "law.go:32",#[ed_ 0],none⟩
def oq22_12_2:Oper:=⟨some 65,Op.move (Operand.tmp 64),4, "law.go:32",#[ed_ 1],none⟩
def oq22_12_3:Oper:=⟨some 66,Op.move (Operand.tmp 5),39, "law.go:32",#[eg_ 2],some (2,true)⟩
def oq22_12_4:Oper:=⟨some 67,Op.binOp Go.BinOp.eql 39 (Operand.tmp 66) (Operand.const (Value.int IntKind.i64 0)) 39,4, "law.go:32",#[ed_ 3,eg_ 2],some (2,true)⟩
def oq22_12_5:Oper:=⟨some 68,Op.pick (Operand.tmp 65) (Operand.tmp 67) (Operand.const (Value.bool false)),4, "law.go:32",#[ed_ 2,ed_ 4],none⟩
def oq22_12_6:Oper:=⟨some 69,Op.move (Operand.tmp 68),4, "law.go:32",#[ed_ 5,ec_ 2],none⟩
def oq22_12_7:Oper:=⟨some 70,Op.move (Operand.tmp 6),39, "law.go:32",#[eg_ 6],some (6,true)⟩
def oq22_12_8:Oper:=⟨some 71,Op.binOp Go.BinOp.eql 39 (Operand.tmp 70) (Operand.const (Value.int IntKind.i64 0)) 39,4, "law.go:32",#[ed_ 7,eg_ 6],some (6,true)⟩
def oq22_12_9:Oper:=⟨some 72,Op.pick (Operand.tmp 69) (Operand.tmp 71) (Operand.const (Value.bool false)),4, "law.go:32",#[ed_ 6,ed_ 8],none⟩
def oq22_12_10:Oper:=⟨some 73,Op.move (Operand.tmp 72),4, "law.go:32",#[ed_ 9,ec_ 6],none⟩
def oq22_12_11:Oper:=⟨some 74,Op.move (Operand.tmp 7),39, "law.go:32",#[eg_ 10],some (10,true)⟩
def oq22_12_12:Oper:=⟨some 75,Op.binOp Go.BinOp.eql 39 (Operand.tmp 74) (Operand.const (Value.int IntKind.i64 0)) 39,4, "law.go:32",#[ed_ 11,eg_ 10],some (10,true)⟩
def oq22_12_13:Oper:=⟨some 76,Op.pick (Operand.tmp 73) (Operand.tmp 75) (Operand.const (Value.bool false)),4, "law.go:32",#[ed_ 10,ed_ 12],none⟩
def oq22_12_14:Oper:=⟨some 77,Op.move (Operand.tmp 76),4, "law.go:32",#[ed_ 13,ec_ 10],none⟩
def oq22_12_15:Oper:=⟨some 78,Op.move (Operand.tmp 8),39, "law.go:32",#[eg_ 14],some (14,true)⟩
def oq22_12_16:Oper:=⟨some 79,Op.binOp Go.BinOp.eql 39 (Operand.tmp 78) (Operand.const (Value.int IntKind.i64 141)) 39,4, "law.go:32",#[ed_ 15,eg_ 14],some (14,true)⟩
def oq22_12_17:Oper:=⟨some 80,Op.pick (Operand.tmp 77) (Operand.tmp 79) (Operand.const (Value.bool false)),4, "law.go:32",#[ed_ 14,ed_ 16],none⟩
def oq22_12_18:Oper:=⟨some 81,Op.move (Operand.tmp 80),4, "law.go:32",#[ed_ 17,ec_ 14],none⟩
def oq22_12_19:Oper:=⟨some 82,Op.fieldAddr 28 (Operand.tmp 9) 1,0, "law.go:32",#[eg_ 18],some (18,true)⟩
def oq22_12_20:Oper:=⟨some 83,Op.load 9 (Operand.tmp 82),9, "law.go:32",#[ed_ 19,eg_ 18],some (18,true)⟩
def oq22_12_21:Oper:=⟨some 84,Op.binOp Go.BinOp.eql 9 (Operand.tmp 83) (Operand.const (Value.string { data:=#[98] })) 9,4, "law.go:32",#[ed_ 20,eg_ 18],some (18,true)⟩
def oq22_12_22:Oper:=⟨some 85,Op.pick (Operand.tmp 81) (Operand.tmp 84) (Operand.const (Value.bool false)),4, "law.go:32",#[ed_ 18,ed_ 21],none⟩
def oq22_12_23:Oper:=⟨some 86,Op.move (Operand.tmp 85),4, "law.go:32",#[ed_ 22,ec_ 18],none⟩
def oq22_12_24:Oper:=⟨some 87,Op.move (Operand.tmp 10),39, "law.go:32",#[eg_ 23],some (23,true)⟩
def oq22_12_25:Oper:=⟨some 88,Op.binOp Go.BinOp.eql 39 (Operand.tmp 87) (Operand.const (Value.int IntKind.i64 0)) 39,4, "law.go:32",#[ed_ 24,eg_ 23],some (23,true)⟩
def oq22_12_26:Oper:=⟨some 89,Op.pick (Operand.tmp 86) (Operand.tmp 88) (Operand.const (Value.bool false)),4, "law.go:32",#[ed_ 23,ed_ 25],none⟩
def oq22_12_27:Oper:=⟨some 90,Op.move (Operand.tmp 89),4, "law.go:32",#[ed_ 26,ec_ 23],none⟩
def oq22_12_28:Oper:=⟨some 91,Op.load 28 (Operand.tmp 11),28, "law.go:32",#[eg_ 27],some (27,true)⟩
def oq22_12_29:Oper:=⟨some 92,Op.load 28 (Operand.tmp 2),28, "law.go:32",#[eg_ 27],some (27,true)⟩
def oq22_12_30:Oper:=⟨some 93,Op.call { callee:=Callee.value (Operand.func 20),args:=#[Operand.tmp 91,Operand.tmp 92],argTypes:=#[28,28] },4, "law.go:32",#[ed_ 28,ed_ 29,ec_ 27,eg_ 27],some (27,true)⟩
def oq22_12_31:Oper:=⟨some 94,Op.pick (Operand.tmp 90) (Operand.tmp 93) (Operand.const (Value.bool false)),4, "law.go:32",#[ed_ 27,ed_ 30],none⟩
def oq22_12_32:Oper:=⟨some 95,Op.move (Operand.tmp 94),4, "law.go:32",#[ed_ 31,ec_ 30],none⟩
def oq22_12_33:Oper:=⟨some 96,Op.move (Operand.tmp 12),39, "law.go:32",#[eg_ 32],some (32,true)⟩
def oq22_12_34:Oper:=⟨some 97,Op.binOp Go.BinOp.eql 39 (Operand.tmp 96) (Operand.const (Value.int IntKind.i64 0)) 39,4, "law.go:32",#[ed_ 33,eg_ 32],some (32,true)⟩
def oq22_12_35:Oper:=⟨some 98,Op.pick (Operand.tmp 95) (Operand.tmp 97) (Operand.const (Value.bool false)),4, "law.go:32",#[ed_ 32,ed_ 34],none⟩
def oq22_12_36:Oper:=⟨some 99,Op.move (Operand.tmp 98),4, "law.go:32",#[ed_ 35,ec_ 32],none⟩
def oq22_12_37:Oper:=⟨some 100,Op.move (Operand.tmp 14),39, "law.go:32",#[eg_ 36],some (36,true)⟩
def oq22_12_38:Oper:=⟨some 101,Op.binOp Go.BinOp.eql 39 (Operand.tmp 100) (Operand.const (Value.int IntKind.i64 141)) 39,4, "law.go:32",#[ed_ 37,eg_ 36],some (36,true)⟩
def oq22_12_39:Oper:=⟨some 102,Op.pick (Operand.tmp 99) (Operand.tmp 101) (Operand.const (Value.bool false)),4, "law.go:32",#[ed_ 36,ed_ 38],none⟩
def oq22_12_40:Oper:=⟨some 103,Op.move (Operand.tmp 102),4, "law.go:32",#[ed_ 39,ec_ 36],none⟩
def oq22_12_41:Oper:=⟨some 104,Op.move (Operand.tmp 15),3, "law.go:32",#[eg_ 40],some (40,true)⟩
def oq22_12_42:Oper:=⟨some 105,Op.binOp Go.BinOp.eql 3 (Operand.tmp 104) (Operand.const (Value.int IntKind.i64 1)) 3,4, "law.go:32",#[ed_ 41,eg_ 40],some (40,true)⟩
def oq22_12_43:Oper:=⟨some 106,Op.pick (Operand.tmp 103) (Operand.tmp 105) (Operand.const (Value.bool false)),4, "law.go:32",#[ed_ 40,ed_ 42],none⟩
def oq22_12_44:Oper:=⟨some 107,Op.move (Operand.tmp 106),4, "law.go:32",#[ed_ 43,ec_ 40],none⟩
def oq22_12_45:Oper:=⟨some 108,Op.move (Operand.tmp 16),39, "law.go:32",#[eg_ 44],some (44,true)⟩
def oq22_12_46:Oper:=⟨some 109,Op.binOp Go.BinOp.eql 39 (Operand.tmp 108) (Operand.const (Value.int IntKind.i64 0)) 39,4, "law.go:32",#[ed_ 45,eg_ 44],some (44,true)⟩
def oq22_12_47:Oper:=⟨some 110,Op.pick (Operand.tmp 107) (Operand.tmp 109) (Operand.const (Value.bool false)),4, "law.go:32",#[ed_ 44,ed_ 46],none⟩
def oq22_12_48:Oper:=⟨some 111,Op.move (Operand.tmp 110),4, "law.go:32",#[ed_ 47,ec_ 44],none⟩
def oq22_12_49:Oper:=⟨some 112,Op.move (Operand.tmp 1),23, "law.go:32",#[eg_ 48],some (48,true)⟩
def oq22_12_50:Oper:=⟨some 113,Op.call { callee:=Callee.value (Operand.func 9),args:=#[Operand.tmp 112],argTypes:=#[23] },37, "law.go:32",#[ed_ 49,ec_ 48,eg_ 48],some (48,true)⟩
def oq22_12_51:Oper:=⟨some 114,Op.call { callee:=Callee.builtin Go.Builtin.len,args:=#[Operand.tmp 113],argTypes:=#[37] },3, "law.go:32",#[ed_ 50,eg_ 48],some (48,true)⟩
def oq22_12_52:Oper:=⟨some 115,Op.binOp Go.BinOp.eql 3 (Operand.tmp 114) (Operand.const (Value.int IntKind.i64 1)) 3,4, "law.go:32",#[ed_ 51,eg_ 48],some (48,true)⟩
def oq22_12_53:Oper:=⟨some 116,Op.pick (Operand.tmp 111) (Operand.tmp 115) (Operand.const (Value.bool false)),4, "law.go:32",#[ed_ 48,ed_ 52],none⟩
def oq22_12_54:Oper:=⟨some 117,Op.move (Operand.tmp 116),4, "law.go:32",#[ed_ 53,ec_ 50],none⟩
def oq22_12_55:Oper:=⟨some 118,Op.move (Operand.tmp 1),23, "law.go:32",#[eg_ 54],some (54,true)⟩
def oq22_12_56:Oper:=⟨some 119,Op.call { callee:=Callee.value (Operand.func 13),args:=#[Operand.tmp 118,Operand.const (Value.int IntKind.i64 1)],argTypes:=#[23,3] },39, "law.go:32",#[ed_ 55,ec_ 54,eg_ 54],some (54,true)⟩
def oq22_12_57:Oper:=⟨some 120,Op.binOp Go.BinOp.eql 39 (Operand.tmp 119) (Operand.const (Value.int IntKind.i64 0)) 39,4, "law.go:32",#[ed_ 56,eg_ 54],some (54,true)⟩
def oq22_12_58:Oper:=⟨some 121,Op.pick (Operand.tmp 117) (Operand.tmp 120) (Operand.const (Value.bool false)),4, "law.go:32",#[ed_ 54,ed_ 57],none⟩
def oq22_12_59:Oper:=⟨some 0,Op.assign (Operand.tmp 121),4, "law.go:32",#[ed_ 58,ec_ 56,ep_ 0,ep_ 1,ep_ 2,ep_ 3,ep_ 4,ep_ 5,ep_ 6,ep_ 7,ep_ 8,ep_ 9,ep_ 10,ep_ 11,ep_ 12,ep_ 13,ep_ 14,ep_ 15,ep_ 16,ep_ 17,ep_ 18,ep_ 19,ep_ 20,ep_ 21,ep_ 22,ep_ 23,ep_ 24,ep_ 25,ep_ 26,ep_ 27,ep_ 28,ep_ 29,ep_ 30,ep_ 31,ep_ 32,ep_ 33,ep_ 34,ep_ 35,ep_ 36,ep_ 37,ep_ 38,ep_ 39,ep_ 40,ep_ 41,ep_ 42,ep_ 43,ep_ 44,ep_ 45,ep_ 46,ep_ 47,ep_ 48,ep_ 49,ep_ 50,ep_ 51,ep_ 52,ep_ 53,ep_ 54,ep_ 55,ep_ 56,ep_ 57,ep_ 58],none⟩
def Oq22_12:Array Oper:=List.toArray (oq22_12_0::oq22_12_1::oq22_12_2::oq22_12_3::oq22_12_4::oq22_12_5::oq22_12_6::oq22_12_7::oq22_12_8::oq22_12_9::oq22_12_10::oq22_12_11::oq22_12_12::oq22_12_13::oq22_12_14::oq22_12_15::oq22_12_16::oq22_12_17::oq22_12_18::oq22_12_19::oq22_12_20::oq22_12_21::oq22_12_22::oq22_12_23::oq22_12_24::oq22_12_25::oq22_12_26::oq22_12_27::oq22_12_28::oq22_12_29::oq22_12_30::oq22_12_31::oq22_12_32::oq22_12_33::oq22_12_34::oq22_12_35::oq22_12_36::oq22_12_37::oq22_12_38::oq22_12_39::oq22_12_40::oq22_12_41::oq22_12_42::oq22_12_43::oq22_12_44::oq22_12_45::oq22_12_46::oq22_12_47::oq22_12_48::oq22_12_49::oq22_12_50::oq22_12_51::oq22_12_52::oq22_12_53::oq22_12_54::oq22_12_55::oq22_12_56::oq22_12_57::oq22_12_58::oq22_12_59::[])
theorem gq22_12_0:Oq22_12[0]? = some oq22_12_0:=rfl
theorem gq22_12_1:Oq22_12[1]? = some oq22_12_1:=rfl
theorem gq22_12_2:Oq22_12[2]? = some oq22_12_2:=rfl
theorem gq22_12_3:Oq22_12[3]? = some oq22_12_3:=rfl
theorem gq22_12_4:Oq22_12[4]? = some oq22_12_4:=rfl
theorem gq22_12_5:Oq22_12[5]? = some oq22_12_5:=rfl
theorem gq22_12_6:Oq22_12[6]? = some oq22_12_6:=rfl
theorem gq22_12_7:Oq22_12[7]? = some oq22_12_7:=rfl
theorem gq22_12_8:Oq22_12[8]? = some oq22_12_8:=rfl
theorem gq22_12_9:Oq22_12[9]? = some oq22_12_9:=rfl
theorem gq22_12_10:Oq22_12[10]? = some oq22_12_10:=rfl
theorem gq22_12_11:Oq22_12[11]? = some oq22_12_11:=rfl
theorem gq22_12_12:Oq22_12[12]? = some oq22_12_12:=rfl
theorem gq22_12_13:Oq22_12[13]? = some oq22_12_13:=rfl
theorem gq22_12_14:Oq22_12[14]? = some oq22_12_14:=rfl
theorem gq22_12_15:Oq22_12[15]? = some oq22_12_15:=rfl
theorem gq22_12_16:Oq22_12[16]? = some oq22_12_16:=rfl
theorem gq22_12_17:Oq22_12[17]? = some oq22_12_17:=rfl
theorem gq22_12_18:Oq22_12[18]? = some oq22_12_18:=rfl
theorem gq22_12_19:Oq22_12[19]? = some oq22_12_19:=rfl
theorem gq22_12_20:Oq22_12[20]? = some oq22_12_20:=rfl
theorem gq22_12_21:Oq22_12[21]? = some oq22_12_21:=rfl
theorem gq22_12_22:Oq22_12[22]? = some oq22_12_22:=rfl
theorem gq22_12_23:Oq22_12[23]? = some oq22_12_23:=rfl
theorem gq22_12_24:Oq22_12[24]? = some oq22_12_24:=rfl
theorem gq22_12_25:Oq22_12[25]? = some oq22_12_25:=rfl
theorem gq22_12_26:Oq22_12[26]? = some oq22_12_26:=rfl
theorem gq22_12_27:Oq22_12[27]? = some oq22_12_27:=rfl
theorem gq22_12_28:Oq22_12[28]? = some oq22_12_28:=rfl
theorem gq22_12_29:Oq22_12[29]? = some oq22_12_29:=rfl
theorem gq22_12_30:Oq22_12[30]? = some oq22_12_30:=rfl
theorem gq22_12_31:Oq22_12[31]? = some oq22_12_31:=rfl
theorem gq22_12_32:Oq22_12[32]? = some oq22_12_32:=rfl
theorem gq22_12_33:Oq22_12[33]? = some oq22_12_33:=rfl
theorem gq22_12_34:Oq22_12[34]? = some oq22_12_34:=rfl
theorem gq22_12_35:Oq22_12[35]? = some oq22_12_35:=rfl
theorem gq22_12_36:Oq22_12[36]? = some oq22_12_36:=rfl
theorem gq22_12_37:Oq22_12[37]? = some oq22_12_37:=rfl
theorem gq22_12_38:Oq22_12[38]? = some oq22_12_38:=rfl
theorem gq22_12_39:Oq22_12[39]? = some oq22_12_39:=rfl
theorem gq22_12_40:Oq22_12[40]? = some oq22_12_40:=rfl
theorem gq22_12_41:Oq22_12[41]? = some oq22_12_41:=rfl
theorem gq22_12_42:Oq22_12[42]? = some oq22_12_42:=rfl
theorem gq22_12_43:Oq22_12[43]? = some oq22_12_43:=rfl
theorem gq22_12_44:Oq22_12[44]? = some oq22_12_44:=rfl
theorem gq22_12_45:Oq22_12[45]? = some oq22_12_45:=rfl
theorem gq22_12_46:Oq22_12[46]? = some oq22_12_46:=rfl
theorem gq22_12_47:Oq22_12[47]? = some oq22_12_47:=rfl
theorem gq22_12_48:Oq22_12[48]? = some oq22_12_48:=rfl
theorem gq22_12_49:Oq22_12[49]? = some oq22_12_49:=rfl
theorem gq22_12_50:Oq22_12[50]? = some oq22_12_50:=rfl
theorem gq22_12_51:Oq22_12[51]? = some oq22_12_51:=rfl
theorem gq22_12_52:Oq22_12[52]? = some oq22_12_52:=rfl
theorem gq22_12_53:Oq22_12[53]? = some oq22_12_53:=rfl
theorem gq22_12_54:Oq22_12[54]? = some oq22_12_54:=rfl
theorem gq22_12_55:Oq22_12[55]? = some oq22_12_55:=rfl
theorem gq22_12_56:Oq22_12[56]? = some oq22_12_56:=rfl
theorem gq22_12_57:Oq22_12[57]? = some oq22_12_57:=rfl
theorem gq22_12_58:Oq22_12[58]? = some oq22_12_58:=rfl
theorem gq22_12_59:Oq22_12[59]? = some oq22_12_59:=rfl
def cq22_29:Code:=Code.region 12 Oq22_12 false
def cq22_28:Code:=Code.seq cq22_29 Code.ret
def cq22_26:Code:=Code.seq cq22_27 cq22_28
def cq22_24:Code:=Code.seq cq22_25 cq22_26
def cq22_22:Code:=Code.seq cq22_23 cq22_24
def cq22_20:Code:=Code.seq cq22_21 cq22_22
def cq22_18:Code:=Code.seq cq22_19 cq22_20
def cq22_16:Code:=Code.seq cq22_17 cq22_18
def cq22_14:Code:=Code.seq cq22_15 cq22_16
def cq22_12:Code:=Code.seq cq22_13 cq22_14
def cq22_4:Code:=Code.seq cq22_5 cq22_12
def cq22_2:Code:=Code.seq cq22_3 cq22_4
def cq22_0:Code:=Code.seq cq22_1 cq22_2
theorem enq22_11:Enters Tryz.prog 20:=enters_of Tryz.func20 (by kernel_rfl) rfl
theorem enq22_58:Enters Tryz.prog 9:=enters_of Tryz.func9 (by kernel_rfl) rfl
theorem bodyq22:Tryz.f5.body=some cq22_0:=by kernel_rfl
set_option maxRecDepth 100000 in
set_option maxHeartbeats 4000000 in
theorem palive_w {W:World} {f0:Act} {w0:World} (R:FrS 122 f0)  (K1:Keep (fun g=>g < W.heap.size) W w0)  : cq22_0.wp Tryz.prog (bodyPost Tryz.prog Tryz.f5 (fun e w'=>e=.returned (.bool true)∧Keep (fun g=>g < W.heap.size) W w')) f0 w0:=by
 refine wp_seq (x:=cq22_1) (y:=cq22_2) ?_
 change (Code.region 0 Oq22_0 false).wp _ _ _ _
 refine reg_in (l:=[0]) rfl ?_
 have F:FE_ _ [] f0 f0:=⟨R,Ag_.refl _⟩;clear R
 have Y:(execOp f0.eval oq22_0_0).run Tryz.prog w0=.ok (.value (.bool false)) w0:=by unfold oq22_0_0;go_simp
 refine sv_ gq22_0_0 Y fun a101 e=>?_;clear Y
 have h0:=pt_ F e;replace F:=pu_ F e;clear e
 refine st_end ?_
 have R:=F.r;clear F
 change (cq22_2).wp _ _ _ _
 refine wp_seq (x:=cq22_3) (y:=cq22_4) ?_
 change (Code.region 1 Oq22_1 false).wp _ _ _ _
 refine reg_in (l:=[0,1]) rfl ?_
 have F:FE_ _ [] a101 a101:=⟨R,Ag_.refl _⟩;clear R
 have Y:(execOp a101.eval oq22_1_0).run Tryz.prog w0=.ok (.enter 4 #[]) w0:=by unfold oq22_1_0;go_simp
 obtain ⟨BB,hBB⟩:∃ q,q=w0.heap.size:=⟨_,rfl⟩;have HWB:W.heap.size ≤ BB:=by rw [hBB];exact K1.size
 have hcall:=new_any w0;rw [← hBB] at hcall
 refine st_call gq22_1_0 rfl (wanted_free rfl) Y ((hcall).mono ?_);clear Y
 rintro e9 w102 ⟨pa,mb,rfl,hpo,kk⟩
 replace K1:=keep_onto' K1 kk HWB
 clear kk
 clear hcall hBB;have HPN:=Lib.hid hpo;clear hpo
 have KP:=Keep.refl (fun g=>g < w102.heap.size) w102
 refine ⟨_,rfl,fun a103 e=>?_⟩
 have h17:=pt_ F e;replace F:=pu_ F e;clear e
 refine sv_ gq22_1_1 (ya_ rfl h17) fun a104 e=>?_
 clear h17;have h1:=pt_ F e;replace F:=pu_ F e;clear e
 refine st_end ?_
 replace h0:=F.of h0;have R:=F.r;clear F
 change (cq22_4).wp _ _ _ _
 refine wp_seq (x:=cq22_5) (y:=cq22_12) ?_
 refine wp_seq (x:=cq22_6) (y:=cq22_7) ?_
 change (Code.region 2 Oq22_2 false).wp _ _ _ _
 refine reg_in (l:=[0,1]) rfl ?_
 have F:FE_ _ [] a104 a104:=⟨R,Ag_.refl _⟩;clear R
 refine sv_ gq22_2_0 (ym_ rfl (F.of h1)) fun a105 e=>?_
 have h18:=pt_ F e;replace F:=pu_ F e;clear e
 have Y:(execOp a105.eval oq22_2_1).run Tryz.prog w102=.ok (.value (.bool false)) w102:=by unfold oq22_2_1;go_simp
 refine sv_ gq22_2_1 Y fun a106 e=>?_;clear Y
 clear h18;have h19:=pt_ F e;replace F:=pu_ F e;clear e
 refine st_end ?_
 replace h0:=F.of h0;replace h1:=F.of h1;have R:=F.r;clear F
 change (cq22_7).wp _ _ _ _
 refine wp_cond_false (x:=cq22_8) (y:=Code.skip) (eval_slot h19) ?_
 refine wp_skip ?_
 change (cq22_12).wp _ _ _ _
 refine wp_seq (x:=cq22_13) (y:=cq22_14) ?_
 change (Code.region 4 Oq22_4 false).wp _ _ _ _
 refine reg_in (l:=[0,1,2,3,4]) rfl ?_
 have F:FE_ _ [] a106 a106:=⟨R,Ag_.refl _⟩;clear R
 have Y:(execOp a106.eval oq22_4_0).run Tryz.prog w102=.ok (.enter 16 #[.int .i64 1]) w102:=by unfold oq22_4_0;go_simp
 have hc:Calls Tryz.prog 16 #[.int .i64 1] w102 (fun e w'=>e=.returned (.agg #[.int .i64 2,.string (⟨#[]⟩),.int .i64 1,.slice none 0 0])∧Keep (fun g=>g < w102.heap.size) w102 w'):=refN_any w102 1
 refine st_call gq22_4_0 rfl (wanted_free rfl) Y ((hc).mono ?_);clear Y
 rintro e9 w107 ⟨rfl,kk⟩
 replace K1:=keep_onto K1 kk
 replace KP:=keep_onto KP kk
 clear hc
 clear kk
 refine ⟨_,rfl,fun a108 e=>?_⟩
 have h20:=pt_ F e;replace F:=pu_ F e;clear e
 have Y:(execOp a108.eval oq22_4_1).run Tryz.prog w107=.ok (.value (.slice (some ⟨w107.heap.size,0,none⟩) 1 1)) (w107.alloc (.cells #[.int .i64 2,.string (⟨#[]⟩),.int .i64 1,.slice none 0 0] 28)):=by unfold oq22_4_1;go_simp
 have B109:=Blk.new w107 28 #[.int .i64 2,.string (⟨#[]⟩),.int .i64 1,.slice none 0 0]
 obtain ⟨w110,hw⟩:∃ x,x=w107.alloc (.cells #[.int .i64 2,.string (⟨#[]⟩),.int .i64 1,.slice none 0 0] 28):=⟨_,rfl⟩;rw [← hw] at Y B109
 obtain ⟨b109,hb⟩:∃ x,x=w107.heap.size:=⟨_,rfl⟩;rw [← hb] at Y B109
 have LK1_b109:=lk_ hb K1;replace K1:=ka_ hw K1;have LKP_b109:=lk_ hb KP;replace KP:=ka_ hw KP;clear hw hb
 refine sv_ gq22_4_1 Y fun a111 e=>?_;clear Y
 clear h20;have h21:=pt_ F e;replace F:=pu_ F e;clear e
 have Y:(execOp a111.eval oq22_4_2).run Tryz.prog w110=.ok (.enter 15 #[.string (⟨#[97]⟩),.slice (some ⟨b109,0,none⟩) 1 1]) w110:=by unfold oq22_4_2;go_simp
 have hc:Calls Tryz.prog 15 #[.string (⟨#[97]⟩),.slice (some ⟨b109,0,none⟩) 1 1] w110 (fun e w'=>e=.returned (.agg #[.int .i64 4,.string (⟨#[97]⟩),.int .i64 0,.slice (some ⟨b109,0,none⟩) 1 1])∧Keep (fun g=>g < w110.heap.size) w110 w'):=refC_any w110 [97] [.node 2 [] 1 []] (some ⟨b109,0,none⟩) 1
 refine st_call gq22_4_2 rfl (wanted_free rfl) Y ((hc).mono ?_);clear Y
 rintro e9 w112 ⟨rfl,kk⟩
 replace K1:=keep_onto K1 kk
 replace KP:=keep_onto KP kk
 replace B109:=blk_on B109 kk
 clear hc
 clear kk
 refine ⟨_,rfl,fun a113 e=>?_⟩
 clear h21;have h22:=pt_ F e;replace F:=pu_ F e;clear e
 have Y:(execOp a113.eval oq22_4_3).run Tryz.prog w112=.ok (.value (.pointer (some ⟨w112.heap.size,0,none⟩))) (w112.alloc (.cells #[.int .i64 0,.string (⟨#[]⟩),.int .i64 0,.slice none 0 0] 28)):=by unfold oq22_4_3;go_simp
 have B114:=Blk.new w112 28 #[.int .i64 0,.string (⟨#[]⟩),.int .i64 0,.slice none 0 0]
 obtain ⟨w115,hw⟩:∃ x,x=w112.alloc (.cells #[.int .i64 0,.string (⟨#[]⟩),.int .i64 0,.slice none 0 0] 28):=⟨_,rfl⟩;rw [← hw] at Y B114
 obtain ⟨b114,hb⟩:∃ x,x=w112.heap.size:=⟨_,rfl⟩;rw [← hb] at Y B114
 have Nb109_b114:=nb_ hb B109;replace B109:=ba_ hw B109;have LK1_b114:=lk_ hb K1;replace K1:=ka_ hw K1;have LKP_b114:=lk_ hb KP;replace KP:=ka_ hw KP;clear hw hb
 refine sv_ gq22_4_3 Y fun a116 e=>?_;clear Y
 have h2:=pt_ F e;replace F:=pu_ F e;replace h22:=so_ e h22;clear e
 obtain ⟨w117,Y,hk,hB⟩:=ys4_ (o:=oq22_4_4) rfl h2 h22 B114
 replace K1:=kx_ hk K1 (Nat.not_lt.2 LK1_b114);replace KP:=kx_ hk KP (Nat.not_lt.2 LKP_b114);replace B109:=bx_ hk B109 Nb109_b114;clear B114;have B114:=hB;clear hB hk
 refine st_skip gq22_4_4 rfl (wanted_free rfl) Y ?_;clear Y
 refine st_end ?_
 replace h0:=F.of h0;replace h1:=F.of h1;clear h19;clear h22;have R:=F.r;clear F
 change (cq22_14).wp _ _ _ _
 refine wp_seq (x:=cq22_15) (y:=cq22_16) ?_
 change (Code.region 5 Oq22_5 false).wp _ _ _ _
 refine reg_in (l:=[0,1,2]) rfl ?_
 have F:FE_ _ [] a116 a116:=⟨R,Ag_.refl _⟩;clear R
 have Y:(execOp a116.eval oq22_5_0).run Tryz.prog w117=.ok (.enter 12 #[.string (⟨#[98]⟩)]) w117:=by unfold oq22_5_0;go_simp
 have hc:Calls Tryz.prog 12 #[.string (⟨#[98]⟩)] w117 (fun e w'=>e=.returned (.agg #[.int .i64 3,.string (⟨#[98]⟩),.int .i64 0,.slice none 0 0])∧Keep (fun g=>g < w117.heap.size) w117 w'):=refA_any w117 [98]
 refine st_call gq22_5_0 rfl (wanted_free rfl) Y ((hc).mono ?_);clear Y
 rintro e9 w118 ⟨rfl,kk⟩
 replace K1:=keep_onto K1 kk
 replace KP:=keep_onto KP kk
 replace B109:=blk_on B109 kk
 replace B114:=blk_on B114 kk
 clear hc
 clear kk
 refine ⟨_,rfl,fun a119 e=>?_⟩
 have h23:=pt_ F e;replace F:=pu_ F e;clear e
 have Y:(execOp a119.eval oq22_5_1).run Tryz.prog w118=.ok (.value (.pointer (some ⟨w118.heap.size,0,none⟩))) (w118.alloc (.cells #[.int .i64 0,.string (⟨#[]⟩),.int .i64 0,.slice none 0 0] 28)):=by unfold oq22_5_1;go_simp
 have B120:=Blk.new w118 28 #[.int .i64 0,.string (⟨#[]⟩),.int .i64 0,.slice none 0 0]
 obtain ⟨w121,hw⟩:∃ x,x=w118.alloc (.cells #[.int .i64 0,.string (⟨#[]⟩),.int .i64 0,.slice none 0 0] 28):=⟨_,rfl⟩;rw [← hw] at Y B120
 obtain ⟨b120,hb⟩:∃ x,x=w118.heap.size:=⟨_,rfl⟩;rw [← hb] at Y B120
 have Nb109_b120:=nb_ hb B109;replace B109:=ba_ hw B109;have Nb114_b120:=nb_ hb B114;replace B114:=ba_ hw B114;have LK1_b120:=lk_ hb K1;replace K1:=ka_ hw K1;have LKP_b120:=lk_ hb KP;replace KP:=ka_ hw KP;clear hw hb
 refine sv_ gq22_5_1 Y fun a122 e=>?_;clear Y
 have h3:=pt_ F e;replace F:=pu_ F e;replace h23:=so_ e h23;clear e
 obtain ⟨w123,Y,hk,hB⟩:=ys4_ (o:=oq22_5_2) rfl h3 h23 B120
 replace K1:=kx_ hk K1 (Nat.not_lt.2 LK1_b120);replace KP:=kx_ hk KP (Nat.not_lt.2 LKP_b120);replace B109:=bx_ hk B109 Nb109_b120;replace B114:=bx_ hk B114 Nb114_b120;clear B120;have B120:=hB;clear hB hk
 refine st_skip gq22_5_2 rfl (wanted_free rfl) Y ?_;clear Y
 refine st_end ?_
 replace h0:=F.of h0;replace h1:=F.of h1;replace h2:=F.of h2;clear h23;have R:=F.r;clear F
 change (cq22_16).wp _ _ _ _
 refine wp_seq (x:=cq22_17) (y:=cq22_18) ?_
 change (Code.region 6 Oq22_6 false).wp _ _ _ _
 refine reg_in (l:=[0,1,2,3,4,5,6]) rfl ?_
 have F:FE_ _ [] a122 a122:=⟨R,Ag_.refl _⟩;clear R
 refine sv_ gq22_6_0 (ym_ rfl (F.of h1)) fun a124 e=>?_
 have h25:=pt_ F e;replace F:=pu_ F e;clear e
 have Y:(execOp a124.eval oq22_6_1).run Tryz.prog w123=.ok (.enter 14 #[.pointer (some ⟨pa,0,none⟩),.int .i64 2]) w123:=by unfold oq22_6_1;go_simp
 refine st_call gq22_6_1 rfl (wanted_free rfl) Y ((make1 (HPN.out.on KP)).mono ?_);clear Y
 rintro e9 w125 ⟨Ra,gq,rfl,hpo,hgq,kb,kf⟩
 have l_b109:=B109.lt;replace B109:=B109.keep kf ⟨B109.lt,fun h=>absurd (HPN.out.rb _ h).2 (Nat.not_lt.2 LKP_b109)⟩
 have l_b114:=B114.lt;replace B114:=B114.keep kf ⟨B114.lt,fun h=>absurd (HPN.out.rb _ h).2 (Nat.not_lt.2 LKP_b114)⟩
 have l_b120:=B120.lt;replace B120:=B120.keep kf ⟨B120.lt,fun h=>absurd (HPN.out.rb _ h).2 (Nat.not_lt.2 LKP_b120)⟩
 replace K1:=K1.trans (kb.less fun g hg=>Nat.lt_of_lt_of_le hg HWB)
 clear KP
 have N_b109:=far_new l_b109 hgq;clear l_b109
 have N_b114:=far_new l_b114 hgq;clear l_b114
 have N_b120:=far_new l_b120 hgq;clear l_b120
 clear kb kf hgq;have kk:=trivial
 clear kk
 have HPO:=Lib.hid hpo;clear hpo HPN
 have KP:=Keep.refl (fun g=>g < w125.heap.size) w125
 refine ⟨_,rfl,fun a126 e=>?_⟩
 clear h25;have h26:=pt_ F e;replace F:=pu_ F e;clear e
 refine sv_ gq22_6_2 (ym_ rfl h26) fun a127 e=>?_
 clear h26;have h24:=pt_ F e;replace F:=pu_ F e;clear e
 refine sv_ gq22_6_3 (ye20_ rfl h24) fun a128 e=>?_
 have h27:=pt_ F e;replace F:=pu_ F e;replace h24:=so_ e h24;clear e
 refine sv_ gq22_6_4 (ye21_ rfl h24) fun a129 e=>?_
 clear h24;have h28:=pt_ F e;replace F:=pu_ F e;replace h27:=so_ e h27;clear e
 refine sv_ gq22_6_5 (ya_ rfl h27) fun a130 e=>?_
 clear h27;have h4:=pt_ F e;replace F:=pu_ F e;replace h28:=so_ e h28;clear e
 refine sv_ gq22_6_6 (ya_ rfl h28) fun a131 e=>?_
 clear h28;have h5:=pt_ F e;replace F:=pu_ F e;replace h4:=so_ e h4;clear e
 refine st_end ?_
 replace h0:=F.of h0;replace h1:=F.of h1;replace h2:=F.of h2;replace h3:=F.of h3;have R:=F.r;clear F
 change (cq22_18).wp _ _ _ _
 refine wp_seq (x:=cq22_19) (y:=cq22_20) ?_
 change (Code.region 7 Oq22_7 true).wp _ _ _ _
 have D134:=B109
 have D135:=B114
 have D136:=B120
 have K132:=(Keep.refl (fun g=>g=b114∨g=b120) w125).drew
 have EK1:=K1
 have EKP:=KP
 refine dr_in (S:=(fun W=>Keep (fun g=>g=b114∨g=b120) w125 W)) (n:=12) (l:=lb_ 12 0) (by kernel_rfl) K132 rfl (by kernel_rfl) ?_
 replace K1:=K1.drew
 replace KP:=KP.drew
 replace B109:=B109.drew
 replace B114:=B114.drew
 replace B120:=B120.drew
 generalize w125.drew=w133 at K132 K1 KP B109 B114 B120 ⊢
 have F:FE_ _ [] a131 a131:=⟨R,Ag_.refl _⟩;clear R
 refine dt_ (i:=0) (l':=(lb_ 12 1)) gq22_7_0 rfl nsq22_7 (wanted_free rfl) K132 (fun _ _=>(ym_ rfl (F.of h1))) fun a137 e=>?_
 have h29:=pt_ F e;replace F:=pu_ F e;clear e
 refine dt_ (i:=1) (l':=(lb_ 12 3)) gq22_7_1 rfl nsq22_7 (wanted_free rfl) K132 (fun W7 hS=>(yl4_ rfl (F.of h2) (D135.keep hS (.inl rfl)))) fun a138 e=>?_
 have h30:=pt_ F e;replace F:=pu_ F e;replace h29:=so_ e h29;clear e
 refine dt_ (i:=3) (l':=(lb_ 12 11)) gq22_7_3 rfl nsq22_7 (wanted_free rfl) K132 (fun _ _=>(ym_ rfl (F.of h1))) fun a139 e=>?_
 have h32:=pt_ F e;replace F:=pu_ F e;replace h29:=so_ e h29;replace h30:=so_ e h30;clear e
 refine dt_ (i:=4) (l':=(lb_ 12 27)) gq22_7_4 rfl nsq22_7 (wanted_free rfl) K132 (fun W7 hS=>(yl4_ rfl (F.of h3) (D136.keep hS (.inr rfl)))) fun a140 e=>?_
 have h33:=pt_ F e;replace F:=pu_ F e;replace h29:=so_ e h29;replace h30:=so_ e h30;replace h32:=so_ e h32;clear e
 refine dt_ (i:=6) (l':=(lb_ 12 91)) gq22_7_6 rfl nsq22_7 (wanted_free rfl) K132 (fun _ _=>(ym_ rfl (F.of h1))) fun a141 e=>?_
 have h35:=pt_ F e;replace F:=pu_ F e;replace h29:=so_ e h29;replace h30:=so_ e h30;replace h32:=so_ e h32;replace h33:=so_ e h33;clear e
 refine dr_only (i:=2) (fuel:=6) (by kernel_rfl) ?_
 have Y:(execOp a141.eval oq22_7_2).run Tryz.prog w133=.ok (.enter 11 #[.pointer (some ⟨pa,0,none⟩),.int .i64 1,.agg #[.int .i64 4,.string (⟨#[97]⟩),.int .i64 0,.slice (some ⟨b109,0,none⟩) 1 1]]) w133:=by unfold oq22_7_2;go_simp
 have hcall:Calls Tryz.prog 11 #[.pointer (some ⟨pa,0,none⟩),.int .i64 1,.agg #[.int .i64 4,.string (⟨#[97]⟩),.int .i64 0,.slice (some ⟨b109,0,none⟩) 1 1]] w133 _:=send1_yes (t:=pA1) (HPO.out.on KP) (tm_1 B109 (by decide) (by decide)) rA1 (by show ((0:Nat):Int) < 2;decide)
 refine dr_call (l':=(lb_ 12 95)) gq22_7_2 rfl (by kernel_rfl) (wanted_free rfl) Y ((hcall).mono ?_);clear Y
 rintro e9 w142 ⟨Rb,vaa,aa,caa,rfl,hpo,-,hv,kb,kf⟩
 have l_b109:=B109.lt;replace B109:=B109.keep kf ⟨B109.lt,N_b109.1,N_b109.2⟩
 have l_b114:=B114.lt;replace B114:=B114.keep kf ⟨B114.lt,N_b114.1,N_b114.2⟩
 have l_b120:=B120.lt;replace B120:=B120.keep kf ⟨B120.lt,N_b120.1,N_b120.2⟩
 replace K1:=K1.trans (kb.less fun g hg=>Nat.lt_of_lt_of_le hg HWB)
 clear KP
 replace K132:=K132.trans (kf.at_ fun g hl hg=>by rcases hg with rfl | rfl;exact ⟨hl,N_b114.1,N_b114.2⟩;exact ⟨hl,N_b120.1,N_b120.2⟩)
 replace N_b109:=far_send N_b109 l_b109 hv;clear l_b109
 replace N_b114:=far_send N_b114 l_b114 hv;clear l_b114
 replace N_b120:=far_send N_b120 l_b120 hv;clear l_b120
 clear hcall kb kf hv;have kk:=trivial
 clear kk
 have HPO2:=Lib.hid hpo;clear hpo HPO;have HPO:=HPO2;clear HPO2
 have KP:=Keep.refl (fun g=>g < w142.heap.size) w142
 refine ⟨_,rfl,K132,fun a143 e=>?_⟩
 clear h29 h30;have h31:=pt_ F e;replace F:=pu_ F e;replace h32:=so_ e h32;replace h33:=so_ e h33;replace h35:=so_ e h35;clear e
 refine dr_only (i:=5) (fuel:=5) (by kernel_rfl) ?_
 have Y:(execOp a143.eval oq22_7_5).run Tryz.prog w142=.ok (.enter 11 #[.pointer (some ⟨pa,0,none⟩),.int .i64 1,.agg #[.int .i64 3,.string (⟨#[98]⟩),.int .i64 0,.slice none 0 0]]) w142:=by unfold oq22_7_5;go_simp
 have hcall:Calls Tryz.prog 11 #[.pointer (some ⟨pa,0,none⟩),.int .i64 1,.agg #[.int .i64 3,.string (⟨#[98]⟩),.int .i64 0,.slice none 0 0]] w142 _:=send1_yes (t:=pB) (HPO.out.on KP) (tm_A (by decide)) rB (by show ((1:Nat):Int) < 2;decide)
 refine dr_call (l':=(lb_ 12 127)) gq22_7_5 rfl (by kernel_rfl) (wanted_free rfl) Y ((hcall).mono ?_);clear Y
 rintro e9 w144 ⟨Rc,vab,ab,cab,rfl,hpo,-,hv,kb,kf⟩
 have l_b109:=B109.lt;replace B109:=B109.keep kf ⟨B109.lt,N_b109.1,N_b109.2⟩
 have l_b114:=B114.lt;replace B114:=B114.keep kf ⟨B114.lt,N_b114.1,N_b114.2⟩
 have l_b120:=B120.lt;replace B120:=B120.keep kf ⟨B120.lt,N_b120.1,N_b120.2⟩
 replace K1:=K1.trans (kb.less fun g hg=>Nat.lt_of_lt_of_le hg HWB)
 replace K132:=K132.trans (kf.at_ fun g hl hg=>by rcases hg with rfl | rfl;exact ⟨hl,N_b114.1,N_b114.2⟩;exact ⟨hl,N_b120.1,N_b120.2⟩)
 clear KP
 replace N_b109:=far_send N_b109 l_b109 hv;clear l_b109
 replace N_b114:=far_send N_b114 l_b114 hv;clear l_b114
 replace N_b120:=far_send N_b120 l_b120 hv;clear l_b120
 clear hcall kb kf hv;have kk:=trivial
 clear kk
 have HPO2:=Lib.hid hpo;clear hpo HPO;have HPO:=HPO2;clear HPO2
 have KP:=Keep.refl (fun g=>g < w144.heap.size) w144
 refine ⟨_,rfl,K132,fun a145 e=>?_⟩
 clear h32 h33;have h34:=pt_ F e;replace F:=pu_ F e;replace h31:=so_ e h31;replace h35:=so_ e h35;clear e
 refine dr_only (i:=7) (fuel:=4) (by kernel_rfl) ?_
 have Y:(execOp a145.eval oq22_7_7).run Tryz.prog w144=.ok (.enter 12 #[.string (⟨#[99]⟩)]) w144:=by unfold oq22_7_7;go_simp
 have hc:Calls Tryz.prog 12 #[.string (⟨#[99]⟩)] w144 (fun e w'=>e=.returned (.agg #[.int .i64 3,.string (⟨#[99]⟩),.int .i64 0,.slice none 0 0])∧Keep (fun g=>g < w144.heap.size) w144 w'):=refA_any w144 [99]
 refine dr_call (l':=(lb_ 12 255)) gq22_7_7 rfl (by kernel_rfl) (wanted_free rfl) Y ((hc).mono ?_);clear Y
 rintro e9 w146 ⟨rfl,kk⟩
 replace K1:=keep_onto K1 kk
 replace K132:=K132.trans kk.all
 replace KP:=keep_onto KP kk
 replace B109:=blk_on B109 kk
 replace B114:=blk_on B114 kk
 replace B120:=blk_on B120 kk
 clear hc
 clear kk
 refine ⟨_,rfl,K132,fun a147 e=>?_⟩
 have h36:=pt_ F e;replace F:=pu_ F e;replace h31:=so_ e h31;replace h34:=so_ e h34;replace h35:=so_ e h35;clear e
 refine dr_only (i:=8) (fuel:=3) (by kernel_rfl) ?_
 have Y:(execOp a147.eval oq22_7_8).run Tryz.prog w146=.ok (.enter 11 #[.pointer (some ⟨pa,0,none⟩),.int .i64 1,.agg #[.int .i64 3,.string (⟨#[99]⟩),.int .i64 0,.slice none 0 0]]) w146:=by unfold oq22_7_8;go_simp
 have hcall:Calls Tryz.prog 11 #[.pointer (some ⟨pa,0,none⟩),.int .i64 1,.agg #[.int .i64 3,.string (⟨#[99]⟩),.int .i64 0,.slice none 0 0]] w146 _:=send1_no (t:=pC) (er:=141) (HPO.out.on KP) (tm_A (by decide)) (.inr ⟨rC,rfl,by show (2:Int) ≤ ((2:Nat):Int);decide⟩)
 refine dr_call (l':=(lb_ 12 511)) gq22_7_8 rfl (by kernel_rfl) (wanted_free rfl) Y ((hcall).mono ?_);clear Y
 rintro e9 w148 ⟨rfl,kk⟩
 replace K1:=keep_onto K1 kk
 replace K132:=K132.trans kk.all
 replace KP:=keep_onto KP kk
 replace B109:=blk_on B109 kk
 replace B114:=blk_on B114 kk
 replace B120:=blk_on B120 kk
 clear hcall
 clear kk
 refine ⟨_,rfl,K132,fun a149 e=>?_⟩
 clear h35 h36;have h37:=pt_ F e;replace F:=pu_ F e;replace h31:=so_ e h31;replace h34:=so_ e h34;clear e
 refine dt_ (i:=9) (l':=(lb_ 12 1023)) gq22_7_9 rfl nsq22_7 (wanted_free rfl) K132 (fun _ _=>(ya_ rfl h31)) fun a150 e=>?_
 clear h31;have h6:=pt_ F e;replace F:=pu_ F e;replace h34:=so_ e h34;replace h37:=so_ e h37;clear e
 refine dt_ (i:=10) (l':=(lb_ 12 2047)) gq22_7_10 rfl nsq22_7 (wanted_free rfl) K132 (fun _ _=>(ya_ rfl h34)) fun a151 e=>?_
 clear h34;have h7:=pt_ F e;replace F:=pu_ F e;replace h6:=so_ e h6;replace h37:=so_ e h37;clear e
 refine dt_ (i:=11) (l':=(lb_ 12 4095)) gq22_7_11 rfl nsq22_7 (wanted_free rfl) K132 (fun _ _=>(ya_ rfl h37)) fun a152 e=>?_
 clear h37;have h8:=pt_ F e;replace F:=pu_ F e;replace h6:=so_ e h6;replace h7:=so_ e h7;clear e
 refine dr_end (by kernel_rfl) ?_
 replace h0:=F.of h0;replace h1:=F.of h1;replace h2:=F.of h2;replace h3:=F.of h3;replace h4:=F.of h4;replace h5:=F.of h5;have R:=F.r;clear F
 clear K132 EK1 EKP D134 D135 D136
 change (cq22_20).wp _ _ _ _
 refine wp_seq (x:=cq22_21) (y:=cq22_22) ?_
 change (Code.region 8 Oq22_8 false).wp _ _ _ _
 refine reg_in (l:=[0,1,2,3,4,5,6,7,8]) rfl ?_
 have F:FE_ _ [] a152 a152:=⟨R,Ag_.refl _⟩;clear R
 refine sv_ gq22_8_0 (ym_ rfl (F.of h1)) fun a153 e=>?_
 have h39:=pt_ F e;replace F:=pu_ F e;clear e
 refine sv_ gq22_8_1 (yl4_ rfl (F.of h3) B120) fun a154 e=>?_
 have h40:=pt_ F e;replace F:=pu_ F e;replace h39:=so_ e h39;clear e
 have Y:(execOp a154.eval oq22_8_2).run Tryz.prog w148=.ok (.enter 17 #[.pointer (some ⟨pa,0,none⟩),.int .i64 1,.agg #[.int .i64 3,.string (⟨#[98]⟩),.int .i64 0,.slice none 0 0]]) w148:=by unfold oq22_8_2;go_simp
 have HQ:OneQ BB Rc w148 pa mb (min (max 2 1) 64) [(pA1,aa,caa),(pB,ab,cab)] gq vab:=by have h:=HPO.out.on KP;simp only [List.nil_append,List.cons_append,mA1,mB] at h;exact h
 have hcall:Calls Tryz.prog 17 #[.pointer (some ⟨pa,0,none⟩),.int .i64 1,.agg #[.int .i64 3,.string (⟨#[98]⟩),.int .i64 0,.slice none 0 0]] w148 (fun e w'=>∃ v':Value,e=.returned (.tuple #[.agg #[.int .i64 3,.string ⟨#[98]⟩,.int .i64 0,.slice ab 0 cab],.int .i64 0])∧OneQ BB Rc w' pa mb (min (max 2 1) 64) [(pA1,aa,caa)] gq v'∧(∀ b,v'.ownBlock=some b→vab.ownBlock=some b)∧Keep (fun b=>b < BB) w148 w'∧Keep (fun b=>b < w148.heap.size∧b ≠ gq∧vab.ownBlock ≠ some b) w148 w'):=Calls.mono (get1_yes (t:=pB) (j:=1) (p:=(pB,ab,cab)) HQ (tm_A (by decide)) rB rfl fBB (before1 nA1B)) fun e w' h=>by obtain ⟨v',h1,h2,-,h3,h4,h5⟩:=h;exact ⟨v',h1,h2,h3,h4,h5⟩
 refine st_call gq22_8_2 rfl (wanted_free rfl) Y ((hcall).mono ?_);clear Y
 rintro e9 w155 ⟨vg,rfl,hpo,hv,kb,kf⟩
 clear B120
 have l_b109:=B109.lt;replace B109:=B109.keep kf ⟨B109.lt,N_b109.1,N_b109.2⟩
 have l_b114:=B114.lt;replace B114:=B114.keep kf ⟨B114.lt,N_b114.1,N_b114.2⟩
 replace K1:=K1.trans (kb.less fun g hg=>Nat.lt_of_lt_of_le hg HWB)
 clear KP
 replace N_b109:=far_get N_b109 hv;clear l_b109
 replace N_b114:=far_get N_b114 hv;clear l_b114
 clear hcall kb kf hv HQ;have kk:=trivial
 clear kk
 have HPO2:Hid (OneQ BB Rc w155 pa mb (min (max 2 1) 64) [(pA1,aa,caa)] gq vg):=Lib.hid hpo;clear hpo HPO;have HPO:=HPO2;clear HPO2
 have KP:=Keep.refl (fun g=>g < w155.heap.size) w155
 refine ⟨_,rfl,fun a156 e=>?_⟩
 clear h39 h40;have h41:=pt_ F e;replace F:=pu_ F e;clear e
 refine sv_ gq22_8_3 (ym_ rfl h41) fun a157 e=>?_
 clear h41;have h38:=pt_ F e;replace F:=pu_ F e;clear e
 refine sv_ gq22_8_4 (ye20_ rfl h38) fun a158 e=>?_
 have h42:=pt_ F e;replace F:=pu_ F e;replace h38:=so_ e h38;clear e
 refine sv_ gq22_8_5 (ye21_ rfl h38) fun a159 e=>?_
 clear h38;have h43:=pt_ F e;replace F:=pu_ F e;replace h42:=so_ e h42;clear e
 have Y:(execOp a159.eval oq22_8_6).run Tryz.prog w155=.ok (.value (.pointer (some ⟨w155.heap.size,0,none⟩))) (w155.alloc (.cells #[.int .i64 0,.string (⟨#[]⟩),.int .i64 0,.slice none 0 0] 28)):=by unfold oq22_8_6;go_simp
 have B160:=Blk.new w155 28 #[.int .i64 0,.string (⟨#[]⟩),.int .i64 0,.slice none 0 0]
 obtain ⟨w161,hw⟩:∃ x,x=w155.alloc (.cells #[.int .i64 0,.string (⟨#[]⟩),.int .i64 0,.slice none 0 0] 28):=⟨_,rfl⟩;rw [← hw] at Y B160
 obtain ⟨b160,hb⟩:∃ x,x=w155.heap.size:=⟨_,rfl⟩;rw [← hb] at Y B160
 have Nb109_b160:=nb_ hb B109;replace B109:=ba_ hw B109;have Nb114_b160:=nb_ hb B114;replace B114:=ba_ hw B114;have LK1_b160:=lk_ hb K1;replace K1:=ka_ hw K1;have LKP_b160:=lk_ hb KP;replace KP:=ka_ hw KP;clear hw hb
 refine sv_ gq22_8_6 Y fun a162 e=>?_;clear Y
 have h9:=pt_ F e;replace F:=pu_ F e;replace h42:=so_ e h42;replace h43:=so_ e h43;clear e
 obtain ⟨w163,Y,hk,hB⟩:=ys4_ (o:=oq22_8_7) rfl h9 h42 B160
 replace K1:=kx_ hk K1 (Nat.not_lt.2 LK1_b160);replace KP:=kx_ hk KP (Nat.not_lt.2 LKP_b160);replace B109:=bx_ hk B109 Nb109_b160;replace B114:=bx_ hk B114 Nb114_b160;clear B160;have B160:=hB;clear hB hk
 refine st_skip gq22_8_7 rfl (wanted_free rfl) Y ?_;clear Y
 refine sv_ gq22_8_8 (ya_ rfl h43) fun a164 e=>?_
 clear h42 h43;have h10:=pt_ F e;replace F:=pu_ F e;replace h9:=so_ e h9;clear e
 refine st_end ?_
 replace h0:=F.of h0;replace h1:=F.of h1;replace h2:=F.of h2;clear h3;replace h4:=F.of h4;replace h5:=F.of h5;replace h6:=F.of h6;replace h7:=F.of h7;replace h8:=F.of h8;have R:=F.r;clear F
 change (cq22_22).wp _ _ _ _
 refine wp_seq (x:=cq22_23) (y:=cq22_24) ?_
 change (Code.region 9 Oq22_9 false).wp _ _ _ _
 refine reg_in (l:=[0,1,2,3,4,5,6,7,8]) rfl ?_
 have F:FE_ _ [] a164 a164:=⟨R,Ag_.refl _⟩;clear R
 refine sv_ gq22_9_0 (ym_ rfl (F.of h1)) fun a165 e=>?_
 have h45:=pt_ F e;replace F:=pu_ F e;clear e
 have Y:(execOp a165.eval oq22_9_1).run Tryz.prog w163=.ok (.enter 19 #[.int .i64 1]) w163:=by unfold oq22_9_1;go_simp
 have hc:Calls Tryz.prog 19 #[.int .i64 1] w163 (fun e w'=>e=.returned (.agg #[.int .i64 1,.string (⟨#[]⟩),.int .i64 1,.slice none 0 0])∧Keep (fun g=>g < w163.heap.size) w163 w'):=refV_any w163 1
 refine st_call gq22_9_1 rfl (wanted_free rfl) Y ((hc).mono ?_);clear Y
 rintro e9 w166 ⟨rfl,kk⟩
 replace K1:=keep_onto K1 kk
 replace KP:=keep_onto KP kk
 replace B109:=blk_on B109 kk
 replace B114:=blk_on B114 kk
 replace B160:=blk_on B160 kk
 clear hc
 clear kk
 refine ⟨_,rfl,fun a167 e=>?_⟩
 have h46:=pt_ F e;replace F:=pu_ F e;replace h45:=so_ e h45;clear e
 have Y:(execOp a167.eval oq22_9_2).run Tryz.prog w166=.ok (.enter 18 #[.pointer (some ⟨pa,0,none⟩),.int .i64 1,.agg #[.int .i64 1,.string (⟨#[]⟩),.int .i64 1,.slice none 0 0]]) w166:=by unfold oq22_9_2;go_simp
 have hcall:Calls Tryz.prog 18 #[.pointer (some ⟨pa,0,none⟩),.int .i64 1,.agg #[.int .i64 1,.string (⟨#[]⟩),.int .i64 1,.slice none 0 0]] w166 (fun e w'=>∃ a' c',e=.returned (.tuple #[.agg #[.int .i64 4,.string ⟨#[97]⟩,.int .i64 0,.slice a' 1 c'],.int .i64 0])∧Fr 0 (fun _=>False) w' w166.heap.size w'.heap.size pA1 a' c'∧Keep (fun g=>g < w166.heap.size) w166 w'):=peek1_yes (t:=pV) (j:=0) (p:=(pA1,aa,caa)) (HPO.out.on KP) (tm_V (by decide)) rV rfl (fit_var (HPO.out.msg _ (by simp)) 1) (fun i x hi hx=>absurd hi (Nat.not_lt_zero _))
 refine st_call gq22_9_2 rfl (wanted_free rfl) Y ((hcall).mono ?_);clear Y
 rintro e9 w168 ⟨ay,cy,rfl,hy,kk⟩
 replace K1:=keep_onto K1 kk
 replace KP:=keep_onto KP kk
 replace B109:=blk_on B109 kk
 replace B114:=blk_on B114 kk
 replace B160:=blk_on B160 kk
 clear hcall
 clear kk
 have HY:=Lib.hid (hy.at_ (Nat.zero_le _));clear hy
 have KY:=Keep.refl (fun g=>g < w168.heap.size) w168
 refine ⟨_,rfl,fun a169 e=>?_⟩
 clear h45 h46;have h47:=pt_ F e;replace F:=pu_ F e;clear e
 refine sv_ gq22_9_3 (ym_ rfl h47) fun a170 e=>?_
 clear h47;have h44:=pt_ F e;replace F:=pu_ F e;clear e
 refine sv_ gq22_9_4 (ye20_ rfl h44) fun a171 e=>?_
 have h48:=pt_ F e;replace F:=pu_ F e;replace h44:=so_ e h44;clear e
 refine sv_ gq22_9_5 (ye21_ rfl h44) fun a172 e=>?_
 clear h44;have h49:=pt_ F e;replace F:=pu_ F e;replace h48:=so_ e h48;clear e
 have Y:(execOp a172.eval oq22_9_6).run Tryz.prog w168=.ok (.value (.pointer (some ⟨w168.heap.size,0,none⟩))) (w168.alloc (.cells #[.int .i64 0,.string (⟨#[]⟩),.int .i64 0,.slice none 0 0] 28)):=by unfold oq22_9_6;go_simp
 have B173:=Blk.new w168 28 #[.int .i64 0,.string (⟨#[]⟩),.int .i64 0,.slice none 0 0]
 obtain ⟨w174,hw⟩:∃ x,x=w168.alloc (.cells #[.int .i64 0,.string (⟨#[]⟩),.int .i64 0,.slice none 0 0] 28):=⟨_,rfl⟩;rw [← hw] at Y B173
 obtain ⟨b173,hb⟩:∃ x,x=w168.heap.size:=⟨_,rfl⟩;rw [← hb] at Y B173
 have Nb109_b173:=nb_ hb B109;replace B109:=ba_ hw B109;have Nb114_b173:=nb_ hb B114;replace B114:=ba_ hw B114;have Nb160_b173:=nb_ hb B160;replace B160:=ba_ hw B160;have LK1_b173:=lk_ hb K1;replace K1:=ka_ hw K1;have LKP_b173:=lk_ hb KP;replace KP:=ka_ hw KP;have LKY_b173:=lk_ hb KY;replace KY:=ka_ hw KY;clear hw hb
 refine sv_ gq22_9_6 Y fun a175 e=>?_;clear Y
 have h11:=pt_ F e;replace F:=pu_ F e;replace h48:=so_ e h48;replace h49:=so_ e h49;clear e
 obtain ⟨w176,Y,hk,hB⟩:=ys4_ (o:=oq22_9_7) rfl h11 h48 B173
 replace K1:=kx_ hk K1 (Nat.not_lt.2 LK1_b173);replace KP:=kx_ hk KP (Nat.not_lt.2 LKP_b173);replace KY:=kx_ hk KY (Nat.not_lt.2 LKY_b173);replace B109:=bx_ hk B109 Nb109_b173;replace B114:=bx_ hk B114 Nb114_b173;replace B160:=bx_ hk B160 Nb160_b173;clear B173;have B173:=hB;clear hB hk
 refine st_skip gq22_9_7 rfl (wanted_free rfl) Y ?_;clear Y
 refine sv_ gq22_9_8 (ya_ rfl h49) fun a177 e=>?_
 clear h48 h49;have h12:=pt_ F e;replace F:=pu_ F e;replace h11:=so_ e h11;clear e
 refine st_end ?_
 replace h0:=F.of h0;replace h1:=F.of h1;replace h2:=F.of h2;replace h4:=F.of h4;replace h5:=F.of h5;replace h6:=F.of h6;replace h7:=F.of h7;replace h8:=F.of h8;replace h9:=F.of h9;replace h10:=F.of h10;have R:=F.r;clear F
 change (cq22_24).wp _ _ _ _
 refine wp_seq (x:=cq22_25) (y:=cq22_26) ?_
 change (Code.region 10 Oq22_10 false).wp _ _ _ _
 refine reg_in (l:=[0,1,2,3,4,5,6,7,8,9,10]) rfl ?_
 have F:FE_ _ [] a177 a177:=⟨R,Ag_.refl _⟩;clear R
 refine sv_ gq22_10_0 (ym_ rfl (F.of h1)) fun a178 e=>?_
 have h51:=pt_ F e;replace F:=pu_ F e;clear e
 have Y:(execOp a178.eval oq22_10_1).run Tryz.prog w176=.ok (.enter 16 #[.int .i64 2]) w176:=by unfold oq22_10_1;go_simp
 have hc:Calls Tryz.prog 16 #[.int .i64 2] w176 (fun e w'=>e=.returned (.agg #[.int .i64 2,.string (⟨#[]⟩),.int .i64 2,.slice none 0 0])∧Keep (fun g=>g < w176.heap.size) w176 w'):=refN_any w176 2
 refine st_call gq22_10_1 rfl (wanted_free rfl) Y ((hc).mono ?_);clear Y
 rintro e9 w179 ⟨rfl,kk⟩
 replace K1:=keep_onto K1 kk
 replace KP:=keep_onto KP kk
 replace KY:=keep_onto KY kk
 replace B109:=blk_on B109 kk
 replace B114:=blk_on B114 kk
 replace B160:=blk_on B160 kk
 replace B173:=blk_on B173 kk
 clear hc
 clear kk
 refine ⟨_,rfl,fun a180 e=>?_⟩
 have h52:=pt_ F e;replace F:=pu_ F e;replace h51:=so_ e h51;clear e
 have Y:(execOp a180.eval oq22_10_2).run Tryz.prog w179=.ok (.value (.slice (some ⟨w179.heap.size,0,none⟩) 1 1)) (w179.alloc (.cells #[.int .i64 2,.string (⟨#[]⟩),.int .i64 2,.slice none 0 0] 28)):=by unfold oq22_10_2;go_simp
 have B181:=Blk.new w179 28 #[.int .i64 2,.string (⟨#[]⟩),.int .i64 2,.slice none 0 0]
 obtain ⟨w182,hw⟩:∃ x,x=w179.alloc (.cells #[.int .i64 2,.string (⟨#[]⟩),.int .i64 2,.slice none 0 0] 28):=⟨_,rfl⟩;rw [← hw] at Y B181
 obtain ⟨b181,hb⟩:∃ x,x=w179.heap.size:=⟨_,rfl⟩;rw [← hb] at Y B181
 have Nb109_b181:=nb_ hb B109;replace B109:=ba_ hw B109;have Nb114_b181:=nb_ hb B114;replace B114:=ba_ hw B114;have Nb160_b181:=nb_ hb B160;replace B160:=ba_ hw B160;have Nb173_b181:=nb_ hb B173;replace B173:=ba_ hw B173;have LK1_b181:=lk_ hb K1;replace K1:=ka_ hw K1;have LKP_b181:=lk_ hb KP;replace KP:=ka_ hw KP;have LKY_b181:=lk_ hb KY;replace KY:=ka_ hw KY;clear hw hb
 refine sv_ gq22_10_2 Y fun a183 e=>?_;clear Y
 clear h52;have h53:=pt_ F e;replace F:=pu_ F e;replace h51:=so_ e h51;clear e
 have Y:(execOp a183.eval oq22_10_3).run Tryz.prog w182=.ok (.enter 15 #[.string (⟨#[97]⟩),.slice (some ⟨b181,0,none⟩) 1 1]) w182:=by unfold oq22_10_3;go_simp
 have hc:Calls Tryz.prog 15 #[.string (⟨#[97]⟩),.slice (some ⟨b181,0,none⟩) 1 1] w182 (fun e w'=>e=.returned (.agg #[.int .i64 4,.string (⟨#[97]⟩),.int .i64 0,.slice (some ⟨b181,0,none⟩) 1 1])∧Keep (fun g=>g < w182.heap.size) w182 w'):=refC_any w182 [97] [.node 2 [] 2 []] (some ⟨b181,0,none⟩) 1
 refine st_call gq22_10_3 rfl (wanted_free rfl) Y ((hc).mono ?_);clear Y
 rintro e9 w184 ⟨rfl,kk⟩
 replace K1:=keep_onto K1 kk
 replace KP:=keep_onto KP kk
 replace KY:=keep_onto KY kk
 replace B109:=blk_on B109 kk
 replace B114:=blk_on B114 kk
 replace B160:=blk_on B160 kk
 replace B173:=blk_on B173 kk
 replace B181:=blk_on B181 kk
 clear hc
 clear kk
 refine ⟨_,rfl,fun a185 e=>?_⟩
 clear h53;have h54:=pt_ F e;replace F:=pu_ F e;replace h51:=so_ e h51;clear e
 have Y:(execOp a185.eval oq22_10_4).run Tryz.prog w184=.ok (.enter 17 #[.pointer (some ⟨pa,0,none⟩),.int .i64 1,.agg #[.int .i64 4,.string (⟨#[97]⟩),.int .i64 0,.slice (some ⟨b181,0,none⟩) 1 1]]) w184:=by unfold oq22_10_4;go_simp
 have hcall:Calls Tryz.prog 17 #[.pointer (some ⟨pa,0,none⟩),.int .i64 1,.agg #[.int .i64 4,.string (⟨#[97]⟩),.int .i64 0,.slice (some ⟨b181,0,none⟩) 1 1]] w184 _:=get1_no (t:=pA2) (HPO.out.on KP) (tm_1 B181 (by decide) (by decide)) rA2 (fun p hp=>by rw [List.mem_singleton.1 hp];exact nA1A2)
 refine st_call gq22_10_4 rfl (wanted_free rfl) Y ((hcall).mono ?_);clear Y
 rintro e9 w186 ⟨rfl,kk⟩
 replace K1:=keep_onto K1 kk
 replace KP:=keep_onto KP kk
 replace KY:=keep_onto KY kk
 replace B109:=blk_on B109 kk
 replace B114:=blk_on B114 kk
 replace B160:=blk_on B160 kk
 replace B173:=blk_on B173 kk
 replace B181:=blk_on B181 kk
 clear hcall
 clear kk
 refine ⟨_,rfl,fun a187 e=>?_⟩
 clear h51 h54;have h55:=pt_ F e;replace F:=pu_ F e;clear e
 refine sv_ gq22_10_5 (ym_ rfl h55) fun a188 e=>?_
 clear h55;have h50:=pt_ F e;replace F:=pu_ F e;clear e
 refine sv_ gq22_10_6 (ye20_ rfl h50) fun a189 e=>?_
 have h56:=pt_ F e;replace F:=pu_ F e;replace h50:=so_ e h50;clear e
 refine sv_ gq22_10_7 (ye21_ rfl h50) fun a190 e=>?_
 clear h50;have h57:=pt_ F e;replace F:=pu_ F e;replace h56:=so_ e h56;clear e
 have Y:(execOp a190.eval oq22_10_8).run Tryz.prog w186=.ok (.value (.pointer (some ⟨w186.heap.size,0,none⟩))) (w186.alloc (.cells #[.int .i64 0,.string (⟨#[]⟩),.int .i64 0,.slice none 0 0] 28)):=by unfold oq22_10_8;go_simp
 have B191:=Blk.new w186 28 #[.int .i64 0,.string (⟨#[]⟩),.int .i64 0,.slice none 0 0]
 obtain ⟨w192,hw⟩:∃ x,x=w186.alloc (.cells #[.int .i64 0,.string (⟨#[]⟩),.int .i64 0,.slice none 0 0] 28):=⟨_,rfl⟩;rw [← hw] at Y B191
 obtain ⟨b191,hb⟩:∃ x,x=w186.heap.size:=⟨_,rfl⟩;rw [← hb] at Y B191
 have Nb109_b191:=nb_ hb B109;replace B109:=ba_ hw B109;have Nb114_b191:=nb_ hb B114;replace B114:=ba_ hw B114;have Nb160_b191:=nb_ hb B160;replace B160:=ba_ hw B160;have Nb173_b191:=nb_ hb B173;replace B173:=ba_ hw B173;have Nb181_b191:=nb_ hb B181;replace B181:=ba_ hw B181;have LK1_b191:=lk_ hb K1;replace K1:=ka_ hw K1;have LKP_b191:=lk_ hb KP;replace KP:=ka_ hw KP;have LKY_b191:=lk_ hb KY;replace KY:=ka_ hw KY;clear hw hb
 refine sv_ gq22_10_8 Y fun a193 e=>?_;clear Y
 have h13:=pt_ F e;replace F:=pu_ F e;replace h56:=so_ e h56;replace h57:=so_ e h57;clear e
 obtain ⟨w194,Y,hk,hB⟩:=ys4_ (o:=oq22_10_9) rfl h13 h56 B191
 replace K1:=kx_ hk K1 (Nat.not_lt.2 LK1_b191);replace KP:=kx_ hk KP (Nat.not_lt.2 LKP_b191);replace KY:=kx_ hk KY (Nat.not_lt.2 LKY_b191);replace B109:=bx_ hk B109 Nb109_b191;replace B114:=bx_ hk B114 Nb114_b191;replace B160:=bx_ hk B160 Nb160_b191;replace B173:=bx_ hk B173 Nb173_b191;replace B181:=bx_ hk B181 Nb181_b191;clear B191;have B191:=hB;clear hB hk
 refine st_skip gq22_10_9 rfl (wanted_free rfl) Y ?_;clear Y
 refine sv_ gq22_10_10 (ya_ rfl h57) fun a195 e=>?_
 clear h13 h56 h57;have h14:=pt_ F e;replace F:=pu_ F e;clear e
 refine st_end ?_
 replace h0:=F.of h0;replace h1:=F.of h1;replace h2:=F.of h2;replace h4:=F.of h4;replace h5:=F.of h5;replace h6:=F.of h6;replace h7:=F.of h7;replace h8:=F.of h8;replace h9:=F.of h9;replace h10:=F.of h10;replace h11:=F.of h11;replace h12:=F.of h12;have R:=F.r;clear F
 change (cq22_26).wp _ _ _ _
 refine wp_seq (x:=cq22_27) (y:=cq22_28) ?_
 change (Code.region 11 Oq22_11 false).wp _ _ _ _
 refine reg_in (l:=[0,1,2,3,4,5,6]) rfl ?_
 have F:FE_ _ [] a195 a195:=⟨R,Ag_.refl _⟩;clear R
 refine sv_ gq22_11_0 (ym_ rfl (F.of h1)) fun a196 e=>?_
 have h59:=pt_ F e;replace F:=pu_ F e;clear e
 have Y:(execOp a196.eval oq22_11_1).run Tryz.prog w194=.ok (.enter 10 #[.pointer (some ⟨pa,0,none⟩),.int .i64 1]) w194:=by unfold oq22_11_1;go_simp
 refine st_call gq22_11_1 rfl (wanted_free rfl) Y ((len1 (HPO.out.on KP)).mono ?_);clear Y
 rintro e9 w197 ⟨rfl,kk⟩
 replace K1:=keep_onto K1 kk
 replace KP:=keep_onto KP kk
 replace KY:=keep_onto KY kk
 replace B109:=blk_on B109 kk
 replace B114:=blk_on B114 kk
 replace B160:=blk_on B160 kk
 replace B173:=blk_on B173 kk
 replace B181:=blk_on B181 kk
 replace B191:=blk_on B191 kk
 clear kk
 refine ⟨_,rfl,fun a198 e=>?_⟩
 clear h59;have h60:=pt_ F e;replace F:=pu_ F e;clear e
 refine sv_ gq22_11_2 (ym_ rfl h60) fun a199 e=>?_
 clear h60;have h58:=pt_ F e;replace F:=pu_ F e;clear e
 refine sv_ gq22_11_3 (ye20_ rfl h58) fun a200 e=>?_
 have h61:=pt_ F e;replace F:=pu_ F e;replace h58:=so_ e h58;clear e
 refine sv_ gq22_11_4 (ye21_ rfl h58) fun a201 e=>?_
 clear h58;have h62:=pt_ F e;replace F:=pu_ F e;replace h61:=so_ e h61;clear e
 refine sv_ gq22_11_5 (ya_ rfl h61) fun a202 e=>?_
 clear h61;have h15:=pt_ F e;replace F:=pu_ F e;replace h62:=so_ e h62;clear e
 refine sv_ gq22_11_6 (ya_ rfl h62) fun a203 e=>?_
 clear h62;have h16:=pt_ F e;replace F:=pu_ F e;replace h15:=so_ e h15;clear e
 refine st_end ?_
 replace h0:=F.of h0;replace h1:=F.of h1;replace h2:=F.of h2;replace h4:=F.of h4;replace h5:=F.of h5;replace h6:=F.of h6;replace h7:=F.of h7;replace h8:=F.of h8;replace h9:=F.of h9;replace h10:=F.of h10;replace h11:=F.of h11;replace h12:=F.of h12;replace h14:=F.of h14;have R:=F.r;clear F
 change (cq22_28).wp _ _ _ _
 refine wp_seq (x:=cq22_29) (y:=Code.ret) ?_
 change (Code.region 12 Oq22_12 false).wp _ _ _ _
 refine reg_in (l:=[0,1,2,3,4,5,6,7,8,9,10,11,12,13,14,15,16,17,18,19,20,21,22,23,24,25,26,27,28,29,30,31,32,33,34,35,36,37,38,39,40,41,42,43,44,45,46,47,48,49,50,51,52,53,54,55,56,57,58,59]) rfl ?_
 have F:FE_ _ [] a203 a203:=⟨R,Ag_.refl _⟩;clear R
 refine sv_ gq22_12_0 (ym_ rfl (F.of h4)) fun a204 e=>?_
 have h63:=pt_ F e;replace F:=pu_ F e;clear e
 have Y:(execOp a204.eval oq22_12_1).run Tryz.prog w197=.ok (.value (.bool true)) w197:=by unfold oq22_12_1;go_simp
 refine sv_ gq22_12_1 Y fun a205 e=>?_;clear Y
 clear h63;have h64:=pt_ F e;replace F:=pu_ F e;clear e
 refine sv_ gq22_12_2 (ym_ rfl h64) fun a206 e=>?_
 clear h64;have h65:=pt_ F e;replace F:=pu_ F e;clear e
 refine st_val gq22_12_3 rfl (wanted_is (j:=2) (d:=65) rfl rfl h65 rfl) (ym_ rfl (F.of h5)) fun a207 e=>?_
 have h66:=pt_ F e;replace F:=pu_ F e;replace h65:=so_ e h65;clear e
 have Y:(execOp a207.eval oq22_12_4).run Tryz.prog w197=.ok (.value (.bool true)) w197:=by unfold oq22_12_4;go_simp
 refine st_val gq22_12_4 rfl (wanted_is (j:=2) (d:=65) rfl rfl h65 rfl) Y fun a208 e=>?_;clear Y
 clear h66;have h67:=pt_ F e;replace F:=pu_ F e;replace h65:=so_ e h65;clear e
 have Y:(execOp a208.eval oq22_12_5).run Tryz.prog w197=.ok (.value (.bool true)) w197:=by unfold oq22_12_5;go_simp
 refine sv_ gq22_12_5 Y fun a209 e=>?_;clear Y
 clear h65 h67;have h68:=pt_ F e;replace F:=pu_ F e;clear e
 refine sv_ gq22_12_6 (ym_ rfl h68) fun a210 e=>?_
 clear h68;have h69:=pt_ F e;replace F:=pu_ F e;clear e
 refine st_val gq22_12_7 rfl (wanted_is (j:=6) (d:=69) rfl rfl h69 rfl) (ym_ rfl (F.of h6)) fun a211 e=>?_
 have h70:=pt_ F e;replace F:=pu_ F e;replace h69:=so_ e h69;clear e
 have Y:(execOp a211.eval oq22_12_8).run Tryz.prog w197=.ok (.value (.bool true)) w197:=by unfold oq22_12_8;go_simp
 refine st_val gq22_12_8 rfl (wanted_is (j:=6) (d:=69) rfl rfl h69 rfl) Y fun a212 e=>?_;clear Y
 clear h70;have h71:=pt_ F e;replace F:=pu_ F e;replace h69:=so_ e h69;clear e
 have Y:(execOp a212.eval oq22_12_9).run Tryz.prog w197=.ok (.value (.bool true)) w197:=by unfold oq22_12_9;go_simp
 refine sv_ gq22_12_9 Y fun a213 e=>?_;clear Y
 clear h69 h71;have h72:=pt_ F e;replace F:=pu_ F e;clear e
 refine sv_ gq22_12_10 (ym_ rfl h72) fun a214 e=>?_
 clear h72;have h73:=pt_ F e;replace F:=pu_ F e;clear e
 refine st_val gq22_12_11 rfl (wanted_is (j:=10) (d:=73) rfl rfl h73 rfl) (ym_ rfl (F.of h7)) fun a215 e=>?_
 have h74:=pt_ F e;replace F:=pu_ F e;replace h73:=so_ e h73;clear e
 have Y:(execOp a215.eval oq22_12_12).run Tryz.prog w197=.ok (.value (.bool true)) w197:=by unfold oq22_12_12;go_simp
 refine st_val gq22_12_12 rfl (wanted_is (j:=10) (d:=73) rfl rfl h73 rfl) Y fun a216 e=>?_;clear Y
 clear h74;have h75:=pt_ F e;replace F:=pu_ F e;replace h73:=so_ e h73;clear e
 have Y:(execOp a216.eval oq22_12_13).run Tryz.prog w197=.ok (.value (.bool true)) w197:=by unfold oq22_12_13;go_simp
 refine sv_ gq22_12_13 Y fun a217 e=>?_;clear Y
 clear h73 h75;have h76:=pt_ F e;replace F:=pu_ F e;clear e
 refine sv_ gq22_12_14 (ym_ rfl h76) fun a218 e=>?_
 clear h76;have h77:=pt_ F e;replace F:=pu_ F e;clear e
 refine st_val gq22_12_15 rfl (wanted_is (j:=14) (d:=77) rfl rfl h77 rfl) (ym_ rfl (F.of h8)) fun a219 e=>?_
 have h78:=pt_ F e;replace F:=pu_ F e;replace h77:=so_ e h77;clear e
 have Y:(execOp a219.eval oq22_12_16).run Tryz.prog w197=.ok (.value (.bool true)) w197:=by unfold oq22_12_16;go_simp
 refine st_val gq22_12_16 rfl (wanted_is (j:=14) (d:=77) rfl rfl h77 rfl) Y fun a220 e=>?_;clear Y
 clear h78;have h79:=pt_ F e;replace F:=pu_ F e;replace h77:=so_ e h77;clear e
 have Y:(execOp a220.eval oq22_12_17).run Tryz.prog w197=.ok (.value (.bool true)) w197:=by unfold oq22_12_17;go_simp
 refine sv_ gq22_12_17 Y fun a221 e=>?_;clear Y
 clear h77 h79;have h80:=pt_ F e;replace F:=pu_ F e;clear e
 refine sv_ gq22_12_18 (ym_ rfl h80) fun a222 e=>?_
 clear h80;have h81:=pt_ F e;replace F:=pu_ F e;clear e
 refine st_val gq22_12_19 rfl (wanted_is (j:=18) (d:=81) rfl rfl h81 rfl) (yf1_ rfl (F.of h9)) fun a223 e=>?_
 have h82:=pt_ F e;replace F:=pu_ F e;replace h81:=so_ e h81;clear e
 refine st_val gq22_12_20 rfl (wanted_is (j:=18) (d:=81) rfl rfl h81 rfl) (yk1_ rfl h82 B160) fun a224 e=>?_
 clear h82;have h83:=pt_ F e;replace F:=pu_ F e;replace h81:=so_ e h81;clear e
 have Y:(execOp a224.eval oq22_12_21).run Tryz.prog w197=.ok (.value (.bool true)) w197:=by unfold oq22_12_21;go_simp
 refine st_val gq22_12_21 rfl (wanted_is (j:=18) (d:=81) rfl rfl h81 rfl) Y fun a225 e=>?_;clear Y
 clear h83;have h84:=pt_ F e;replace F:=pu_ F e;replace h81:=so_ e h81;clear e
 have Y:(execOp a225.eval oq22_12_22).run Tryz.prog w197=.ok (.value (.bool true)) w197:=by unfold oq22_12_22;go_simp
 refine sv_ gq22_12_22 Y fun a226 e=>?_;clear Y
 clear h81 h84;have h85:=pt_ F e;replace F:=pu_ F e;clear e
 refine sv_ gq22_12_23 (ym_ rfl h85) fun a227 e=>?_
 clear h85;have h86:=pt_ F e;replace F:=pu_ F e;clear e
 refine st_val gq22_12_24 rfl (wanted_is (j:=23) (d:=86) rfl rfl h86 rfl) (ym_ rfl (F.of h10)) fun a228 e=>?_
 have h87:=pt_ F e;replace F:=pu_ F e;replace h86:=so_ e h86;clear e
 have Y:(execOp a228.eval oq22_12_25).run Tryz.prog w197=.ok (.value (.bool true)) w197:=by unfold oq22_12_25;go_simp
 refine st_val gq22_12_25 rfl (wanted_is (j:=23) (d:=86) rfl rfl h86 rfl) Y fun a229 e=>?_;clear Y
 clear h87;have h88:=pt_ F e;replace F:=pu_ F e;replace h86:=so_ e h86;clear e
 have Y:(execOp a229.eval oq22_12_26).run Tryz.prog w197=.ok (.value (.bool true)) w197:=by unfold oq22_12_26;go_simp
 refine sv_ gq22_12_26 Y fun a230 e=>?_;clear Y
 clear h86 h88;have h89:=pt_ F e;replace F:=pu_ F e;clear e
 refine sv_ gq22_12_27 (ym_ rfl h89) fun a231 e=>?_
 clear h89;have h90:=pt_ F e;replace F:=pu_ F e;clear e
 refine st_val gq22_12_28 rfl (wanted_is (j:=27) (d:=90) rfl rfl h90 rfl) (yl4_ rfl (F.of h11) B173) fun a232 e=>?_
 have h91:=pt_ F e;replace F:=pu_ F e;replace h90:=so_ e h90;clear e
 refine st_val gq22_12_29 rfl (wanted_is (j:=27) (d:=90) rfl rfl h90 rfl) (yl4_ rfl (F.of h2) B114) fun a233 e=>?_
 have h92:=pt_ F e;replace F:=pu_ F e;replace h90:=so_ e h90;replace h91:=so_ e h91;clear e
 have hcall:Calls Tryz.prog 20 #[.agg #[.int .i64 4,.string (⟨#[97]⟩),.int .i64 0,.slice ay 1 cy],.agg #[.int .i64 4,.string (⟨#[97]⟩),.int .i64 0,.slice (some ⟨b109,0,none⟩) 1 1]] w197 _:=refLike_any (t:=pA1) (u:=pA1) (HY.out.on KY) (tm_1 B109 (by decide) (by decide)) (.inr ⟨rA1,rA1,rfl⟩)
 refine st_call gq22_12_30 rfl (wanted_is (j:=27) (d:=90) rfl rfl h90 rfl) (yc2_ enq22_11 rfl h91 h92) ((hcall).mono ?_)
 rintro e9 w234 ⟨rfl,kk⟩
 replace K1:=keep_onto K1 kk
 replace KP:=keep_onto KP kk
 replace KY:=keep_onto KY kk
 replace B109:=blk_on B109 kk
 replace B114:=blk_on B114 kk
 replace B160:=blk_on B160 kk
 replace B173:=blk_on B173 kk
 replace B181:=blk_on B181 kk
 replace B191:=blk_on B191 kk
 clear hcall
 clear kk
 refine ⟨_,rfl,fun a235 e=>?_⟩
 clear h91 h92;have h93:=pt_ F e;replace F:=pu_ F e;replace h90:=so_ e h90;clear e
 have Y:(execOp a235.eval oq22_12_31).run Tryz.prog w234=.ok (.value (.bool true)) w234:=by unfold oq22_12_31;go_simp
 refine sv_ gq22_12_31 Y fun a236 e=>?_;clear Y
 clear h90 h93;have h94:=pt_ F e;replace F:=pu_ F e;clear e
 refine sv_ gq22_12_32 (ym_ rfl h94) fun a237 e=>?_
 clear h94;have h95:=pt_ F e;replace F:=pu_ F e;clear e
 refine st_val gq22_12_33 rfl (wanted_is (j:=32) (d:=95) rfl rfl h95 rfl) (ym_ rfl (F.of h12)) fun a238 e=>?_
 have h96:=pt_ F e;replace F:=pu_ F e;replace h95:=so_ e h95;clear e
 have Y:(execOp a238.eval oq22_12_34).run Tryz.prog w234=.ok (.value (.bool true)) w234:=by unfold oq22_12_34;go_simp
 refine st_val gq22_12_34 rfl (wanted_is (j:=32) (d:=95) rfl rfl h95 rfl) Y fun a239 e=>?_;clear Y
 clear h96;have h97:=pt_ F e;replace F:=pu_ F e;replace h95:=so_ e h95;clear e
 have Y:(execOp a239.eval oq22_12_35).run Tryz.prog w234=.ok (.value (.bool true)) w234:=by unfold oq22_12_35;go_simp
 refine sv_ gq22_12_35 Y fun a240 e=>?_;clear Y
 clear h95 h97;have h98:=pt_ F e;replace F:=pu_ F e;clear e
 refine sv_ gq22_12_36 (ym_ rfl h98) fun a241 e=>?_
 clear h98;have h99:=pt_ F e;replace F:=pu_ F e;clear e
 refine st_val gq22_12_37 rfl (wanted_is (j:=36) (d:=99) rfl rfl h99 rfl) (ym_ rfl (F.of h14)) fun a242 e=>?_
 have h100:=pt_ F e;replace F:=pu_ F e;replace h99:=so_ e h99;clear e
 have Y:(execOp a242.eval oq22_12_38).run Tryz.prog w234=.ok (.value (.bool true)) w234:=by unfold oq22_12_38;go_simp
 refine st_val gq22_12_38 rfl (wanted_is (j:=36) (d:=99) rfl rfl h99 rfl) Y fun a243 e=>?_;clear Y
 clear h100;have h101:=pt_ F e;replace F:=pu_ F e;replace h99:=so_ e h99;clear e
 have Y:(execOp a243.eval oq22_12_39).run Tryz.prog w234=.ok (.value (.bool true)) w234:=by unfold oq22_12_39;go_simp
 refine sv_ gq22_12_39 Y fun a244 e=>?_;clear Y
 clear h99 h101;have h102:=pt_ F e;replace F:=pu_ F e;clear e
 refine sv_ gq22_12_40 (ym_ rfl h102) fun a245 e=>?_
 clear h102;have h103:=pt_ F e;replace F:=pu_ F e;clear e
 refine st_val gq22_12_41 rfl (wanted_is (j:=40) (d:=103) rfl rfl h103 rfl) (ym_ rfl (F.of h15)) fun a246 e=>?_
 have h104:=pt_ F e;replace F:=pu_ F e;replace h103:=so_ e h103;clear e
 have Y:(execOp a246.eval oq22_12_42).run Tryz.prog w234=.ok (.value (.bool true)) w234:=by unfold oq22_12_42;go_simp
 refine st_val gq22_12_42 rfl (wanted_is (j:=40) (d:=103) rfl rfl h103 rfl) Y fun a247 e=>?_;clear Y
 clear h104;have h105:=pt_ F e;replace F:=pu_ F e;replace h103:=so_ e h103;clear e
 have Y:(execOp a247.eval oq22_12_43).run Tryz.prog w234=.ok (.value (.bool true)) w234:=by unfold oq22_12_43;go_simp
 refine sv_ gq22_12_43 Y fun a248 e=>?_;clear Y
 clear h103 h105;have h106:=pt_ F e;replace F:=pu_ F e;clear e
 refine sv_ gq22_12_44 (ym_ rfl h106) fun a249 e=>?_
 clear h106;have h107:=pt_ F e;replace F:=pu_ F e;clear e
 refine st_val gq22_12_45 rfl (wanted_is (j:=44) (d:=107) rfl rfl h107 rfl) (ym_ rfl (F.of h16)) fun a250 e=>?_
 have h108:=pt_ F e;replace F:=pu_ F e;replace h107:=so_ e h107;clear e
 have Y:(execOp a250.eval oq22_12_46).run Tryz.prog w234=.ok (.value (.bool true)) w234:=by unfold oq22_12_46;go_simp
 refine st_val gq22_12_46 rfl (wanted_is (j:=44) (d:=107) rfl rfl h107 rfl) Y fun a251 e=>?_;clear Y
 clear h108;have h109:=pt_ F e;replace F:=pu_ F e;replace h107:=so_ e h107;clear e
 have Y:(execOp a251.eval oq22_12_47).run Tryz.prog w234=.ok (.value (.bool true)) w234:=by unfold oq22_12_47;go_simp
 refine sv_ gq22_12_47 Y fun a252 e=>?_;clear Y
 clear h107 h109;have h110:=pt_ F e;replace F:=pu_ F e;clear e
 refine sv_ gq22_12_48 (ym_ rfl h110) fun a253 e=>?_
 clear h110;have h111:=pt_ F e;replace F:=pu_ F e;clear e
 refine st_val gq22_12_49 rfl (wanted_is (j:=48) (d:=111) rfl rfl h111 rfl) (ym_ rfl (F.of h1)) fun a254 e=>?_
 have h112:=pt_ F e;replace F:=pu_ F e;replace h111:=so_ e h111;clear e
 refine st_call gq22_12_50 rfl (wanted_is (j:=48) (d:=111) rfl rfl h111 rfl) (yc1_ enq22_58 rfl h112) ((queues1 (HPO.out.on KP)).mono ?_)
 rintro e9 w255 ⟨aq,cq,rfl,kk⟩
 replace K1:=keep_onto K1 kk
 replace KP:=keep_onto KP kk
 replace KY:=keep_onto KY kk
 replace B109:=blk_on B109 kk
 replace B114:=blk_on B114 kk
 replace B160:=blk_on B160 kk
 replace B173:=blk_on B173 kk
 replace B181:=blk_on B181 kk
 replace B191:=blk_on B191 kk
 clear kk
 refine ⟨_,rfl,fun a256 e=>?_⟩
 clear h112;have h113:=pt_ F e;replace F:=pu_ F e;replace h111:=so_ e h111;clear e
 have Y:(execOp a256.eval oq22_12_51).run Tryz.prog w255=.ok (.value (.int .i64 1)) w255:=by unfold oq22_12_51;go_simp
 refine st_val gq22_12_51 rfl (wanted_is (j:=48) (d:=111) rfl rfl h111 rfl) Y fun a257 e=>?_;clear Y
 clear h113;have h114:=pt_ F e;replace F:=pu_ F e;replace h111:=so_ e h111;clear e
 have Y:(execOp a257.eval oq22_12_52).run Tryz.prog w255=.ok (.value (.bool true)) w255:=by unfold oq22_12_52;go_simp
 refine st_val gq22_12_52 rfl (wanted_is (j:=48) (d:=111) rfl rfl h111 rfl) Y fun a258 e=>?_;clear Y
 clear h114;have h115:=pt_ F e;replace F:=pu_ F e;replace h111:=so_ e h111;clear e
 have Y:(execOp a258.eval oq22_12_53).run Tryz.prog w255=.ok (.value (.bool true)) w255:=by unfold oq22_12_53;go_simp
 refine sv_ gq22_12_53 Y fun a259 e=>?_;clear Y
 clear h111 h115;have h116:=pt_ F e;replace F:=pu_ F e;clear e
 refine sv_ gq22_12_54 (ym_ rfl h116) fun a260 e=>?_
 clear h116;have h117:=pt_ F e;replace F:=pu_ F e;clear e
 refine st_val gq22_12_55 rfl (wanted_is (j:=54) (d:=117) rfl rfl h117 rfl) (ym_ rfl (F.of h1)) fun a261 e=>?_
 have h118:=pt_ F e;replace F:=pu_ F e;replace h117:=so_ e h117;clear e
 have Y:(execOp a261.eval oq22_12_56).run Tryz.prog w255=.ok (.enter 13 #[.pointer (some ⟨pa,0,none⟩),.int .i64 1]) w255:=by unfold oq22_12_56;go_simp
 refine st_call gq22_12_56 rfl (wanted_is (j:=54) (d:=117) rfl rfl h117 rfl) Y ((drop1 (HPO.out.on KP)).mono ?_);clear Y
 rintro e9 w262 ⟨rfl,kb⟩
 clear B109
 clear B114
 clear B160
 clear B173
 clear B181
 clear B191
 replace K1:=K1.trans (kb.less fun g hg=>Nat.lt_of_lt_of_le hg HWB)
 clear KP
 clear KY
 clear kb;have kk:=trivial
 clear kk
 refine ⟨_,rfl,fun a263 e=>?_⟩
 clear h118;have h119:=pt_ F e;replace F:=pu_ F e;replace h117:=so_ e h117;clear e
 have Y:(execOp a263.eval oq22_12_57).run Tryz.prog w262=.ok (.value (.bool true)) w262:=by unfold oq22_12_57;go_simp
 refine st_val gq22_12_57 rfl (wanted_is (j:=54) (d:=117) rfl rfl h117 rfl) Y fun a264 e=>?_;clear Y
 clear h119;have h120:=pt_ F e;replace F:=pu_ F e;replace h117:=so_ e h117;clear e
 have Y:(execOp a264.eval oq22_12_58).run Tryz.prog w262=.ok (.value (.bool true)) w262:=by unfold oq22_12_58;go_simp
 refine sv_ gq22_12_58 Y fun a265 e=>?_;clear Y
 clear h117 h120;have h121:=pt_ F e;replace F:=pu_ F e;clear e
 refine sv_ gq22_12_59 (ya_ rfl h121) fun a266 e=>?_
 clear h121 h0;have h0:=pt_ F e;replace F:=pu_ F e;clear e
 refine st_end ?_
 clear h1;clear h2;clear h4;clear h5;clear h6;clear h7;clear h8;clear h9;clear h10;clear h11;clear h12;clear h14;clear h15;clear h16;have R:=F.r;clear F
 change (Code.ret).wp _ _ _ _
 refine wp_ret ?_
 change bodyPost Tryz.prog Tryz.f5 (fun e w'=>e=.returned (.bool true)∧Keep (fun g=>g < W.heap.size) W w') .ret a266 w262
 refine ret_one rfl R h0 ?_
 exact ⟨rfl,K1⟩
theorem palive_any (W:World):Calls Tryz.prog 5 #[] W fun e w'=>e=.returned (.bool true)∧Keep (fun g=>g < W.heap.size) W w':=by
  refine enter_sx Tryz.func5 bodyq22 rfl (by show (0:Nat) ≤ 122;decide) fun f0 R0 hs=>?_
  exact palive_w R0 (Keep.refl _ W)
end Go.Proofs.YtnfcbalppecnfaaGreat
