/-
  Package post: the law of messages got once: walked with letter frames. No condition but where the terms lie.
-/
import Derived.Test.YtjinmnekfhekpaaJPo8
import Derived.Test.YtjinmnekfhekpaaJSx14
namespace Go.Proofs.Ytjinmnekfhekpaa
open Go.RowKit Go.Maps
set_option linter.unusedVariables false
set_option linter.unusedSimpArgs false
structure KRow (BB:Nat) (R:Nat→Prop) (w:World) (v:Value) (ps:List TP) (g:Nat) (vq:Value):Prop where
  row:w.ownsRow BB 24 4 v ps.length (ps.flatMap TP.cells)
  rk:∀ k,v.ownBlock=some k→R k∧k ≠ g∧vq.ownBlock ≠ some k
section
variable {BB pa mb g:Nat} {R R':Nat→Prop} {w w':World} {m:Int} {ms ps:List TP} {v vq vq':Value} {p:TP}
theorem KRow.lt (h:KRow BB R w v ps g vq) {k:Nat} (hk:v.ownBlock=some k):BB ≤ k∧k < w.heap.size:=by
  obtain ⟨h1,cs,hb⟩:=row_type h.row hk
  exact ⟨h1,hb.lt⟩
theorem KRow.on (h:KRow BB R w v ps g vq) (k:Keep (fun g=>g < w.heap.size) w w'):KRow BB R w' v ps g vq:=⟨row_on h.row k fun g hg=>(h.lt hg).2,h.rk⟩
theorem KRow.send (h:KRow BB R w v ps g vq) (kf:Keep (fun b=>b < w.heap.size∧b ≠ g∧vq.ownBlock ≠ some b) w w') (hR:∀ b,(R' b→R b∨w.heap.size ≤ b)∧(R b→R' b)) (hv:∀ b,vq'.ownBlock=some b→vq.ownBlock=some b∨w.heap.size ≤ b):KRow BB R' w' v ps g vq' :=
  ⟨row_on h.row kf fun k hk=>⟨(h.lt hk).2,(h.rk k hk).2⟩,fun k hk=>⟨(hR k).2 (h.rk k hk).1,(h.rk k hk).2.1,fun e=>(hv k e).elim (h.rk k hk).2.2 fun h1=>absurd (h.lt hk).2 (Nat.not_lt.2 h1)⟩⟩
theorem KRow.get (h:KRow BB R w v ps g vq) (kf:Keep (fun b=>b < w.heap.size∧b ≠ g∧vq.ownBlock ≠ some b) w w') (hv:∀ b,vq'.ownBlock=some b→vq.ownBlock=some b):KRow BB R w' v ps g vq' :=
  ⟨row_on h.row kf fun k hk=>⟨(h.lt hk).2,(h.rk k hk).2⟩,fun k hk=>⟨(h.rk k hk).1,(h.rk k hk).2.1,fun e=>(h.rk k hk).2.2 (hv k e)⟩⟩
theorem OneQ.write (h:OneQ BB R w pa mb m ms g vq) {X:Nat→Prop} (hk:Keep X w w') (h1:∀ b,b < w.heap.size→(¬ R b∨b=g∨vq.ownBlock=some b∨b=pa∨b=mb)→X b) (hR:∀ b,R b→R' b) (hR':∀ b,R' b→(R b∨w.heap.size ≤ b)∧b < w'.heap.size):OneQ BB R' w' pa mb m ms g vq:=by
  obtain ⟨f,hp,hf⟩:=h
  have hn:∀ k q,f k=some q→k=1:=fun k q hq=>by have:=hp.num.2 k q hq;omega
  have lt:∀ b,R b→b < w.heap.size:=fun b hb=>(hp.rb b hb).2
  refine ⟨f,⟨hp.head.keep hk (h1 _ hp.head.lt (.inr (.inr (.inr (.inl rfl))))),hp.map.keep hk (h1 _ hp.map.lt (.inr (.inr (.inr (.inr rfl))))),fun k q hq=>?_,hp.apart,hR _ hp.rp,hR _ hp.rm,fun b hb=>⟨?_,(hR' b hb).2⟩,Nat.le_trans hp.le hk.size,hp.few,hp.num⟩,hf⟩
  · have e:=hn k q hq
    subst e
    have h2:=hp.qs 1 q hq
    rw [hf] at hq
    cases hq
    exact h2.move hk (h1 _ (lt _ h2.rg) (.inr (.inl rfl))) (fun b hb=>h1 _ (lt _ (h2.rv b hb)) (.inr (.inr (.inl hb)))) (fun b hl hn=>h1 b hl (.inl hn)) hR fun b hb=>(hR' b hb).1
  · rcases (hR' b hb).1 with h2 | h2
    · exact (hp.rb b h2).1
    · exact Nat.le_trans hp.le h2
theorem OneQ.own (h:OneQ BB R w pa mb m ms g vq):R g∧(∀ b,vq.ownBlock=some b→R b)∧R pa∧R mb∧(∀ b,R b→BB ≤ b∧b < w.heap.size)∧(∃ cs,Blk w pa 84 cs)∧(∀ {b:Nat} {t:TypeId} {cs:Array Value},Blk w b t cs→mb ≠ b):=by
  obtain ⟨f,hp,hf⟩:=h
  have hq:=hp.qs 1 _ hf
  exact ⟨hq.rg,hq.rv,hp.rp,hp.rm,hp.rb,⟨_,hp.head⟩,fun hb=>hp.map.ne_blk hb⟩
theorem KRow.begin (h:OneQ BB R w pa mb m ms g vq) {b:Nat} (hk:Keep (fun g=>g < w.heap.size) w w') (hb:Blk w' b 24 #[]) (hl:w.heap.size ≤ b):OneQ BB (fun k=>R k∨k=b) w' pa mb m ms g vq∧KRow BB (fun k=>R k∨k=b) w' (.slice (some ⟨b,0,none⟩) 0 0) [] g vq:=by
  have ho:=h.own
  refine ⟨h.write hk (fun b hl _=>hl) (fun _ h=>.inl h) (fun k hk2=>?_),⟨⟨rfl,.inr ⟨b,0,#[],rfl,Nat.le_trans h.lt.2.2.1 hl,hb,Nat.le_refl _,by decide,rfl,rfl⟩⟩,fun k hk2=>?_⟩⟩
  · rcases hk2 with h1 | h1
    · exact ⟨.inl h1,Nat.lt_of_lt_of_le (ho.2.2.2.2.1 k h1).2 hk.size⟩
    · exact ⟨.inr (h1 ▸ hl),h1 ▸ hb.lt⟩
  · cases hk2
    exact ⟨.inr rfl,fun e=>absurd h.lt.1 (Nat.not_lt.2 (e ▸ hl)),fun e=>absurd (h.lt.2.1 _ e) (Nat.not_lt.2 hl)⟩
theorem KRow.push {b2 c2:Nat} {ty:TypeId} (hO:OneQ BB R w pa mb m ms g vq) (h:KRow BB R w v ps g vq) (hb:Blk w b2 24 p.cells.toArray) (hn:ps.length < 8192) :
    ∃ a' c' w3 R',(Builtin.append_ #[22,22] ty #[v,.slice (some ⟨b2,0,none⟩) 1 c2]).run Try.prog w=.ok (.slice a' (ps ++ [p]).length c') w3∧OneQ BB R' w3 pa mb m ms g vq∧KRow BB R' w3 (.slice a' (ps ++ [p]).length c') (ps ++ [p]) g vq∧Keep (fun b=>b < BB) w w3:=by
  obtain ⟨i,z,h1,h2,h3,h4,h5⟩:=infoT'
  have ho:=hO.own
  have hle:BB ≤ w.heap.size:=hO.lt.2.2.1
  have hone:∀ u ∈ p.cells,u.oneCell'=true:=by intro u hu;simp [TP.cells,Tm.cells] at hu;rcases hu with rfl | rfl | rfl | rfl <;> rfl
  obtain ⟨v',w3,ha,hr,hg,_⟩:=run_append_own (P:=Try.prog) w BB 22 ty 24 i z 4 56 Try.underlying22 h1 h2 h3 h4 h5 (by decide) v ps.length (ps.flatMap TP.cells) h.row ⟨b2,0,none⟩ 1 c2 p.cells rfl (news_at hb) hone (by unfold maxLen;omega) (by omega) hle
  have hat:v'.ownBlock=v.ownBlock∨v'.ownBlock=some w.heap.size:=by
    rcases h.row.2 with ⟨rfl,h0⟩ | ⟨g,cap,cur,rfl,hbg,hgg,hnc,hcm,hcs,htk⟩
    · have:=run_append_nil (P:=Try.prog) (w:=w) 22 ty 24 i z Try.underlying22 h1 h2 ⟨b2,0,none⟩ 1 c2 p.cells (by rw [h3];rfl) (news_at hb) (by decide) (by decide) (by rw [h4];decide)
      rw [ha] at this
      injection this with e1 _
      subst e1
      exact .inr rfl
    · by_cases hroom:ps.length + 1 ≤ cap
      · have:=run_append_room (P:=Try.prog) w 22 ty 24 i Try.underlying22 h1 g ps.length cap cur hgg ⟨b2,0,none⟩ 1 c2 p.cells (by rw [h3];rfl) (news_at hb) hone hroom (by rw [h3,hcs];simp [TP.cells,Tm.cells];omega)
        rw [ha] at this
        injection this with e1 _
        subst e1
        exact .inl rfl
      · have holds:=h.row.cells (g:=g) rfl
        have:=run_append_grow (P:=Try.prog) (w:=w) 22 ty 24 i z Try.underlying22 h1 h2 ⟨g,0,none⟩ ps.length cap (ps.flatMap TP.cells) (by rw [h3,flat_len]) holds ⟨b2,0,none⟩ 1 c2 p.cells (by rw [h3];rfl) (news_at hb) (by omega) (by omega) (by rw [h4];exact growslice_fits (by omega) (by omega))
        rw [ha] at this
        injection this with e1 _
        subst e1
        exact .inr rfl
  have kg:Keep (fun g=>v.ownBlock ≠ some g) w w3:=Keep.ofGrown hg fun g e hx=>hx e
  have hlen:ps.length + 1=(ps ++ [p]).length:=by simp
  have hrow:w3.ownsRow BB 24 4 v' (ps ++ [p]).length ((ps ++ [p]).flatMap TP.cells):=by
    rw [← hlen,List.flatMap_append]
    simpa using hr
  obtain ⟨g2,cap2,cur2,rfl,hb2⟩:∃ g2 cap2 cur2,v'=.slice (some ⟨g2,0,none⟩) (ps ++ [p]).length cap2∧Blk w3 g2 24 cur2:=by
    rcases hrow.2 with ⟨_,h0⟩ | ⟨g,cap,cur,e,_,hb,_⟩
    · exact absurd h0 (by simp)
    · exact ⟨g,cap,cur,e,hb⟩
  have hat2:v.ownBlock=some g2∨g2=w.heap.size:=hat.imp (fun e=>e.symm) fun e=>by cases e;rfl
  refine ⟨_,cap2,w3,fun k=>R k∨k=g2,ha,hO.write kg (fun b hl hx e=>?_) (fun _ h=>.inl h) (fun k hk=>?_),⟨hrow,fun k hk=>?_⟩,kg.less fun b hb e=>absurd hb (Nat.not_lt.2 (h.lt e).1)⟩
  · have hb:=h.rk b e
    obtain ⟨_,cs,hbb⟩:=row_type h.row e
    rcases hx with hx | hx | hx | hx | hx
    · exact hx hb.1
    · exact hb.2.1 hx
    · exact hb.2.2 hx
    · obtain ⟨cs2,hp⟩:=ho.2.2.2.2.2.1;exact hp.ne_ hbb (by decide) hx.symm
    · exact ho.2.2.2.2.2.2 hbb hx.symm
  · rcases hk with h6 | h6
    · exact ⟨.inl h6,Nat.lt_of_lt_of_le (ho.2.2.2.2.1 k h6).2 kg.size⟩
    · subst h6
      exact ⟨hat2.elim (fun e=>.inl (h.rk k e).1) (fun e=>.inr (Nat.le_of_eq e.symm)),hb2.lt⟩
  · cases hk
    refine ⟨.inr rfl,?_⟩
    rcases hat2 with e | e
    · exact (h.rk g2 e).2
    · exact ⟨fun e2=>absurd hO.lt.1 (Nat.not_lt.2 (Nat.le_of_eq (e.symm.trans e2))),fun e2=>absurd (hO.lt.2.1 g2 e2) (Nat.not_lt.2 (Nat.le_of_eq e.symm))⟩
theorem KRow.tmsl {va:Option Addr} {vc:Nat} (h:KRow BB R w (.slice va ps.length vc) ps g vq) (hT:∀ p ∈ ps,TmAt w.heap.size w p.1 p.2.1 p.2.2):TmSl w.heap.size w va ps:=by
  by_cases h0:0 < ps.length
  · obtain ⟨g2,cap,cs,h1,hB,hC,hD,hc⟩:=row_some (xs:=ps.flatMap TP.cells) (sz:=4) (n:=ps.length) h.row h0
    cases h1
    exact fun j p hj=>⟨⟨g2,0,rfl,hC.lt,fun f v hv=>by
      rw [Nat.zero_add]
      exact hc _ _ (by rw [flat_get ps j f (get_lt' hv),hj];exact hv)⟩,hT p (List.mem_of_getElem? hj)⟩
  · have hnil:ps=[]:=List.eq_nil_of_length_eq_zero (by omega)
    subst hnil
    exact fun j p hj=>by simp at hj
end
def Sent (W:World) (m:Int) (ms ks:List TP):Prop:=ms.map (·.1)=ks.map (fun p=>(p.1.tree.ren 1).tm)∧∀ p ∈ ks,p.1.right=true∧TmAt W.heap.size W p.1 p.2.1 p.2.2
theorem Sent.nil {W:World} {m:Int}:Sent W m [] []:=⟨rfl,fun p hp=>by simp at hp⟩
theorem Sent.len {W:World} {m:Int} {ms ks:List TP} (h:Sent W m ms ks):ms.length=ks.length:=by have:=congrArg List.length h.1;simpa using this
theorem Sent.more {W:World} {m:Int} {ms ks:List TP} {p:TP} {au:Option Addr} {cu:Nat} (h:Sent W m ms ks) (hr:p.1.right=true) (hT:TmAt W.heap.size W p.1 p.2.1 p.2.2):Sent W m (ms ++ [((p.1.tree.ren 1).tm,au,cu)]) (ks ++ [p]):=by
  refine ⟨by rw [List.map_append,List.map_append,h.1];rfl,fun q hq=>?_⟩
  rcases List.mem_append.1 hq with hq | hq
  · exact h.2 q hq
  · rw [List.mem_singleton.1 hq];exact ⟨hr,hT⟩
theorem three_ways (t:Tm) (m:Int) (n:Nat):t.right=false∨(t.right=true∧m ≤ (n:Int))∨(t.right=true∧(n:Int) < m):=by
  cases h:t.right
  · exact .inl rfl
  · by_cases h2:m ≤ (n:Int)
    · exact .inr (.inl ⟨rfl,h2⟩)
    · exact .inr (.inr ⟨rfl,by omega⟩)
theorem first_of {ms ks:List TP} {i:Nat} {p:TP} (h:ms.map (·.1)=(ks.drop i).map (fun p=>(p.1.tree.ren 1).tm)) (hp:ks[i]? = some p):∃ am cm,ms[0]? = some ((p.1.tree.ren 1).tm,am,cm)∧(ms.eraseIdx 0).map (·.1)=(ks.drop (i + 1)).map (fun p=>(p.1.tree.ren 1).tm):=by
  obtain ⟨hi,he⟩:=List.getElem?_eq_some_iff.1 hp
  rw [List.drop_eq_getElem_cons hi,he,List.map_cons] at h
  cases ms with
  | nil=>simp at h
  | cons x xs =>
    rw [List.map_cons] at h
    injection h with h1 h2
    obtain ⟨t,a,c⟩:=x
    simp only at h1
    subst h1
    exact ⟨a,c,rfl,h2⟩
theorem wanted_un {ops:Array Oper} {o:Oper} {a:Act} {j d:Nat} {want:Bool} (hg:o.guard=some (j,want)) (hj:(ops[j]?).bind (·.dst)=some d) (h:a.tmps[d]? = some undef):Region.wanted o (yielded ops a.tmps)=false:=by
  unfold Region.wanted yielded
  rw [hg]
  simp only [hj,Option.bind_some,h]
  rfl
def oq4_0_0:Oper:=⟨some 4,Op.assign (Operand.const (Value.bool false)),4, "law.go:98",#[],none⟩
def Oq4_0:Array Oper:=List.toArray (oq4_0_0::[])
theorem gq4_0_0:Oq4_0[0]? = some oq4_0_0:=rfl
def cq4_1:Code:=Code.region 0 Oq4_0 false
def oq4_1_0:Oper:=⟨some 22,Op.call { callee:=Callee.value (Operand.func 21),args:=#[],argTypes:=#[] },48, "law.go:99",#[],none⟩
def oq4_1_1:Oper:=⟨some 5,Op.assign (Operand.tmp 22),48, "law.go:99",#[ed_ 0,ec_ 0,ep_ 0],none⟩
def Oq4_1:Array Oper:=List.toArray (oq4_1_0::oq4_1_1::[])
theorem gq4_1_0:Oq4_1[0]? = some oq4_1_0:=rfl
theorem gq4_1_1:Oq4_1[1]? = some oq4_1_1:=rfl
def cq4_3:Code:=Code.region 1 Oq4_1 false
def oq4_2_0:Oper:=⟨some 23,Op.move (Operand.tmp 5),48, "law.go:100",#[],none⟩
def oq4_2_1:Oper:=⟨some 24,Op.binOp Go.BinOp.eql 48 (Operand.tmp 23) (Operand.const (Value.pointer none)) 48,4, "law.go:100",#[ed_ 0],none⟩
def oq4_2_2:Oper:=⟨some 25,Op.move (Operand.tmp 24),4, "law.go:100",#[ed_ 1],none⟩
def oq4_2_3:Oper:=⟨some 26,Op.call { callee:=Callee.value (Operand.func 22),args:=#[],argTypes:=#[] },4, "law.go:100",#[ec_ 2,eg_ 2],some (2,false)⟩
def oq4_2_4:Oper:=⟨some 27,Op.unOp Go.UnOp.not 4 (Operand.tmp 26),4, "law.go:100",#[ed_ 3,eg_ 2],some (2,false)⟩
def oq4_2_5:Oper:=⟨some 28,Op.pick (Operand.tmp 25) (Operand.const (Value.bool true)) (Operand.tmp 27),4, "law.go:100",#[ed_ 2,ed_ 4],none⟩
def Oq4_2:Array Oper:=List.toArray (oq4_2_0::oq4_2_1::oq4_2_2::oq4_2_3::oq4_2_4::oq4_2_5::[])
theorem gq4_2_0:Oq4_2[0]? = some oq4_2_0:=rfl
theorem gq4_2_1:Oq4_2[1]? = some oq4_2_1:=rfl
theorem gq4_2_2:Oq4_2[2]? = some oq4_2_2:=rfl
theorem gq4_2_3:Oq4_2[3]? = some oq4_2_3:=rfl
theorem gq4_2_4:Oq4_2[4]? = some oq4_2_4:=rfl
theorem gq4_2_5:Oq4_2[5]? = some oq4_2_5:=rfl
def cq4_6:Code:=Code.region 2 Oq4_2 false
def oq4_3_0:Oper:=⟨some 4,Op.assign (Operand.const (Value.bool false)),4, "law.go:101",#[],none⟩
def Oq4_3:Array Oper:=List.toArray (oq4_3_0::[])
def cq4_9:Code:=Code.region 3 Oq4_3 false
def cq4_8:Code:=Code.seq cq4_9 Code.ret
def cq4_7:Code:=Code.cond (Operand.tmp 28) cq4_8 Code.skip
def cq4_5:Code:=Code.seq cq4_6 cq4_7
def oq4_4_0:Oper:=⟨some 30,Op.move (Operand.tmp 5),48, "law.go:103",#[],none⟩
def oq4_4_1:Oper:=⟨some 31,Op.move (Operand.tmp 0),3, "law.go:103",#[],none⟩
def oq4_4_2:Oper:=⟨some 32,Op.call { callee:=Callee.value (Operand.func 23),args:=#[Operand.tmp 30,Operand.tmp 31],argTypes:=#[48,3] },50, "law.go:103",#[ed_ 0,ed_ 1],none⟩
def oq4_4_3:Oper:=⟨some 29,Op.move (Operand.tmp 32),50, "law.go:103",#[ed_ 2],none⟩
def oq4_4_4:Oper:=⟨some 33,Op.extract (Operand.tmp 29) 0,3, "law.go:103",#[ed_ 3],none⟩
def oq4_4_5:Oper:=⟨some 34,Op.extract (Operand.tmp 29) 1,31, "law.go:103",#[ed_ 3,{ on:=6,ground:=Go.Ground.gcOnly Go.Departure.lateStores }],none⟩
def oq4_4_6:Oper:=⟨some 6,Op.assign (Operand.tmp 33),3, "law.go:103",#[ed_ 4,ec_ 2,ep_ 0,ep_ 1,ep_ 2,ep_ 3,ep_ 4,{ on:=5,ground:=Go.Ground.textOnly Go.Departure.lateStores }],none⟩
def oq4_4_7:Oper:=⟨some 7,Op.assign (Operand.tmp 34),31, "law.go:103",#[ed_ 5,ec_ 6,ep_ 0,ep_ 1,ep_ 2,ep_ 3,ep_ 4,ep_ 5,ep_ 6],none⟩
def Oq4_4:Array Oper:=List.toArray (oq4_4_0::oq4_4_1::oq4_4_2::oq4_4_3::oq4_4_4::oq4_4_5::oq4_4_6::oq4_4_7::[])
theorem gq4_4_0:Oq4_4[0]? = some oq4_4_0:=rfl
theorem gq4_4_1:Oq4_4[1]? = some oq4_4_1:=rfl
theorem gq4_4_2:Oq4_4[2]? = some oq4_4_2:=rfl
theorem gq4_4_3:Oq4_4[3]? = some oq4_4_3:=rfl
theorem gq4_4_4:Oq4_4[4]? = some oq4_4_4:=rfl
theorem gq4_4_5:Oq4_4[5]? = some oq4_4_5:=rfl
theorem gq4_4_6:Oq4_4[6]? = some oq4_4_6:=rfl
theorem gq4_4_7:Oq4_4[7]? = some oq4_4_7:=rfl
def cq4_13:Code:=Code.region 4 Oq4_4 false
def oq4_5_0:Oper:=⟨some 35,Op.move (Operand.tmp 7),31, "law.go:104",#[],none⟩
def oq4_5_1:Oper:=⟨some 36,Op.binOp Go.BinOp.neq 31 (Operand.tmp 35) (Operand.const (Value.int IntKind.i64 0)) 31,4, "law.go:104",#[ed_ 0],none⟩
def Oq4_5:Array Oper:=List.toArray (oq4_5_0::oq4_5_1::[])
theorem gq4_5_0:Oq4_5[0]? = some oq4_5_0:=rfl
theorem gq4_5_1:Oq4_5[1]? = some oq4_5_1:=rfl
def cq4_16:Code:=Code.region 5 Oq4_5 false
def oq4_6_0:Oper:=⟨some 4,Op.assign (Operand.const (Value.bool false)),4, "law.go:105",#[],none⟩
def Oq4_6:Array Oper:=List.toArray (oq4_6_0::[])
def cq4_19:Code:=Code.region 6 Oq4_6 false
def cq4_18:Code:=Code.seq cq4_19 Code.ret
def cq4_17:Code:=Code.cond (Operand.tmp 36) cq4_18 Code.skip
def cq4_15:Code:=Code.seq cq4_16 cq4_17
def oq4_7_0:Oper:=⟨some 37,Op.buildSlice 22 0 #[],22, "law.go:107",#[],none⟩
def oq4_7_1:Oper:=⟨some 8,Op.assign (Operand.tmp 37),22, "law.go:107",#[ed_ 0,ep_ 0],none⟩
def Oq4_7:Array Oper:=List.toArray (oq4_7_0::oq4_7_1::[])
theorem gq4_7_0:Oq4_7[0]? = some oq4_7_0:=rfl
theorem gq4_7_1:Oq4_7[1]? = some oq4_7_1:=rfl
def cq4_23:Code:=Code.region 7 Oq4_7 false
def oq4_8_0:Oper:=⟨some 38,Op.move (Operand.tmp 1),22, "law.go:108",#[],none⟩
def oq4_8_1:Oper:=⟨some 39,Op.call { callee:=Callee.builtin Go.Builtin.len,args:=#[Operand.tmp 38],argTypes:=#[22] },3, "law.go:108",#[ed_ 0],none⟩
def oq4_8_2:Oper:=⟨some 40,Op.move (Operand.const (Value.int IntKind.i64 0)),3, "law.go:108",#[],none⟩
def Oq4_8:Array Oper:=List.toArray (oq4_8_0::oq4_8_1::oq4_8_2::[])
theorem gq4_8_0:Oq4_8[0]? = some oq4_8_0:=rfl
theorem gq4_8_1:Oq4_8[1]? = some oq4_8_1:=rfl
theorem gq4_8_2:Oq4_8[2]? = some oq4_8_2:=rfl
def cq4_26:Code:=Code.region 8 Oq4_8 false
def oq4_9_0:Oper:=⟨some 41,Op.binOp Go.BinOp.lss 3 (Operand.tmp 40) (Operand.tmp 39) 3,0, "law.go:108",#[],none⟩
def Oq4_9:Array Oper:=List.toArray (oq4_9_0::[])
theorem gq4_9_0:Oq4_9[0]? = some oq4_9_0:=rfl
def cq4_30:Code:=Code.region 9 Oq4_9 false
def cq4_34:Code:=Code.exit 0
def cq4_32:Code:=Code.cond (Operand.tmp 41) Code.skip cq4_34
def oq4_10_0:Oper:=⟨some 42,Op.indexAddr 22 (Operand.tmp 38) (Operand.tmp 40),0, "law.go:108",#[],none⟩
def oq4_10_1:Oper:=⟨some 43,Op.load 24 (Operand.tmp 42),24, "law.go:108",#[ed_ 0],none⟩
def oq4_10_2:Oper:=⟨some 10,Op.alloc 24,0, "law.go:108",#[],none⟩
def oq4_10_3:Oper:=⟨none,Op.store 24 (Operand.tmp 10) (Operand.tmp 43),0, "law.go:108",#[ed_ 2,ed_ 1,ep_ 0,ep_ 1,ep_ 2],none⟩
def Oq4_10:Array Oper:=List.toArray (oq4_10_0::oq4_10_1::oq4_10_2::oq4_10_3::[])
theorem gq4_10_0:Oq4_10[0]? = some oq4_10_0:=rfl
theorem gq4_10_1:Oq4_10[1]? = some oq4_10_1:=rfl
theorem gq4_10_2:Oq4_10[2]? = some oq4_10_2:=rfl
theorem gq4_10_3:Oq4_10[3]? = some oq4_10_3:=rfl
def cq4_38:Code:=Code.region 10 Oq4_10 false
def oq4_11_0:Oper:=⟨some 44,Op.move (Operand.tmp 5),48, "law.go:109",#[],none⟩
def oq4_11_1:Oper:=⟨some 45,Op.move (Operand.tmp 6),3, "law.go:109",#[],none⟩
def oq4_11_2:Oper:=⟨some 46,Op.load 24 (Operand.tmp 10),24, "law.go:109",#[],none⟩
def oq4_11_3:Oper:=⟨some 47,Op.call { callee:=Callee.value (Operand.func 24),args:=#[Operand.tmp 44,Operand.tmp 45,Operand.tmp 46],argTypes:=#[48,3,24] },31, "law.go:109",#[ed_ 0,ed_ 1,ed_ 2],none⟩
def oq4_11_4:Oper:=⟨some 11,Op.assign (Operand.tmp 47),31, "law.go:109",#[ed_ 3,ec_ 3,ep_ 0,ep_ 1,ep_ 2,ep_ 3],none⟩
def Oq4_11:Array Oper:=List.toArray (oq4_11_0::oq4_11_1::oq4_11_2::oq4_11_3::oq4_11_4::[])
theorem gq4_11_0:Oq4_11[0]? = some oq4_11_0:=rfl
theorem gq4_11_1:Oq4_11[1]? = some oq4_11_1:=rfl
theorem gq4_11_2:Oq4_11[2]? = some oq4_11_2:=rfl
theorem gq4_11_3:Oq4_11[3]? = some oq4_11_3:=rfl
theorem gq4_11_4:Oq4_11[4]? = some oq4_11_4:=rfl
def cq4_40:Code:=Code.region 11 Oq4_11 false
def oq4_12_0:Oper:=⟨some 48,Op.move (Operand.tmp 11),31, "law.go:110",#[],none⟩
def oq4_12_1:Oper:=⟨some 49,Op.binOp Go.BinOp.eql 31 (Operand.tmp 48) (Operand.const (Value.int IntKind.i64 0)) 31,4, "law.go:110",#[ed_ 0],none⟩
def Oq4_12:Array Oper:=List.toArray (oq4_12_0::oq4_12_1::[])
theorem gq4_12_0:Oq4_12[0]? = some oq4_12_0:=rfl
theorem gq4_12_1:Oq4_12[1]? = some oq4_12_1:=rfl
def cq4_42:Code:=Code.region 12 Oq4_12 false
def oq4_13_0:Oper:=⟨some 50,Op.move (Operand.tmp 8),22, "law.go:111",#[],none⟩
def oq4_13_1:Oper:=⟨some 51,Op.load 24 (Operand.tmp 10),24, "law.go:111",#[],none⟩
def oq4_13_2:Oper:=⟨some 52,Op.buildSlice 22 1 #[(0,Operand.tmp 51)],22, "law.go:111",#[ed_ 1],none⟩
def oq4_13_3:Oper:=⟨some 53,Op.call { callee:=Callee.builtin Go.Builtin.append,args:=#[Operand.tmp 50,Operand.tmp 52],argTypes:=#[22,22] },22, "law.go:111",#[ed_ 0,ed_ 2],none⟩
def oq4_13_4:Oper:=⟨some 8,Op.assign (Operand.tmp 53),22, "law.go:111",#[ed_ 3,ec_ 3,ep_ 0,ep_ 1,ep_ 2,ep_ 3],none⟩
def Oq4_13:Array Oper:=List.toArray (oq4_13_0::oq4_13_1::oq4_13_2::oq4_13_3::oq4_13_4::[])
theorem gq4_13_0:Oq4_13[0]? = some oq4_13_0:=rfl
theorem gq4_13_1:Oq4_13[1]? = some oq4_13_1:=rfl
theorem gq4_13_2:Oq4_13[2]? = some oq4_13_2:=rfl
theorem gq4_13_3:Oq4_13[3]? = some oq4_13_3:=rfl
theorem gq4_13_4:Oq4_13[4]? = some oq4_13_4:=rfl
def cq4_44:Code:=Code.region 13 Oq4_13 false
def oq4_14_0:Oper:=⟨some 54,Op.move (Operand.tmp 11),31, "law.go:112",#[],none⟩
def oq4_14_1:Oper:=⟨some 55,Op.binOp Go.BinOp.neq 31 (Operand.tmp 54) (Operand.const (Value.int IntKind.i64 70)) 31,4, "law.go:112",#[ed_ 0],none⟩
def oq4_14_2:Oper:=⟨some 56,Op.move (Operand.tmp 55),4, "law.go:112",#[ed_ 1],none⟩
def oq4_14_3:Oper:=⟨some 57,Op.move (Operand.tmp 11),31, "law.go:112",#[eg_ 2],some (2,true)⟩
def oq4_14_4:Oper:=⟨some 58,Op.binOp Go.BinOp.neq 31 (Operand.tmp 57) (Operand.const (Value.int IntKind.i64 141)) 31,4, "law.go:112",#[ed_ 3,eg_ 2],some (2,true)⟩
def oq4_14_5:Oper:=⟨some 59,Op.move (Operand.tmp 58),4, "law.go:112",#[ed_ 4,ec_ 2,eg_ 2],some (2,true)⟩
def oq4_14_6:Oper:=⟨some 60,Op.move (Operand.tmp 8),22, "law.go:112",#[eg_ 5],some (5,false)⟩
def oq4_14_7:Oper:=⟨some 61,Op.call { callee:=Callee.builtin Go.Builtin.len,args:=#[Operand.tmp 60],argTypes:=#[22] },3, "law.go:112",#[ed_ 6,eg_ 5],some (5,false)⟩
def oq4_14_8:Oper:=⟨some 62,Op.move (Operand.tmp 0),3, "law.go:112",#[eg_ 5],some (5,false)⟩
def oq4_14_9:Oper:=⟨some 63,Op.call { callee:=Callee.builtin Go.Builtin.max,args:=#[Operand.tmp 62,Operand.const (Value.int IntKind.i64 1)],argTypes:=#[3,3] },3, "law.go:112",#[ed_ 8,eg_ 5],some (5,false)⟩
def oq4_14_10:Oper:=⟨some 64,Op.call { callee:=Callee.builtin Go.Builtin.min,args:=#[Operand.tmp 63,Operand.const (Value.int IntKind.i64 64)],argTypes:=#[3,3] },3, "law.go:112",#[ed_ 9,eg_ 5],some (5,false)⟩
def oq4_14_11:Oper:=⟨some 65,Op.binOp Go.BinOp.neq 3 (Operand.tmp 61) (Operand.tmp 64) 3,4, "law.go:112",#[ed_ 7,ed_ 10,eg_ 5],some (5,false)⟩
def oq4_14_12:Oper:=⟨some 66,Op.pick (Operand.tmp 59) (Operand.const (Value.bool true)) (Operand.tmp 65),4, "law.go:112",#[ed_ 5,ed_ 11,eg_ 2],some (2,true)⟩
def oq4_14_13:Oper:=⟨some 67,Op.pick (Operand.tmp 56) (Operand.tmp 66) (Operand.const (Value.bool false)),4, "law.go:112",#[ed_ 2,ed_ 12],none⟩
def Oq4_14:Array Oper:=List.toArray (oq4_14_0::oq4_14_1::oq4_14_2::oq4_14_3::oq4_14_4::oq4_14_5::oq4_14_6::oq4_14_7::oq4_14_8::oq4_14_9::oq4_14_10::oq4_14_11::oq4_14_12::oq4_14_13::[])
theorem gq4_14_0:Oq4_14[0]? = some oq4_14_0:=rfl
theorem gq4_14_1:Oq4_14[1]? = some oq4_14_1:=rfl
theorem gq4_14_2:Oq4_14[2]? = some oq4_14_2:=rfl
theorem gq4_14_3:Oq4_14[3]? = some oq4_14_3:=rfl
theorem gq4_14_4:Oq4_14[4]? = some oq4_14_4:=rfl
theorem gq4_14_5:Oq4_14[5]? = some oq4_14_5:=rfl
theorem gq4_14_6:Oq4_14[6]? = some oq4_14_6:=rfl
theorem gq4_14_7:Oq4_14[7]? = some oq4_14_7:=rfl
theorem gq4_14_8:Oq4_14[8]? = some oq4_14_8:=rfl
theorem gq4_14_9:Oq4_14[9]? = some oq4_14_9:=rfl
theorem gq4_14_10:Oq4_14[10]? = some oq4_14_10:=rfl
theorem gq4_14_11:Oq4_14[11]? = some oq4_14_11:=rfl
theorem gq4_14_12:Oq4_14[12]? = some oq4_14_12:=rfl
theorem gq4_14_13:Oq4_14[13]? = some oq4_14_13:=rfl
def cq4_46:Code:=Code.region 14 Oq4_14 false
def oq4_15_0:Oper:=⟨some 4,Op.assign (Operand.const (Value.bool false)),4, "law.go:113",#[],none⟩
def Oq4_15:Array Oper:=List.toArray (oq4_15_0::[])
def cq4_49:Code:=Code.region 15 Oq4_15 false
def cq4_48:Code:=Code.seq cq4_49 Code.ret
def cq4_47:Code:=Code.cond (Operand.tmp 67) cq4_48 Code.skip
def cq4_45:Code:=Code.seq cq4_46 cq4_47
def cq4_43:Code:=Code.cond (Operand.tmp 49) cq4_44 cq4_45
def cq4_41:Code:=Code.seq cq4_42 cq4_43
def cq4_39:Code:=Code.seq cq4_40 cq4_41
def cq4_37:Code:=Code.seq cq4_38 cq4_39
def cq4_36:Code:=Code.block 1 cq4_37
def oq4_16_0:Oper:=⟨some 68,Op.binOp Go.BinOp.add 3 (Operand.tmp 40) (Operand.const (Value.int IntKind.i64 1)) 3,3, "law.go:108",#[],none⟩
def oq4_16_1:Oper:=⟨some 40,Op.move (Operand.tmp 68),3, "law.go:108",#[ed_ 0],none⟩
def Oq4_16:Array Oper:=List.toArray (oq4_16_0::oq4_16_1::[])
theorem gq4_16_0:Oq4_16[0]? = some oq4_16_0:=rfl
theorem gq4_16_1:Oq4_16[1]? = some oq4_16_1:=rfl
def cq4_52:Code:=Code.region 16 Oq4_16 false
def cq4_35:Code:=Code.seq cq4_36 cq4_52
def cq4_31:Code:=Code.seq cq4_32 cq4_35
def cq4_29:Code:=Code.seq cq4_30 cq4_31
def cq4_28:Code:=Code.loop cq4_29
def cq4_27:Code:=Code.block 0 cq4_28
def cq4_25:Code:=Code.seq cq4_26 cq4_27
def oq4_17_0:Oper:=⟨some 69,Op.move (Operand.tmp 8),22, "law.go:116",#[],none⟩
def oq4_17_1:Oper:=⟨some 70,Op.call { callee:=Callee.builtin Go.Builtin.len,args:=#[Operand.tmp 69],argTypes:=#[22] },3, "law.go:116",#[ed_ 0],none⟩
def oq4_17_2:Oper:=⟨some 71,Op.move (Operand.const (Value.int IntKind.i64 0)),3, "law.go:116",#[],none⟩
def Oq4_17:Array Oper:=List.toArray (oq4_17_0::oq4_17_1::oq4_17_2::[])
theorem gq4_17_0:Oq4_17[0]? = some oq4_17_0:=rfl
theorem gq4_17_1:Oq4_17[1]? = some oq4_17_1:=rfl
theorem gq4_17_2:Oq4_17[2]? = some oq4_17_2:=rfl
def cq4_55:Code:=Code.region 17 Oq4_17 false
def oq4_18_0:Oper:=⟨some 72,Op.binOp Go.BinOp.lss 3 (Operand.tmp 71) (Operand.tmp 70) 3,0, "law.go:116",#[],none⟩
def Oq4_18:Array Oper:=List.toArray (oq4_18_0::[])
theorem gq4_18_0:Oq4_18[0]? = some oq4_18_0:=rfl
def cq4_59:Code:=Code.region 18 Oq4_18 false
def cq4_63:Code:=Code.exit 2
def cq4_61:Code:=Code.cond (Operand.tmp 72) Code.skip cq4_63
def oq4_19_0:Oper:=⟨some 73,Op.indexAddr 22 (Operand.tmp 69) (Operand.tmp 71),0, "law.go:116",#[],none⟩
def oq4_19_1:Oper:=⟨some 74,Op.load 24 (Operand.tmp 73),24, "law.go:116",#[ed_ 0],none⟩
def oq4_19_2:Oper:=⟨some 13,Op.alloc 24,0, "law.go:116",#[],none⟩
def oq4_19_3:Oper:=⟨none,Op.store 24 (Operand.tmp 13) (Operand.tmp 74),0, "law.go:116",#[ed_ 2,ed_ 1,ep_ 0,ep_ 1,ep_ 2],none⟩
def Oq4_19:Array Oper:=List.toArray (oq4_19_0::oq4_19_1::oq4_19_2::oq4_19_3::[])
theorem gq4_19_0:Oq4_19[0]? = some oq4_19_0:=rfl
theorem gq4_19_1:Oq4_19[1]? = some oq4_19_1:=rfl
theorem gq4_19_2:Oq4_19[2]? = some oq4_19_2:=rfl
theorem gq4_19_3:Oq4_19[3]? = some oq4_19_3:=rfl
def cq4_67:Code:=Code.region 19 Oq4_19 false
def oq4_20_0:Oper:=⟨some 76,Op.move (Operand.tmp 5),48, "law.go:117",#[],none⟩
def oq4_20_1:Oper:=⟨some 77,Op.move (Operand.tmp 6),3, "law.go:117",#[],none⟩
def oq4_20_2:Oper:=⟨some 78,Op.call { callee:=Callee.value (Operand.func 26),args:=#[Operand.const (Value.int IntKind.i64 5)],argTypes:=#[2] },24, "law.go:117",#[],none⟩
def oq4_20_3:Oper:=⟨some 79,Op.call { callee:=Callee.value (Operand.func 25),args:=#[Operand.tmp 76,Operand.tmp 77,Operand.tmp 78],argTypes:=#[48,3,24] },32, "law.go:117",#[ed_ 0,ed_ 1,ed_ 2,ec_ 2],none⟩
def oq4_20_4:Oper:=⟨some 75,Op.move (Operand.tmp 79),32, "law.go:117",#[ed_ 3],none⟩
def oq4_20_5:Oper:=⟨some 80,Op.extract (Operand.tmp 75) 0,24, "law.go:117",#[ed_ 4],none⟩
def oq4_20_6:Oper:=⟨some 81,Op.extract (Operand.tmp 75) 1,31, "law.go:117",#[ed_ 4,{ on:=8,ground:=Go.Ground.gcOnly Go.Departure.lateStores }],none⟩
def oq4_20_7:Oper:=⟨some 14,Op.alloc 24,0, "law.go:117",#[],none⟩
def oq4_20_8:Oper:=⟨none,Op.store 24 (Operand.tmp 14) (Operand.tmp 80),0, "law.go:117",#[ed_ 7,ed_ 5,ec_ 3,ep_ 0,ep_ 1,ep_ 2,ep_ 3,ep_ 4,ep_ 5,{ on:=6,ground:=Go.Ground.textOnly Go.Departure.lateStores },ep_ 7],none⟩
def oq4_20_9:Oper:=⟨some 15,Op.assign (Operand.tmp 81),31, "law.go:117",#[ed_ 6,ec_ 8,ep_ 0,ep_ 1,ep_ 2,ep_ 3,ep_ 4,ep_ 5,ep_ 6,ep_ 7,ep_ 8],none⟩
def Oq4_20:Array Oper:=List.toArray (oq4_20_0::oq4_20_1::oq4_20_2::oq4_20_3::oq4_20_4::oq4_20_5::oq4_20_6::oq4_20_7::oq4_20_8::oq4_20_9::[])
theorem gq4_20_0:Oq4_20[0]? = some oq4_20_0:=rfl
theorem gq4_20_1:Oq4_20[1]? = some oq4_20_1:=rfl
theorem gq4_20_2:Oq4_20[2]? = some oq4_20_2:=rfl
theorem gq4_20_3:Oq4_20[3]? = some oq4_20_3:=rfl
theorem gq4_20_4:Oq4_20[4]? = some oq4_20_4:=rfl
theorem gq4_20_5:Oq4_20[5]? = some oq4_20_5:=rfl
theorem gq4_20_6:Oq4_20[6]? = some oq4_20_6:=rfl
theorem gq4_20_7:Oq4_20[7]? = some oq4_20_7:=rfl
theorem gq4_20_8:Oq4_20[8]? = some oq4_20_8:=rfl
theorem gq4_20_9:Oq4_20[9]? = some oq4_20_9:=rfl
def cq4_69:Code:=Code.region 20 Oq4_20 false
def oq4_21_0:Oper:=⟨some 83,Op.move (Operand.tmp 5),48, "law.go:118",#[],none⟩
def oq4_21_1:Oper:=⟨some 84,Op.move (Operand.tmp 6),3, "law.go:118",#[],none⟩
def oq4_21_2:Oper:=⟨some 85,Op.call { callee:=Callee.value (Operand.func 26),args:=#[Operand.const (Value.int IntKind.i64 7)],argTypes:=#[2] },24, "law.go:118",#[],none⟩
def oq4_21_3:Oper:=⟨some 86,Op.call { callee:=Callee.value (Operand.func 27),args:=#[Operand.tmp 83,Operand.tmp 84,Operand.tmp 85],argTypes:=#[48,3,24] },32, "law.go:118",#[ed_ 0,ed_ 1,ed_ 2,ec_ 2],none⟩
def oq4_21_4:Oper:=⟨some 82,Op.move (Operand.tmp 86),32, "law.go:118",#[ed_ 3],none⟩
def oq4_21_5:Oper:=⟨some 87,Op.extract (Operand.tmp 82) 0,24, "law.go:118",#[ed_ 4],none⟩
def oq4_21_6:Oper:=⟨some 88,Op.extract (Operand.tmp 82) 1,31, "law.go:118",#[ed_ 4,{ on:=8,ground:=Go.Ground.gcOnly Go.Departure.lateStores }],none⟩
def oq4_21_7:Oper:=⟨some 16,Op.alloc 24,0, "law.go:118",#[],none⟩
def oq4_21_8:Oper:=⟨none,Op.store 24 (Operand.tmp 16) (Operand.tmp 87),0, "law.go:118",#[ed_ 7,ed_ 5,ec_ 3,ep_ 0,ep_ 1,ep_ 2,ep_ 3,ep_ 4,ep_ 5,{ on:=6,ground:=Go.Ground.textOnly Go.Departure.lateStores },ep_ 7],none⟩
def oq4_21_9:Oper:=⟨some 17,Op.assign (Operand.tmp 88),31, "law.go:118",#[ed_ 6,ec_ 8,ep_ 0,ep_ 1,ep_ 2,ep_ 3,ep_ 4,ep_ 5,ep_ 6,ep_ 7,ep_ 8],none⟩
def Oq4_21:Array Oper:=List.toArray (oq4_21_0::oq4_21_1::oq4_21_2::oq4_21_3::oq4_21_4::oq4_21_5::oq4_21_6::oq4_21_7::oq4_21_8::oq4_21_9::[])
theorem gq4_21_0:Oq4_21[0]? = some oq4_21_0:=rfl
theorem gq4_21_1:Oq4_21[1]? = some oq4_21_1:=rfl
theorem gq4_21_2:Oq4_21[2]? = some oq4_21_2:=rfl
theorem gq4_21_3:Oq4_21[3]? = some oq4_21_3:=rfl
theorem gq4_21_4:Oq4_21[4]? = some oq4_21_4:=rfl
theorem gq4_21_5:Oq4_21[5]? = some oq4_21_5:=rfl
theorem gq4_21_6:Oq4_21[6]? = some oq4_21_6:=rfl
theorem gq4_21_7:Oq4_21[7]? = some oq4_21_7:=rfl
theorem gq4_21_8:Oq4_21[8]? = some oq4_21_8:=rfl
theorem gq4_21_9:Oq4_21[9]? = some oq4_21_9:=rfl
def cq4_71:Code:=Code.region 21 Oq4_21 false
def oq4_22_0:Oper:=⟨some 89,Op.move (Operand.tmp 15),31, "law.go:119",#[],none⟩
def oq4_22_1:Oper:=⟨some 90,Op.binOp Go.BinOp.neq 31 (Operand.tmp 89) (Operand.const (Value.int IntKind.i64 0)) 31,4, "law.go:119",#[ed_ 0],none⟩
def oq4_22_2:Oper:=⟨some 91,Op.move (Operand.tmp 90),4, "law.go:119",#[ed_ 1],none⟩
def oq4_22_3:Oper:=⟨some 92,Op.move (Operand.tmp 17),31, "law.go:119",#[eg_ 2],some (2,false)⟩
def oq4_22_4:Oper:=⟨some 93,Op.binOp Go.BinOp.neq 31 (Operand.tmp 92) (Operand.const (Value.int IntKind.i64 0)) 31,4, "law.go:119",#[ed_ 3,eg_ 2],some (2,false)⟩
def oq4_22_5:Oper:=⟨some 94,Op.pick (Operand.tmp 91) (Operand.const (Value.bool true)) (Operand.tmp 93),4, "law.go:119",#[ed_ 2,ed_ 4],none⟩
def oq4_22_6:Oper:=⟨some 95,Op.move (Operand.tmp 94),4, "law.go:119",#[ed_ 5,ec_ 2],none⟩
def oq4_22_7:Oper:=⟨some 96,Op.load 24 (Operand.tmp 14),24, "law.go:119",#[eg_ 6],some (6,false)⟩
def oq4_22_8:Oper:=⟨some 97,Op.load 24 (Operand.tmp 13),24, "law.go:119",#[eg_ 6],some (6,false)⟩
def oq4_22_9:Oper:=⟨some 98,Op.call { callee:=Callee.value (Operand.func 28),args:=#[Operand.tmp 96,Operand.tmp 97],argTypes:=#[24,24] },4, "law.go:119",#[ed_ 7,ed_ 8,ec_ 6,eg_ 6],some (6,false)⟩
def oq4_22_10:Oper:=⟨some 99,Op.unOp Go.UnOp.not 4 (Operand.tmp 98),4, "law.go:119",#[ed_ 9,eg_ 6],some (6,false)⟩
def oq4_22_11:Oper:=⟨some 100,Op.pick (Operand.tmp 95) (Operand.const (Value.bool true)) (Operand.tmp 99),4, "law.go:119",#[ed_ 6,ed_ 10],none⟩
def oq4_22_12:Oper:=⟨some 101,Op.move (Operand.tmp 100),4, "law.go:119",#[ed_ 11,ec_ 9],none⟩
def oq4_22_13:Oper:=⟨some 102,Op.load 24 (Operand.tmp 14),24, "law.go:119",#[eg_ 12],some (12,false)⟩
def oq4_22_14:Oper:=⟨some 103,Op.load 24 (Operand.tmp 16),24, "law.go:119",#[eg_ 12],some (12,false)⟩
def oq4_22_15:Oper:=⟨some 104,Op.call { callee:=Callee.value (Operand.func 15),args:=#[Operand.tmp 102,Operand.tmp 103],argTypes:=#[24,24] },4, "law.go:119",#[ed_ 13,ed_ 14,ec_ 12,eg_ 12],some (12,false)⟩
def oq4_22_16:Oper:=⟨some 105,Op.unOp Go.UnOp.not 4 (Operand.tmp 104),4, "law.go:119",#[ed_ 15,eg_ 12],some (12,false)⟩
def oq4_22_17:Oper:=⟨some 106,Op.pick (Operand.tmp 101) (Operand.const (Value.bool true)) (Operand.tmp 105),4, "law.go:119",#[ed_ 12,ed_ 16],none⟩
def Oq4_22:Array Oper:=List.toArray (oq4_22_0::oq4_22_1::oq4_22_2::oq4_22_3::oq4_22_4::oq4_22_5::oq4_22_6::oq4_22_7::oq4_22_8::oq4_22_9::oq4_22_10::oq4_22_11::oq4_22_12::oq4_22_13::oq4_22_14::oq4_22_15::oq4_22_16::oq4_22_17::[])
theorem gq4_22_0:Oq4_22[0]? = some oq4_22_0:=rfl
theorem gq4_22_1:Oq4_22[1]? = some oq4_22_1:=rfl
theorem gq4_22_2:Oq4_22[2]? = some oq4_22_2:=rfl
theorem gq4_22_3:Oq4_22[3]? = some oq4_22_3:=rfl
theorem gq4_22_4:Oq4_22[4]? = some oq4_22_4:=rfl
theorem gq4_22_5:Oq4_22[5]? = some oq4_22_5:=rfl
theorem gq4_22_6:Oq4_22[6]? = some oq4_22_6:=rfl
theorem gq4_22_7:Oq4_22[7]? = some oq4_22_7:=rfl
theorem gq4_22_8:Oq4_22[8]? = some oq4_22_8:=rfl
theorem gq4_22_9:Oq4_22[9]? = some oq4_22_9:=rfl
theorem gq4_22_10:Oq4_22[10]? = some oq4_22_10:=rfl
theorem gq4_22_11:Oq4_22[11]? = some oq4_22_11:=rfl
theorem gq4_22_12:Oq4_22[12]? = some oq4_22_12:=rfl
theorem gq4_22_13:Oq4_22[13]? = some oq4_22_13:=rfl
theorem gq4_22_14:Oq4_22[14]? = some oq4_22_14:=rfl
theorem gq4_22_15:Oq4_22[15]? = some oq4_22_15:=rfl
theorem gq4_22_16:Oq4_22[16]? = some oq4_22_16:=rfl
theorem gq4_22_17:Oq4_22[17]? = some oq4_22_17:=rfl
def cq4_73:Code:=Code.region 22 Oq4_22 false
def oq4_23_0:Oper:=⟨some 4,Op.assign (Operand.const (Value.bool false)),4, "law.go:120",#[],none⟩
def Oq4_23:Array Oper:=List.toArray (oq4_23_0::[])
def cq4_76:Code:=Code.region 23 Oq4_23 false
def cq4_75:Code:=Code.seq cq4_76 Code.ret
def cq4_74:Code:=Code.cond (Operand.tmp 106) cq4_75 Code.skip
def cq4_72:Code:=Code.seq cq4_73 cq4_74
def cq4_70:Code:=Code.seq cq4_71 cq4_72
def cq4_68:Code:=Code.seq cq4_69 cq4_70
def cq4_66:Code:=Code.seq cq4_67 cq4_68
def cq4_65:Code:=Code.block 3 cq4_66
def oq4_24_0:Oper:=⟨some 107,Op.binOp Go.BinOp.add 3 (Operand.tmp 71) (Operand.const (Value.int IntKind.i64 1)) 3,3, "law.go:116",#[],none⟩
def oq4_24_1:Oper:=⟨some 71,Op.move (Operand.tmp 107),3, "law.go:116",#[ed_ 0],none⟩
def Oq4_24:Array Oper:=List.toArray (oq4_24_0::oq4_24_1::[])
theorem gq4_24_0:Oq4_24[0]? = some oq4_24_0:=rfl
theorem gq4_24_1:Oq4_24[1]? = some oq4_24_1:=rfl
def cq4_79:Code:=Code.region 24 Oq4_24 false
def cq4_64:Code:=Code.seq cq4_65 cq4_79
def cq4_60:Code:=Code.seq cq4_61 cq4_64
def cq4_58:Code:=Code.seq cq4_59 cq4_60
def cq4_57:Code:=Code.loop cq4_58
def cq4_56:Code:=Code.block 2 cq4_57
def cq4_54:Code:=Code.seq cq4_55 cq4_56
def oq4_25_0:Oper:=⟨some 109,Op.move (Operand.tmp 5),48, "law.go:123",#[],none⟩
def oq4_25_1:Oper:=⟨some 110,Op.move (Operand.tmp 6),3, "law.go:123",#[],none⟩
def oq4_25_2:Oper:=⟨some 111,Op.call { callee:=Callee.value (Operand.func 26),args:=#[Operand.const (Value.int IntKind.i64 1)],argTypes:=#[2] },24, "law.go:123",#[],none⟩
def oq4_25_3:Oper:=⟨some 112,Op.call { callee:=Callee.value (Operand.func 27),args:=#[Operand.tmp 109,Operand.tmp 110,Operand.tmp 111],argTypes:=#[48,3,24] },32, "law.go:123",#[ed_ 0,ed_ 1,ed_ 2,ec_ 2],none⟩
def oq4_25_4:Oper:=⟨some 108,Op.move (Operand.tmp 112),32, "law.go:123",#[ed_ 3],none⟩
def oq4_25_5:Oper:=⟨some 113,Op.extract (Operand.tmp 108) 0,24, "law.go:123",#[ed_ 4],none⟩
def oq4_25_6:Oper:=⟨some 114,Op.extract (Operand.tmp 108) 1,31, "law.go:123",#[ed_ 4,{ on:=8,ground:=Go.Ground.gcOnly Go.Departure.lateStores }],none⟩
def oq4_25_7:Oper:=⟨some 18,Op.alloc 24,0, "law.go:123",#[],none⟩
def oq4_25_8:Oper:=⟨none,Op.store 24 (Operand.tmp 18) (Operand.tmp 113),0, "law.go:123",#[ed_ 7,ed_ 5,ec_ 3,ep_ 0,ep_ 1,ep_ 2,ep_ 3,ep_ 4,ep_ 5,{ on:=6,ground:=Go.Ground.textOnly Go.Departure.lateStores },ep_ 7],none⟩
def oq4_25_9:Oper:=⟨some 19,Op.assign (Operand.tmp 114),31, "law.go:123",#[ed_ 6,ec_ 8,ep_ 0,ep_ 1,ep_ 2,ep_ 3,ep_ 4,ep_ 5,ep_ 6,ep_ 7,ep_ 8],none⟩
def Oq4_25:Array Oper:=List.toArray (oq4_25_0::oq4_25_1::oq4_25_2::oq4_25_3::oq4_25_4::oq4_25_5::oq4_25_6::oq4_25_7::oq4_25_8::oq4_25_9::[])
theorem gq4_25_0:Oq4_25[0]? = some oq4_25_0:=rfl
theorem gq4_25_1:Oq4_25[1]? = some oq4_25_1:=rfl
theorem gq4_25_2:Oq4_25[2]? = some oq4_25_2:=rfl
theorem gq4_25_3:Oq4_25[3]? = some oq4_25_3:=rfl
theorem gq4_25_4:Oq4_25[4]? = some oq4_25_4:=rfl
theorem gq4_25_5:Oq4_25[5]? = some oq4_25_5:=rfl
theorem gq4_25_6:Oq4_25[6]? = some oq4_25_6:=rfl
theorem gq4_25_7:Oq4_25[7]? = some oq4_25_7:=rfl
theorem gq4_25_8:Oq4_25[8]? = some oq4_25_8:=rfl
theorem gq4_25_9:Oq4_25[9]? = some oq4_25_9:=rfl
def cq4_81:Code:=Code.region 25 Oq4_25 false
def oq4_26_0:Oper:=⟨some 116,Op.move (Operand.tmp 5),48, "law.go:124",#[],none⟩
def oq4_26_1:Oper:=⟨some 117,Op.move (Operand.tmp 6),3, "law.go:124",#[],none⟩
def oq4_26_2:Oper:=⟨some 118,Op.call { callee:=Callee.value (Operand.func 29),args:=#[Operand.tmp 116,Operand.tmp 117],argTypes:=#[48,3] },50, "law.go:124",#[ed_ 0,ed_ 1],none⟩
def oq4_26_3:Oper:=⟨some 115,Op.move (Operand.tmp 118),50, "law.go:124",#[ed_ 2],none⟩
def oq4_26_4:Oper:=⟨some 119,Op.extract (Operand.tmp 115) 0,3, "law.go:124",#[ed_ 3],none⟩
def oq4_26_5:Oper:=⟨some 120,Op.extract (Operand.tmp 115) 1,31, "law.go:124",#[ed_ 3,{ on:=6,ground:=Go.Ground.gcOnly Go.Departure.lateStores }],none⟩
def oq4_26_6:Oper:=⟨some 20,Op.assign (Operand.tmp 119),3, "law.go:124",#[ed_ 4,ec_ 2,ep_ 0,ep_ 1,ep_ 2,ep_ 3,ep_ 4,{ on:=5,ground:=Go.Ground.textOnly Go.Departure.lateStores }],none⟩
def oq4_26_7:Oper:=⟨some 21,Op.assign (Operand.tmp 120),31, "law.go:124",#[ed_ 5,ec_ 6,ep_ 0,ep_ 1,ep_ 2,ep_ 3,ep_ 4,ep_ 5,ep_ 6],none⟩
def Oq4_26:Array Oper:=List.toArray (oq4_26_0::oq4_26_1::oq4_26_2::oq4_26_3::oq4_26_4::oq4_26_5::oq4_26_6::oq4_26_7::[])
theorem gq4_26_0:Oq4_26[0]? = some oq4_26_0:=rfl
theorem gq4_26_1:Oq4_26[1]? = some oq4_26_1:=rfl
theorem gq4_26_2:Oq4_26[2]? = some oq4_26_2:=rfl
theorem gq4_26_3:Oq4_26[3]? = some oq4_26_3:=rfl
theorem gq4_26_4:Oq4_26[4]? = some oq4_26_4:=rfl
theorem gq4_26_5:Oq4_26[5]? = some oq4_26_5:=rfl
theorem gq4_26_6:Oq4_26[6]? = some oq4_26_6:=rfl
theorem gq4_26_7:Oq4_26[7]? = some oq4_26_7:=rfl
def cq4_83:Code:=Code.region 26 Oq4_26 false
def oq4_27_0:Oper:=⟨some 121,Op.move (Operand.tmp 19),31, "law.go:125",#[],none⟩
def oq4_27_1:Oper:=⟨some 122,Op.binOp Go.BinOp.eql 31 (Operand.tmp 121) (Operand.const (Value.int IntKind.i64 141)) 31,4, "law.go:125",#[ed_ 0],none⟩
def oq4_27_2:Oper:=⟨some 123,Op.move (Operand.tmp 122),4, "law.go:125",#[ed_ 1],none⟩
def oq4_27_3:Oper:=⟨some 124,Op.move (Operand.tmp 20),3, "law.go:125",#[eg_ 2],some (2,true)⟩
def oq4_27_4:Oper:=⟨some 125,Op.binOp Go.BinOp.eql 3 (Operand.tmp 124) (Operand.const (Value.int IntKind.i64 0)) 3,4, "law.go:125",#[ed_ 3,eg_ 2],some (2,true)⟩
def oq4_27_5:Oper:=⟨some 126,Op.pick (Operand.tmp 123) (Operand.tmp 125) (Operand.const (Value.bool false)),4, "law.go:125",#[ed_ 2,ed_ 4],none⟩
def oq4_27_6:Oper:=⟨some 127,Op.move (Operand.tmp 126),4, "law.go:125",#[ed_ 5,ec_ 2],none⟩
def oq4_27_7:Oper:=⟨some 128,Op.move (Operand.tmp 21),31, "law.go:125",#[eg_ 6],some (6,true)⟩
def oq4_27_8:Oper:=⟨some 129,Op.binOp Go.BinOp.eql 31 (Operand.tmp 128) (Operand.const (Value.int IntKind.i64 0)) 31,4, "law.go:125",#[ed_ 7,eg_ 6],some (6,true)⟩
def oq4_27_9:Oper:=⟨some 130,Op.pick (Operand.tmp 127) (Operand.tmp 129) (Operand.const (Value.bool false)),4, "law.go:125",#[ed_ 6,ed_ 8],none⟩
def oq4_27_10:Oper:=⟨some 4,Op.assign (Operand.tmp 130),4, "law.go:125",#[ed_ 9,ec_ 6,ep_ 0,ep_ 1,ep_ 2,ep_ 3,ep_ 4,ep_ 5,ep_ 6,ep_ 7,ep_ 8,ep_ 9],none⟩
def Oq4_27:Array Oper:=List.toArray (oq4_27_0::oq4_27_1::oq4_27_2::oq4_27_3::oq4_27_4::oq4_27_5::oq4_27_6::oq4_27_7::oq4_27_8::oq4_27_9::oq4_27_10::[])
theorem gq4_27_0:Oq4_27[0]? = some oq4_27_0:=rfl
theorem gq4_27_1:Oq4_27[1]? = some oq4_27_1:=rfl
theorem gq4_27_2:Oq4_27[2]? = some oq4_27_2:=rfl
theorem gq4_27_3:Oq4_27[3]? = some oq4_27_3:=rfl
theorem gq4_27_4:Oq4_27[4]? = some oq4_27_4:=rfl
theorem gq4_27_5:Oq4_27[5]? = some oq4_27_5:=rfl
theorem gq4_27_6:Oq4_27[6]? = some oq4_27_6:=rfl
theorem gq4_27_7:Oq4_27[7]? = some oq4_27_7:=rfl
theorem gq4_27_8:Oq4_27[8]? = some oq4_27_8:=rfl
theorem gq4_27_9:Oq4_27[9]? = some oq4_27_9:=rfl
theorem gq4_27_10:Oq4_27[10]? = some oq4_27_10:=rfl
def cq4_85:Code:=Code.region 27 Oq4_27 false
def cq4_84:Code:=Code.seq cq4_85 Code.ret
def cq4_82:Code:=Code.seq cq4_83 cq4_84
def cq4_80:Code:=Code.seq cq4_81 cq4_82
def cq4_53:Code:=Code.seq cq4_54 cq4_80
def cq4_24:Code:=Code.seq cq4_25 cq4_53
def cq4_22:Code:=Code.seq cq4_23 cq4_24
def cq4_14:Code:=Code.seq cq4_15 cq4_22
def cq4_12:Code:=Code.seq cq4_13 cq4_14
def cq4_4:Code:=Code.seq cq4_5 cq4_12
def cq4_2:Code:=Code.seq cq4_3 cq4_4
def cq4_0:Code:=Code.seq cq4_1 cq4_2
theorem enq4_15:Enters Try.prog 15:=enters_of Try.func15 (by kernel_rfl) rfl
theorem enq4_23:Enters Try.prog 23:=enters_of Try.func23 (by kernel_rfl) rfl
theorem enq4_28:Enters Try.prog 28:=enters_of Try.func28 (by kernel_rfl) rfl
theorem enq4_29:Enters Try.prog 29:=enters_of Try.func29 (by kernel_rfl) rfl
theorem bodyq4:Try.f4.body=some cq4_0:=by kernel_rfl
set_option maxRecDepth 100000 in
set_option maxHeartbeats 4000000 in
theorem once_w {W:World} {sc:Nat} {sa:Option Addr} {ts:List TP} {most:Int} {f0:Act} {w0:World} (R:FrS 131 f0) (h0:f0.tmps[0]? = some (.int .i64 most)) (h1:f0.tmps[1]? = some (.slice sa ts.length sc)) (K1:Keep (fun g=>g < W.heap.size) W w0)  (HTS:Hid (TmSl W.heap.size W sa ts)) (HLN:Hid (ts.length ≤ 2305843009213693951)):cq4_0.wp Try.prog (bodyPost Try.prog Try.f4 (fun e w'=>e=.returned (.bool true)∧Keep (fun g=>g < W.heap.size) W w')) f0 w0:=by
 refine wp_seq (x:=cq4_1) (y:=cq4_2) ?_
 change (Code.region 0 Oq4_0 false).wp _ _ _ _
 refine reg_in (l:=[0]) rfl ?_
 have F:FE_ _ [] f0 f0:=⟨R,Ag_.refl _⟩;clear R
 have Y:(execOp f0.eval oq4_0_0).run Try.prog w0=.ok (.value (.bool false)) w0:=by unfold oq4_0_0;go_simp
 refine sv_ gq4_0_0 Y fun a101 e=>?_;clear Y
 have h4:=pt_ F e;replace F:=pu_ F e;clear e
 refine st_end ?_
 replace h0:=F.of h0;replace h1:=F.of h1;have R:=F.r;clear F
 change (cq4_2).wp _ _ _ _
 refine wp_seq (x:=cq4_3) (y:=cq4_4) ?_
 change (Code.region 1 Oq4_1 false).wp _ _ _ _
 refine reg_in (l:=[0,1]) rfl ?_
 have F:FE_ _ [] a101 a101:=⟨R,Ag_.refl _⟩;clear R
 have Y:(execOp a101.eval oq4_1_0).run Try.prog w0=.ok (.enter 21 #[]) w0:=by unfold oq4_1_0;go_simp
 obtain ⟨BB,hBB⟩:∃ q,q=w0.heap.size:=⟨_,rfl⟩;have HWB:W.heap.size ≤ BB:=by rw [hBB];exact K1.size
 have hcall:=new_any w0;rw [← hBB] at hcall
 refine st_call gq4_1_0 rfl (wanted_free rfl) Y ((hcall).mono ?_);clear Y
 rintro e9 w102 ⟨pa,mb,rfl,hpo,kk⟩
 replace K1:=keep_onto' K1 kk HWB
 clear kk
 clear hcall hBB;have HPN:=Lib.hid hpo;clear hpo
 have KP:=Keep.refl (fun g=>g < w102.heap.size) w102
 refine ⟨_,rfl,fun a103 e=>?_⟩
 have h22:=pt_ F e;replace F:=pu_ F e;clear e
 refine sv_ gq4_1_1 (ya_ rfl h22) fun a104 e=>?_
 clear h22;have h5:=pt_ F e;replace F:=pu_ F e;clear e
 refine st_end ?_
 replace h0:=F.of h0;replace h1:=F.of h1;replace h4:=F.of h4;have R:=F.r;clear F
 change (cq4_4).wp _ _ _ _
 refine wp_seq (x:=cq4_5) (y:=cq4_12) ?_
 refine wp_seq (x:=cq4_6) (y:=cq4_7) ?_
 change (Code.region 2 Oq4_2 false).wp _ _ _ _
 refine reg_in (l:=[0,1,2,3,4,5]) rfl ?_
 have F:FE_ _ [] a104 a104:=⟨R,Ag_.refl _⟩;clear R
 refine sv_ gq4_2_0 (ym_ rfl (F.of h5)) fun a105 e=>?_
 have h23:=pt_ F e;replace F:=pu_ F e;clear e
 have Y:(execOp a105.eval oq4_2_1).run Try.prog w102=.ok (.value (.bool false)) w102:=by unfold oq4_2_1;go_simp
 refine sv_ gq4_2_1 Y fun a106 e=>?_;clear Y
 clear h23;have h24:=pt_ F e;replace F:=pu_ F e;clear e
 refine sv_ gq4_2_2 (ym_ rfl h24) fun a107 e=>?_
 clear h24;have h25:=pt_ F e;replace F:=pu_ F e;clear e
 have Y:(execOp a107.eval oq4_2_3).run Try.prog w102=.ok (.enter 22 #[]) w102:=by unfold oq4_2_3;go_simp
 refine st_call gq4_2_3 rfl (wanted_is (j:=2) (d:=25) rfl rfl h25 rfl) Y ((palive_any w102).mono ?_);clear Y
 rintro e9 w108 ⟨rfl,kk⟩
 replace K1:=keep_onto K1 kk
 replace KP:=keep_onto KP kk
 clear kk
 refine ⟨_,rfl,fun a109 e=>?_⟩
 have h26:=pt_ F e;replace F:=pu_ F e;replace h25:=so_ e h25;clear e
 have Y:(execOp a109.eval oq4_2_4).run Try.prog w108=.ok (.value (.bool false)) w108:=by unfold oq4_2_4;go_simp
 refine st_val gq4_2_4 rfl (wanted_is (j:=2) (d:=25) rfl rfl h25 rfl) Y fun a110 e=>?_;clear Y
 clear h26;have h27:=pt_ F e;replace F:=pu_ F e;replace h25:=so_ e h25;clear e
 have Y:(execOp a110.eval oq4_2_5).run Try.prog w108=.ok (.value (.bool false)) w108:=by unfold oq4_2_5;go_simp
 refine sv_ gq4_2_5 Y fun a111 e=>?_;clear Y
 clear h25 h27;have h28:=pt_ F e;replace F:=pu_ F e;clear e
 refine st_end ?_
 replace h0:=F.of h0;replace h1:=F.of h1;replace h4:=F.of h4;replace h5:=F.of h5;have R:=F.r;clear F
 change (cq4_7).wp _ _ _ _
 refine wp_cond_false (x:=cq4_8) (y:=Code.skip) (eval_slot h28) ?_
 refine wp_skip ?_
 change (cq4_12).wp _ _ _ _
 refine wp_seq (x:=cq4_13) (y:=cq4_14) ?_
 change (Code.region 4 Oq4_4 false).wp _ _ _ _
 refine reg_in (l:=[0,1,2,3,4,5,6,7]) rfl ?_
 have F:FE_ _ [] a111 a111:=⟨R,Ag_.refl _⟩;clear R
 refine sv_ gq4_4_0 (ym_ rfl (F.of h5)) fun a112 e=>?_
 have h30:=pt_ F e;replace F:=pu_ F e;clear e
 refine sv_ gq4_4_1 (ym_ rfl (F.of h0)) fun a113 e=>?_
 have h31:=pt_ F e;replace F:=pu_ F e;replace h30:=so_ e h30;clear e
 refine st_call gq4_4_2 rfl (wanted_free rfl) (yc2_ enq4_23 rfl h30 h31) ((make1 (most:=most) (HPN.out.on KP)).mono ?_)
 rintro e9 w114 ⟨Ra,gq,rfl,hpo,hgq,kb,kf⟩
 replace K1:=K1.trans (kb.less fun g hg=>Nat.lt_of_lt_of_le hg HWB)
 clear KP
 clear kb kf hgq;have kk:=trivial
 clear kk
 obtain ⟨m,hm⟩:∃ q,min (max most 1) 64=q:=⟨_,rfl⟩;rw [hm] at hpo;have HM:=Lib.hid hm;clear hm;have HPO:=Lib.hid hpo;clear hpo HPN
 have KP:=Keep.refl (fun g=>g < w114.heap.size) w114
 refine ⟨_,rfl,fun a115 e=>?_⟩
 clear h30 h31;have h32:=pt_ F e;replace F:=pu_ F e;clear e
 refine sv_ gq4_4_3 (ym_ rfl h32) fun a116 e=>?_
 clear h32;have h29:=pt_ F e;replace F:=pu_ F e;clear e
 refine sv_ gq4_4_4 (ye20_ rfl h29) fun a117 e=>?_
 have h33:=pt_ F e;replace F:=pu_ F e;replace h29:=so_ e h29;clear e
 refine sv_ gq4_4_5 (ye21_ rfl h29) fun a118 e=>?_
 clear h29;have h34:=pt_ F e;replace F:=pu_ F e;replace h33:=so_ e h33;clear e
 refine sv_ gq4_4_6 (ya_ rfl h33) fun a119 e=>?_
 clear h33;have h6:=pt_ F e;replace F:=pu_ F e;replace h34:=so_ e h34;clear e
 refine sv_ gq4_4_7 (ya_ rfl h34) fun a120 e=>?_
 clear h34;have h7:=pt_ F e;replace F:=pu_ F e;replace h6:=so_ e h6;clear e
 refine st_end ?_
 replace h0:=F.of h0;replace h1:=F.of h1;replace h4:=F.of h4;replace h5:=F.of h5;clear h28;have R:=F.r;clear F
 change (cq4_14).wp _ _ _ _
 refine wp_seq (x:=cq4_15) (y:=cq4_22) ?_
 refine wp_seq (x:=cq4_16) (y:=cq4_17) ?_
 change (Code.region 5 Oq4_5 false).wp _ _ _ _
 refine reg_in (l:=[0,1]) rfl ?_
 have F:FE_ _ [] a120 a120:=⟨R,Ag_.refl _⟩;clear R
 refine sv_ gq4_5_0 (ym_ rfl (F.of h7)) fun a121 e=>?_
 have h35:=pt_ F e;replace F:=pu_ F e;clear e
 have Y:(execOp a121.eval oq4_5_1).run Try.prog w114=.ok (.value (.bool false)) w114:=by unfold oq4_5_1;go_simp
 refine sv_ gq4_5_1 Y fun a122 e=>?_;clear Y
 clear h35;have h36:=pt_ F e;replace F:=pu_ F e;clear e
 refine st_end ?_
 replace h0:=F.of h0;replace h1:=F.of h1;replace h4:=F.of h4;replace h5:=F.of h5;replace h6:=F.of h6;clear h7;have R:=F.r;clear F
 change (cq4_17).wp _ _ _ _
 refine wp_cond_false (x:=cq4_18) (y:=Code.skip) (eval_slot h36) ?_
 refine wp_skip ?_
 change (cq4_22).wp _ _ _ _
 refine wp_seq (x:=cq4_23) (y:=cq4_24) ?_
 change (Code.region 7 Oq4_7 false).wp _ _ _ _
 refine reg_in (l:=[0,1]) rfl ?_
 have F:FE_ _ [] a122 a122:=⟨R,Ag_.refl _⟩;clear R
 have Y:(execOp a122.eval oq4_7_0).run Try.prog w114=.ok (.value (.slice (some ⟨w114.heap.size,0,none⟩) 0 0)) (w114.alloc (.cells #[] 24)):=by unfold oq4_7_0;go_simp
 have hBk:=Blk.new w114 24 #[];have kal:Keep (fun g=>g < w114.heap.size) w114 (w114.alloc (.cells #[] 24)):=(Keep.refl _ _).alloc _
 obtain ⟨b124,hb⟩:∃ q,q=w114.heap.size:=⟨_,rfl⟩;rw [← hb] at Y hBk;obtain ⟨w123,hw⟩:∃ q,q=w114.alloc (.cells #[] 24):=⟨_,rfl⟩;rw [← hw] at Y hBk kal
 obtain ⟨hpo,hkr⟩:=KRow.begin (HPO.out.on KP) kal hBk (Nat.le_of_eq hb.symm);clear hb hw hBk HPO KP;have HPO:=Lib.hid hpo;have HKR:=Lib.hid hkr;clear hpo hkr;replace K1:=keep_onto K1 kal;clear kal;have KP:=Keep.refl (fun g=>g < w123.heap.size) w123
 have HSE:Hid (Sent W m [] []):=Lib.hid Sent.nil
 refine sv_ gq4_7_0 Y fun a125 e=>?_;clear Y
 have h37:=pt_ F e;replace F:=pu_ F e;clear e
 refine sv_ gq4_7_1 (ya_ rfl h37) fun a126 e=>?_
 clear h37;have h8:=pt_ F e;replace F:=pu_ F e;clear e
 refine st_end ?_
 replace h0:=F.of h0;replace h1:=F.of h1;replace h4:=F.of h4;replace h5:=F.of h5;replace h6:=F.of h6;clear h36;have R:=F.r;clear F
 change (cq4_24).wp _ _ _ _
 refine wp_seq (x:=cq4_25) (y:=cq4_53) ?_
 refine wp_seq (x:=cq4_26) (y:=cq4_27) ?_
 change (Code.region 8 Oq4_8 false).wp _ _ _ _
 refine reg_in (l:=[0,1,2]) rfl ?_
 have F:FE_ _ [] a126 a126:=⟨R,Ag_.refl _⟩;clear R
 refine sv_ gq4_8_0 (ym_ rfl (F.of h1)) fun a127 e=>?_
 have h38:=pt_ F e;replace F:=pu_ F e;clear e
 have Y:(execOp a127.eval oq4_8_1).run Try.prog w123=.ok (.value (.int .i64 ts.length)) w123:=by unfold oq4_8_1;go_simp
 refine sv_ gq4_8_1 Y fun a128 e=>?_;clear Y
 have h39:=pt_ F e;replace F:=pu_ F e;replace h38:=so_ e h38;clear e
 have Y:(execOp a128.eval oq4_8_2).run Try.prog w123=.ok (.value (.int .i64 0)) w123:=by unfold oq4_8_2;go_simp
 refine sv_ gq4_8_2 Y fun a129 e=>?_;clear Y
 have h40:=pt_ F e;replace F:=pu_ F e;replace h38:=so_ e h38;replace h39:=so_ e h39;clear e
 refine st_end ?_
 replace h0:=F.of h0;clear h1;replace h4:=F.of h4;replace h5:=F.of h5;replace h6:=F.of h6;replace h8:=F.of h8;have R:=F.r;clear F
 change (cq4_27).wp _ _ _ _
 refine wp_block (id:=0) (c:=cq4_28) ?_
 have HPR:=Lib.hid (HPO.out.on KP);have HKQ:=Lib.hid (HKR.out.on KP);clear HPO HKR KP;have HPO:=HPR;have HKR:=HKQ;clear HPR HKQ
 refine wp_loop_ghost (c:=cq4_29) (fun n fX wX=>∃ j:Nat,∃ Rq:Nat→Prop,∃ vq:Value,∃ ms:List TP,∃ va:Option Addr,∃ vc:Nat,∃ ks:List TP,n=ts.length - j∧FrS 131 fX∧fX.tmps[0]? = some (.int .i64 most)∧fX.tmps[4]? = some (.bool false)∧fX.tmps[5]? = some (.pointer (some ⟨pa,0,none⟩))∧fX.tmps[6]? = some (.int .i64 1)∧fX.tmps[8]? = some (.slice va ks.length vc)∧fX.tmps[38]? = some (.slice sa ts.length sc)∧fX.tmps[39]? = some (.int .i64 ts.length)∧fX.tmps[40]? = some (.int .i64 (j:Int))∧Keep (fun g=>g < W.heap.size) W wX∧j ≤ ts.length∧Hid (OneQ BB Rq wX pa mb m ms gq vq)∧Hid (KRow BB Rq wX (.slice va ks.length vc) ks gq vq)∧Hid (Sent W m ms ks)) (ts.length - 0) ⟨0,_,_,[],_,_,[],rfl,R,h0,h4,h5,h6,h8,h38,h39,h40,K1,Nat.zero_le _,HPO,HKR,HSE⟩ ?_
 clear R h0 h4 h5 h6 h8 h38 h39 h40 K1
 rintro n132 a130 w131 ⟨j,Rq,vq,ms,va,vc,ks,rfl,R,h0,h4,h5,h6,h8,h38,h39,h40,K1,hj,HPO,HKR,HSE⟩
 have KP:=Keep.refl (fun g=>g < w131.heap.size) w131
 refine wp_seq (x:=cq4_30) (y:=cq4_31) ?_
 change (Code.region 9 Oq4_9 false).wp _ _ _ _
 refine reg_in (l:=[0]) rfl ?_
 have F:FE_ _ [] a130 a130:=⟨R,Ag_.refl _⟩;clear R
 obtain ⟨b133,hb133⟩:∃ x,(decide ((j:Int) < (ts.length:Int)))=x:=⟨_,rfl⟩
 have Y:(execOp a130.eval oq4_9_0).run Try.prog w131=.ok (.value (.bool b133)) w131:=by have r39:=F.of h39;have r40:=F.of h40;rw [← hb133];unfold oq4_9_0;go_simp
 refine sv_ gq4_9_0 Y fun a134 e=>?_;clear Y
 have h41:=pt_ F e;replace F:=pu_ F e;clear e
 refine st_end ?_
 replace h0:=F.of h0;replace h4:=F.of h4;replace h5:=F.of h5;replace h6:=F.of h6;replace h8:=F.of h8;replace h38:=F.of h38;replace h39:=F.of h39;replace h40:=F.of h40;have R:=F.r;clear F
 change (cq4_31).wp _ _ _ _
 refine wp_seq (x:=cq4_32) (y:=cq4_35) ?_
 cases b133 with
 | false =>
  have fb133:=hb133;clear hb133
  simp only [decide_eq_true_eq,decide_eq_false_iff_not,bne_iff_ne,bne_eq_false_iff_eq,beq_iff_eq,beq_eq_false_iff_ne,ne_eq,Bool.not_eq_true',Bool.not_eq_false',Bool.not_eq_eq_eq_not,Bool.not_true,Bool.not_false] at fb133
  refine wp_cond_false (x:=Code.skip) (y:=cq4_34) (eval_slot h41) ?_
  refine wp_exit ?_
  change (cq4_53).wp _ _ _ _
  refine wp_seq (x:=cq4_54) (y:=cq4_80) ?_
  refine wp_seq (x:=cq4_55) (y:=cq4_56) ?_
  change (Code.region 17 Oq4_17 false).wp _ _ _ _
  refine reg_in (l:=[0,1,2]) rfl ?_
  have F:FE_ _ [] a134 a134:=⟨R,Ag_.refl _⟩;clear R
  refine sv_ gq4_17_0 (ym_ rfl (F.of h8)) fun a135 e=>?_
  have h69:=pt_ F e;replace F:=pu_ F e;clear e
  have Y:(execOp a135.eval oq4_17_1).run Try.prog w131=.ok (.value (.int .i64 ks.length)) w131:=by unfold oq4_17_1;go_simp
  refine sv_ gq4_17_1 Y fun a136 e=>?_;clear Y
  have h70:=pt_ F e;replace F:=pu_ F e;replace h69:=so_ e h69;clear e
  have Y:(execOp a136.eval oq4_17_2).run Try.prog w131=.ok (.value (.int .i64 0)) w131:=by unfold oq4_17_2;go_simp
  refine sv_ gq4_17_2 Y fun a137 e=>?_;clear Y
  have h71:=pt_ F e;replace F:=pu_ F e;replace h69:=so_ e h69;replace h70:=so_ e h70;clear e
  refine st_end ?_
  replace h0:=F.of h0;replace h4:=F.of h4;replace h5:=F.of h5;replace h6:=F.of h6;replace h8:=F.of h8;replace h38:=F.of h38;replace h39:=F.of h39;replace h40:=F.of h40;replace h41:=F.of h41;have R:=F.r;clear F
  change (cq4_56).wp _ _ _ _
  refine wp_block (id:=2) (c:=cq4_57) ?_
  have HKL:Hid (ks.length ≤ 64):=Lib.hid (by have h1:=HSE.out.len;have h2:=HPO.out.lt.2.2.2.2.2;omega)
  have HPR:=Lib.hid (HPO.out.on KP);have HKQ:=Lib.hid (HKR.out.on KP);clear HPO HKR KP;have HPO:=HPR;have HKR:=HKQ;clear HPR HKQ
  refine wp_loop_ghost (c:=cq4_58) (fun n fX wX=>∃ i:Nat,∃ vq:Value,∃ ms:List TP,n=ks.length - i∧FrS 131 fX∧fX.tmps[0]? = some (.int .i64 most)∧fX.tmps[4]? = some (.bool false)∧fX.tmps[5]? = some (.pointer (some ⟨pa,0,none⟩))∧fX.tmps[6]? = some (.int .i64 1)∧fX.tmps[8]? = some (.slice va ks.length vc)∧fX.tmps[38]? = some (.slice sa ts.length sc)∧fX.tmps[39]? = some (.int .i64 ts.length)∧fX.tmps[40]? = some (.int .i64 (j:Int))∧fX.tmps[41]? = some (.bool false)∧fX.tmps[69]? = some (.slice va ks.length vc)∧fX.tmps[70]? = some (.int .i64 ks.length)∧fX.tmps[71]? = some (.int .i64 (i:Int))∧Keep (fun g=>g < W.heap.size) W wX∧i ≤ ks.length∧Hid (OneQ BB Rq wX pa mb m ms gq vq)∧Hid (KRow BB Rq wX (.slice va ks.length vc) ks gq vq)∧Hid (ms.map (·.1)=(ks.drop i).map (fun p=>(p.1.tree.ren 1).tm))) (ks.length - 0) ⟨0,_,_,rfl,R,h0,h4,h5,h6,h8,h38,h39,h40,h41,h69,h70,h71,K1,Nat.zero_le _,HPO,HKR,(Lib.hid HSE.out.1)⟩ ?_
  clear R h0 h4 h5 h6 h8 h38 h39 h40 h41 h69 h70 h71 K1
  rintro n140 a138 w139 ⟨i,vq,ms,rfl,R,h0,h4,h5,h6,h8,h38,h39,h40,h41,h69,h70,h71,K1,hi,HPO,HKR,HMS⟩
  have KP:=Keep.refl (fun g=>g < w139.heap.size) w139
  have hlen:=HSE.out.len;have hkl:ks.length ≤ 64:=HKL.out
  refine wp_seq (x:=cq4_59) (y:=cq4_60) ?_
  change (Code.region 18 Oq4_18 false).wp _ _ _ _
  refine reg_in (l:=[0]) rfl ?_
  have F:FE_ _ [] a138 a138:=⟨R,Ag_.refl _⟩;clear R
  obtain ⟨b141,hb141⟩:∃ x,(decide ((i:Int) < (ks.length:Int)))=x:=⟨_,rfl⟩
  have Y:(execOp a138.eval oq4_18_0).run Try.prog w139=.ok (.value (.bool b141)) w139:=by have r70:=F.of h70;have r71:=F.of h71;rw [← hb141];unfold oq4_18_0;go_simp
  refine sv_ gq4_18_0 Y fun a142 e=>?_;clear Y
  have h72:=pt_ F e;replace F:=pu_ F e;clear e
  refine st_end ?_
  replace h0:=F.of h0;replace h4:=F.of h4;replace h5:=F.of h5;replace h6:=F.of h6;replace h8:=F.of h8;replace h38:=F.of h38;replace h39:=F.of h39;replace h40:=F.of h40;replace h41:=F.of h41;replace h69:=F.of h69;replace h70:=F.of h70;replace h71:=F.of h71;have R:=F.r;clear F
  change (cq4_60).wp _ _ _ _
  refine wp_seq (x:=cq4_61) (y:=cq4_64) ?_
  cases b141 with
  | false =>
   have fb141:=hb141;clear hb141
   simp only [decide_eq_true_eq,decide_eq_false_iff_not,bne_iff_ne,bne_eq_false_iff_eq,beq_iff_eq,beq_eq_false_iff_ne,ne_eq,Bool.not_eq_true',Bool.not_eq_false',Bool.not_eq_eq_eq_not,Bool.not_true,Bool.not_false] at fb141
   refine wp_cond_false (x:=Code.skip) (y:=cq4_63) (eval_slot h72) ?_
   refine wp_exit ?_
   change (cq4_80).wp _ _ _ _
   refine wp_seq (x:=cq4_81) (y:=cq4_82) ?_
   change (Code.region 25 Oq4_25 false).wp _ _ _ _
   refine reg_in (l:=[0,1,2,3,4,5,6,7,8,9]) rfl ?_
   have F:FE_ _ [] a142 a142:=⟨R,Ag_.refl _⟩;clear R
   refine sv_ gq4_25_0 (ym_ rfl (F.of h5)) fun a143 e=>?_
   have h109:=pt_ F e;replace F:=pu_ F e;clear e
   refine sv_ gq4_25_1 (ym_ rfl (F.of h6)) fun a144 e=>?_
   have h110:=pt_ F e;replace F:=pu_ F e;replace h109:=so_ e h109;clear e
   have Y:(execOp a144.eval oq4_25_2).run Try.prog w139=.ok (.enter 26 #[.int .i64 1]) w139:=by unfold oq4_25_2;go_simp
   have hc:Calls Try.prog 26 #[.int .i64 1] w139 (fun e w'=>e=.returned (.agg #[.int .i64 1,.string (⟨#[]⟩),.int .i64 1,.slice none 0 0])∧Keep (fun g=>g < w139.heap.size) w139 w'):=refV_any w139 1
   refine st_call gq4_25_2 rfl (wanted_free rfl) Y ((hc).mono ?_);clear Y
   rintro e9 w145 ⟨rfl,kk⟩
   replace K1:=keep_onto K1 kk
   replace KP:=keep_onto KP kk
   clear hc
   clear kk
   refine ⟨_,rfl,fun a146 e=>?_⟩
   have h111:=pt_ F e;replace F:=pu_ F e;replace h109:=so_ e h109;replace h110:=so_ e h110;clear e
   have Y:(execOp a146.eval oq4_25_3).run Try.prog w145=.ok (.enter 27 #[.pointer (some ⟨pa,0,none⟩),.int .i64 1,.agg #[.int .i64 1,.string (⟨#[]⟩),.int .i64 1,.slice none 0 0]]) w145:=by unfold oq4_25_3;go_simp
   have hnil:ms=[]:=by have h:=HMS.out;rw [List.drop_of_length_le (by omega)] at h;exact List.map_eq_nil_iff.1 h
   subst hnil
   have hcall:Calls Try.prog 27 #[.pointer (some ⟨pa,0,none⟩),.int .i64 1,.agg #[.int .i64 1,.string (⟨#[]⟩),.int .i64 1,.slice none 0 0]] w145 (fun e w'=>e=.returned (.tuple #[.agg #[.int .i64 0,.string ⟨#[]⟩,.int .i64 0,.slice none 0 0],.int .i64 141])∧Keep (fun g=>g < w145.heap.size) w145 w'):=get1_no (t:=.node 1 [] 1 []) (HPO.out.on KP) (tm_V (by decide)) (by kernel_rfl) (fun p hp=>by simp at hp)
   refine st_call gq4_25_3 rfl (wanted_free rfl) Y ((hcall).mono ?_);clear Y
   rintro e9 w147 ⟨rfl,kk⟩
   replace K1:=keep_onto K1 kk
   replace KP:=keep_onto KP kk
   clear hcall
   clear kk
   refine ⟨_,rfl,fun a148 e=>?_⟩
   clear h109 h110 h111;have h112:=pt_ F e;replace F:=pu_ F e;clear e
   refine sv_ gq4_25_4 (ym_ rfl h112) fun a149 e=>?_
   clear h112;have h108:=pt_ F e;replace F:=pu_ F e;clear e
   refine sv_ gq4_25_5 (ye20_ rfl h108) fun a150 e=>?_
   have h113:=pt_ F e;replace F:=pu_ F e;replace h108:=so_ e h108;clear e
   refine sv_ gq4_25_6 (ye21_ rfl h108) fun a151 e=>?_
   clear h108;have h114:=pt_ F e;replace F:=pu_ F e;replace h113:=so_ e h113;clear e
   have Y:(execOp a151.eval oq4_25_7).run Try.prog w147=.ok (.value (.pointer (some ⟨w147.heap.size,0,none⟩))) (w147.alloc (.cells #[.int .i64 0,.string (⟨#[]⟩),.int .i64 0,.slice none 0 0] 24)):=by unfold oq4_25_7;go_simp
   have B152:=Blk.new w147 24 #[.int .i64 0,.string (⟨#[]⟩),.int .i64 0,.slice none 0 0]
   obtain ⟨w153,hw⟩:∃ x,x=w147.alloc (.cells #[.int .i64 0,.string (⟨#[]⟩),.int .i64 0,.slice none 0 0] 24):=⟨_,rfl⟩;rw [← hw] at Y B152
   obtain ⟨b152,hb⟩:∃ x,x=w147.heap.size:=⟨_,rfl⟩;rw [← hb] at Y B152
   have LK1_b152:=lk_ hb K1;replace K1:=ka_ hw K1;have LKP_b152:=lk_ hb KP;replace KP:=ka_ hw KP;clear hw hb
   refine sv_ gq4_25_7 Y fun a154 e=>?_;clear Y
   have h18:=pt_ F e;replace F:=pu_ F e;replace h113:=so_ e h113;replace h114:=so_ e h114;clear e
   obtain ⟨w155,Y,hk,hB⟩:=ys4_ (o:=oq4_25_8) rfl h18 h113 B152
   replace K1:=kx_ hk K1 (Nat.not_lt.2 LK1_b152);replace KP:=kx_ hk KP (Nat.not_lt.2 LKP_b152);clear B152;have B152:=hB;clear hB hk
   refine st_skip gq4_25_8 rfl (wanted_free rfl) Y ?_;clear Y
   refine sv_ gq4_25_9 (ya_ rfl h114) fun a156 e=>?_
   clear h18 h113 h114;have h19:=pt_ F e;replace F:=pu_ F e;clear e
   refine st_end ?_
   replace h0:=F.of h0;replace h4:=F.of h4;replace h5:=F.of h5;replace h6:=F.of h6;replace h8:=F.of h8;replace h38:=F.of h38;replace h39:=F.of h39;replace h40:=F.of h40;replace h41:=F.of h41;replace h69:=F.of h69;replace h70:=F.of h70;replace h71:=F.of h71;replace h72:=F.of h72;have R:=F.r;clear F
   change (cq4_82).wp _ _ _ _
   refine wp_seq (x:=cq4_83) (y:=cq4_84) ?_
   change (Code.region 26 Oq4_26 false).wp _ _ _ _
   refine reg_in (l:=[0,1,2,3,4,5,6,7]) rfl ?_
   have F:FE_ _ [] a156 a156:=⟨R,Ag_.refl _⟩;clear R
   refine sv_ gq4_26_0 (ym_ rfl (F.of h5)) fun a157 e=>?_
   have h116:=pt_ F e;replace F:=pu_ F e;clear e
   refine sv_ gq4_26_1 (ym_ rfl (F.of h6)) fun a158 e=>?_
   have h117:=pt_ F e;replace F:=pu_ F e;replace h116:=so_ e h116;clear e
   have hcall:Calls Try.prog 29 #[.pointer (some ⟨pa,0,none⟩),.int .i64 1] w155 (fun e w'=>e=.returned (.tuple #[.int .i64 0,.int .i64 0])∧Keep (fun g=>g < w155.heap.size) w155 w'):=len1 (HPO.out.on KP)
   refine st_call gq4_26_2 rfl (wanted_free rfl) (yc2_ enq4_29 rfl h116 h117) ((hcall).mono ?_)
   rintro e9 w159 ⟨rfl,kk⟩
   replace K1:=keep_onto K1 kk
   replace KP:=keep_onto KP kk
   replace B152:=blk_on B152 kk
   clear hcall
   clear kk
   refine ⟨_,rfl,fun a160 e=>?_⟩
   clear h116 h117;have h118:=pt_ F e;replace F:=pu_ F e;clear e
   refine sv_ gq4_26_3 (ym_ rfl h118) fun a161 e=>?_
   clear h118;have h115:=pt_ F e;replace F:=pu_ F e;clear e
   refine sv_ gq4_26_4 (ye20_ rfl h115) fun a162 e=>?_
   have h119:=pt_ F e;replace F:=pu_ F e;replace h115:=so_ e h115;clear e
   refine sv_ gq4_26_5 (ye21_ rfl h115) fun a163 e=>?_
   clear h115;have h120:=pt_ F e;replace F:=pu_ F e;replace h119:=so_ e h119;clear e
   refine sv_ gq4_26_6 (ya_ rfl h119) fun a164 e=>?_
   clear h119;have h20:=pt_ F e;replace F:=pu_ F e;replace h120:=so_ e h120;clear e
   refine sv_ gq4_26_7 (ya_ rfl h120) fun a165 e=>?_
   clear h120;have h21:=pt_ F e;replace F:=pu_ F e;replace h20:=so_ e h20;clear e
   refine st_end ?_
   replace h0:=F.of h0;replace h4:=F.of h4;replace h5:=F.of h5;replace h6:=F.of h6;replace h8:=F.of h8;replace h19:=F.of h19;replace h38:=F.of h38;replace h39:=F.of h39;replace h40:=F.of h40;replace h41:=F.of h41;replace h69:=F.of h69;replace h70:=F.of h70;replace h71:=F.of h71;replace h72:=F.of h72;have R:=F.r;clear F
   change (cq4_84).wp _ _ _ _
   refine wp_seq (x:=cq4_85) (y:=Code.ret) ?_
   change (Code.region 27 Oq4_27 false).wp _ _ _ _
   refine reg_in (l:=[0,1,2,3,4,5,6,7,8,9,10]) rfl ?_
   have F:FE_ _ [] a165 a165:=⟨R,Ag_.refl _⟩;clear R
   refine sv_ gq4_27_0 (ym_ rfl (F.of h19)) fun a166 e=>?_
   have h121:=pt_ F e;replace F:=pu_ F e;clear e
   have Y:(execOp a166.eval oq4_27_1).run Try.prog w159=.ok (.value (.bool true)) w159:=by unfold oq4_27_1;go_simp
   refine sv_ gq4_27_1 Y fun a167 e=>?_;clear Y
   clear h121;have h122:=pt_ F e;replace F:=pu_ F e;clear e
   refine sv_ gq4_27_2 (ym_ rfl h122) fun a168 e=>?_
   clear h122;have h123:=pt_ F e;replace F:=pu_ F e;clear e
   refine st_val gq4_27_3 rfl (wanted_is (j:=2) (d:=123) rfl rfl h123 rfl) (ym_ rfl (F.of h20)) fun a169 e=>?_
   have h124:=pt_ F e;replace F:=pu_ F e;replace h123:=so_ e h123;clear e
   have Y:(execOp a169.eval oq4_27_4).run Try.prog w159=.ok (.value (.bool true)) w159:=by unfold oq4_27_4;go_simp
   refine st_val gq4_27_4 rfl (wanted_is (j:=2) (d:=123) rfl rfl h123 rfl) Y fun a170 e=>?_;clear Y
   clear h124;have h125:=pt_ F e;replace F:=pu_ F e;replace h123:=so_ e h123;clear e
   have Y:(execOp a170.eval oq4_27_5).run Try.prog w159=.ok (.value (.bool true)) w159:=by unfold oq4_27_5;go_simp
   refine sv_ gq4_27_5 Y fun a171 e=>?_;clear Y
   clear h123 h125;have h126:=pt_ F e;replace F:=pu_ F e;clear e
   refine sv_ gq4_27_6 (ym_ rfl h126) fun a172 e=>?_
   clear h126;have h127:=pt_ F e;replace F:=pu_ F e;clear e
   refine st_val gq4_27_7 rfl (wanted_is (j:=6) (d:=127) rfl rfl h127 rfl) (ym_ rfl (F.of h21)) fun a173 e=>?_
   have h128:=pt_ F e;replace F:=pu_ F e;replace h127:=so_ e h127;clear e
   have Y:(execOp a173.eval oq4_27_8).run Try.prog w159=.ok (.value (.bool true)) w159:=by unfold oq4_27_8;go_simp
   refine st_val gq4_27_8 rfl (wanted_is (j:=6) (d:=127) rfl rfl h127 rfl) Y fun a174 e=>?_;clear Y
   clear h128;have h129:=pt_ F e;replace F:=pu_ F e;replace h127:=so_ e h127;clear e
   have Y:(execOp a174.eval oq4_27_9).run Try.prog w159=.ok (.value (.bool true)) w159:=by unfold oq4_27_9;go_simp
   refine sv_ gq4_27_9 Y fun a175 e=>?_;clear Y
   clear h127 h129;have h130:=pt_ F e;replace F:=pu_ F e;clear e
   refine sv_ gq4_27_10 (ya_ rfl h130) fun a176 e=>?_
   clear h130 h4;have h4:=pt_ F e;replace F:=pu_ F e;clear e
   refine st_end ?_
   replace h0:=F.of h0;replace h5:=F.of h5;replace h6:=F.of h6;replace h8:=F.of h8;clear h19;clear h20;clear h21;replace h38:=F.of h38;replace h39:=F.of h39;replace h40:=F.of h40;replace h41:=F.of h41;replace h69:=F.of h69;replace h70:=F.of h70;replace h71:=F.of h71;replace h72:=F.of h72;have R:=F.r;clear F
   change (Code.ret).wp _ _ _ _
   refine wp_ret ?_
   change bodyPost Try.prog Try.f4 (fun e w'=>e=.returned (.bool true)∧Keep (fun g=>g < W.heap.size) W w') .ret a176 w159
   refine ret_one rfl R h4 ?_
   exact ⟨rfl,K1⟩
  | true =>
   have fb141:=hb141;clear hb141
   simp only [decide_eq_true_eq,decide_eq_false_iff_not,bne_iff_ne,bne_eq_false_iff_eq,beq_iff_eq,beq_eq_false_iff_ne,ne_eq,Bool.not_eq_true',Bool.not_eq_false',Bool.not_eq_eq_eq_not,Bool.not_true,Bool.not_false] at fb141
   refine wp_cond_true (x:=Code.skip) (y:=cq4_63) (eval_slot h72) ?_
   refine wp_skip ?_
   change (cq4_64).wp _ _ _ _
   refine wp_seq (x:=cq4_65) (y:=cq4_79) ?_
   refine wp_block (id:=3) (c:=cq4_66) ?_
   refine wp_seq (x:=cq4_67) (y:=cq4_68) ?_
   change (Code.region 19 Oq4_19 false).wp _ _ _ _
   refine reg_in (l:=[0,1,2,3]) rfl ?_
   have F:FE_ _ [] a142 a142:=⟨R,Ag_.refl _⟩;clear R
   obtain ⟨p,hp⟩:∃ p,ks[i]? = some p:=⟨_,List.getElem?_eq_getElem (by omega)⟩
   have hts:TmSl w139.heap.size w139 va ks:=KRow.tmsl (HKR.out.on KP) (fun p hp=>(HSE.out.2 p hp).2.on K1)
   obtain ⟨bA,oA,hsA,-⟩:=tmsl_addr hts (show i < ks.length by omega)
   have hltA:(i:Int) < (ks.length:Int):=by omega
   have HPR:=Lib.hid (HSE.out.2 p (List.mem_of_getElem? hp));have HT2:=Lib.hid hts;clear hts;have HP:=Lib.hid hp;clear hp;have HSA:=Lib.hid hsA;clear hsA
   have Y:(execOp a142.eval oq4_19_0).run Try.prog w139=.ok (.value (.pointer (some ⟨bA,oA + i * 4,none⟩))) w139:=by have r69:=F.of h69;have r71:=F.of h71;have hA:=HSA.out;unfold oq4_19_0;go_simp
   refine sv_ gq4_19_0 Y fun a177 e=>?_;clear Y
   have h73:=pt_ F e;replace F:=pu_ F e;clear e
   have Y:(execOp a177.eval oq4_19_1).run Try.prog w139=.ok (.value (.agg #[.int .i64 p.1.k,.string (str p.1.nm),.int .i64 p.1.i,.slice p.2.1 p.1.args.length p.2.2])) w139:=by obtain ⟨⟨c0,c1,c2,c3⟩,-⟩:=tmsl_at HT2.out HSA.out HP.out;unfold oq4_19_1;go_simp
   refine sv_ gq4_19_1 Y fun a178 e=>?_;clear Y
   have h74:=pt_ F e;replace F:=pu_ F e;replace h73:=so_ e h73;clear e
   have Y:(execOp a178.eval oq4_19_2).run Try.prog w139=.ok (.value (.pointer (some ⟨w139.heap.size,0,none⟩))) (w139.alloc (.cells #[.int .i64 0,.string (⟨#[]⟩),.int .i64 0,.slice none 0 0] 24)):=by unfold oq4_19_2;go_simp
   have B179:=Blk.new w139 24 #[.int .i64 0,.string (⟨#[]⟩),.int .i64 0,.slice none 0 0]
   obtain ⟨w180,hw⟩:∃ x,x=w139.alloc (.cells #[.int .i64 0,.string (⟨#[]⟩),.int .i64 0,.slice none 0 0] 24):=⟨_,rfl⟩;rw [← hw] at Y B179
   obtain ⟨b179,hb⟩:∃ x,x=w139.heap.size:=⟨_,rfl⟩;rw [← hb] at Y B179
   have LK1_b179:=lk_ hb K1;replace K1:=ka_ hw K1;have LKP_b179:=lk_ hb KP;replace KP:=ka_ hw KP;clear hw hb
   refine sv_ gq4_19_2 Y fun a181 e=>?_;clear Y
   have h13:=pt_ F e;replace F:=pu_ F e;replace h73:=so_ e h73;replace h74:=so_ e h74;clear e
   obtain ⟨w182,Y,hk,hB⟩:=ys4_ (o:=oq4_19_3) rfl h13 h74 B179
   replace K1:=kx_ hk K1 (Nat.not_lt.2 LK1_b179);replace KP:=kx_ hk KP (Nat.not_lt.2 LKP_b179);clear B179;have B179:=hB;clear hB hk
   refine st_skip gq4_19_3 rfl (wanted_free rfl) Y ?_;clear Y
   refine st_end ?_
   replace h0:=F.of h0;replace h4:=F.of h4;replace h5:=F.of h5;replace h6:=F.of h6;replace h8:=F.of h8;replace h38:=F.of h38;replace h39:=F.of h39;replace h40:=F.of h40;replace h41:=F.of h41;replace h69:=F.of h69;replace h70:=F.of h70;replace h71:=F.of h71;replace h72:=F.of h72;have R:=F.r;clear F
   change (cq4_68).wp _ _ _ _
   refine wp_seq (x:=cq4_69) (y:=cq4_70) ?_
   change (Code.region 20 Oq4_20 false).wp _ _ _ _
   refine reg_in (l:=[0,1,2,3,4,5,6,7,8,9]) rfl ?_
   have F:FE_ _ [] a181 a181:=⟨R,Ag_.refl _⟩;clear R
   refine sv_ gq4_20_0 (ym_ rfl (F.of h5)) fun a183 e=>?_
   have h76:=pt_ F e;replace F:=pu_ F e;clear e
   refine sv_ gq4_20_1 (ym_ rfl (F.of h6)) fun a184 e=>?_
   have h77:=pt_ F e;replace F:=pu_ F e;replace h76:=so_ e h76;clear e
   have Y:(execOp a184.eval oq4_20_2).run Try.prog w182=.ok (.enter 26 #[.int .i64 5]) w182:=by unfold oq4_20_2;go_simp
   have hc:Calls Try.prog 26 #[.int .i64 5] w182 (fun e w'=>e=.returned (.agg #[.int .i64 1,.string (⟨#[]⟩),.int .i64 5,.slice none 0 0])∧Keep (fun g=>g < w182.heap.size) w182 w'):=refV_any w182 5
   refine st_call gq4_20_2 rfl (wanted_free rfl) Y ((hc).mono ?_);clear Y
   rintro e9 w185 ⟨rfl,kk⟩
   replace K1:=keep_onto K1 kk
   replace KP:=keep_onto KP kk
   replace B179:=blk_on B179 kk
   clear hc
   clear kk
   refine ⟨_,rfl,fun a186 e=>?_⟩
   have h78:=pt_ F e;replace F:=pu_ F e;replace h76:=so_ e h76;replace h77:=so_ e h77;clear e
   have Y:(execOp a186.eval oq4_20_3).run Try.prog w185=.ok (.enter 25 #[.pointer (some ⟨pa,0,none⟩),.int .i64 1,.agg #[.int .i64 1,.string (⟨#[]⟩),.int .i64 5,.slice none 0 0]]) w185:=by unfold oq4_20_3;go_simp
   clear HT2;obtain ⟨u,hu⟩:∃ q,(p.1.tree.ren 1).tm=q:=⟨_,rfl⟩;obtain ⟨am,cm,hm0,hm2⟩:=first_of HMS.out HP.out;rw [hu] at hm0;have HU:=Lib.hid hu;clear hu;have HM0:=Lib.hid hm0;have HM2:=Lib.hid hm2;clear hm0 hm2
   obtain ⟨LO,hLO⟩:∃ q,q=w185.heap.size:=⟨_,rfl⟩;have HVL:w139.heap.size ≤ LO:=by rw [hLO];exact KP.size
   have hcall:Calls Try.prog 25 #[.pointer (some ⟨pa,0,none⟩),.int .i64 1,.agg #[.int .i64 1,.string (⟨#[]⟩),.int .i64 5,.slice none 0 0]] w185 (fun e w'=>∃ a' c',e=.returned (.tuple #[tv u a' c',.int .i64 0])∧Fr 0 (fun _=>False) w' LO w'.heap.size u a' c'∧Keep (fun g=>g < w185.heap.size) w185 w'):=by rw [hLO];exact peek1_yes (t:=.node 1 [] 5 []) (j:=0) (p:=(u,am,cm)) (HPO.out.on KP) (tm_V (by decide)) (by kernel_rfl) HM0.out (fit_var (HPO.out.msg _ (List.mem_of_getElem? HM0.out)) 5) (fun k x hk=>absurd hk (Nat.not_lt_zero _))
   have Eb179:b179 < LO:=by rw [hLO];exact B179.lt
   clear hLO
   refine st_call gq4_20_3 rfl (wanted_free rfl) Y ((hcall).mono ?_);clear Y
   rintro e9 w187 ⟨ay,cy,rfl,hy,kk⟩
   replace K1:=keep_onto K1 kk
   replace KP:=keep_onto KP kk
   replace B179:=blk_on B179 kk
   clear hcall
   clear kk
   have HY:=Lib.hid hy;clear hy
   have KY:=Keep.refl (fun g=>LO ≤ g∧g < w187.heap.size) w187
   refine ⟨_,rfl,fun a188 e=>?_⟩
   have h79:=pt_ F e;replace F:=pu_ F e;replace h76:=so_ e h76;replace h77:=so_ e h77;replace h78:=so_ e h78;clear e
   refine sv_ gq4_20_4 (ym_ rfl h79) fun a189 e=>?_
   have h75:=pt_ F e;replace F:=pu_ F e;replace h76:=so_ e h76;replace h77:=so_ e h77;replace h78:=so_ e h78;replace h79:=so_ e h79;clear e
   refine sv_ gq4_20_5 (ye20_ rfl h75) fun a190 e=>?_
   have h80:=pt_ F e;replace F:=pu_ F e;replace h75:=so_ e h75;replace h76:=so_ e h76;replace h77:=so_ e h77;replace h78:=so_ e h78;replace h79:=so_ e h79;clear e
   refine sv_ gq4_20_6 (ye21_ rfl h75) fun a191 e=>?_
   have h81:=pt_ F e;replace F:=pu_ F e;replace h75:=so_ e h75;replace h76:=so_ e h76;replace h77:=so_ e h77;replace h78:=so_ e h78;replace h79:=so_ e h79;replace h80:=so_ e h80;clear e
   have Y:(execOp a191.eval oq4_20_7).run Try.prog w187=.ok (.value (.pointer (some ⟨w187.heap.size,0,none⟩))) (w187.alloc (.cells #[.int .i64 0,.string (⟨#[]⟩),.int .i64 0,.slice none 0 0] 24)):=by unfold oq4_20_7;go_simp
   have B192:=Blk.new w187 24 #[.int .i64 0,.string (⟨#[]⟩),.int .i64 0,.slice none 0 0]
   obtain ⟨w193,hw⟩:∃ x,x=w187.alloc (.cells #[.int .i64 0,.string (⟨#[]⟩),.int .i64 0,.slice none 0 0] 24):=⟨_,rfl⟩;rw [← hw] at Y B192
   obtain ⟨b192,hb⟩:∃ x,x=w187.heap.size:=⟨_,rfl⟩;rw [← hb] at Y B192
   have Nb179_b192:=nb_ hb B179;replace B179:=ba_ hw B179;have LK1_b192:=lk_ hb K1;replace K1:=ka_ hw K1;have LKP_b192:=lk_ hb KP;replace KP:=ka_ hw KP;have LKY_b192:=lk_ hb KY;replace KY:=ka_ hw KY;clear hw hb
   refine sv_ gq4_20_7 Y fun a194 e=>?_;clear Y
   have h14:=pt_ F e;replace F:=pu_ F e;replace h75:=so_ e h75;replace h76:=so_ e h76;replace h77:=so_ e h77;replace h78:=so_ e h78;replace h79:=so_ e h79;replace h80:=so_ e h80;replace h81:=so_ e h81;clear e
   obtain ⟨w195,Y,hk,hB⟩:=ys4_ (o:=oq4_20_8) rfl h14 h80 B192
   replace K1:=kx_ hk K1 (Nat.not_lt.2 LK1_b192);replace KP:=kx_ hk KP (Nat.not_lt.2 LKP_b192);replace KY:=kx_ hk KY (fun hx=>absurd hx.2 (Nat.not_lt.2 LKY_b192));replace B179:=bx_ hk B179 Nb179_b192;clear B192;have B192:=hB;clear hB hk
   refine st_skip gq4_20_8 rfl (wanted_free rfl) Y ?_;clear Y
   refine sv_ gq4_20_9 (ya_ rfl h81) fun a196 e=>?_
   have h15:=pt_ F e;replace F:=pu_ F e;replace h14:=so_ e h14;replace h75:=so_ e h75;replace h76:=so_ e h76;replace h77:=so_ e h77;replace h78:=so_ e h78;replace h79:=so_ e h79;replace h80:=so_ e h80;replace h81:=so_ e h81;clear e
   refine st_end ?_
   replace h0:=F.of h0;replace h4:=F.of h4;replace h5:=F.of h5;replace h6:=F.of h6;replace h8:=F.of h8;replace h13:=F.of h13;replace h38:=F.of h38;replace h39:=F.of h39;replace h40:=F.of h40;replace h41:=F.of h41;replace h69:=F.of h69;replace h70:=F.of h70;replace h71:=F.of h71;replace h72:=F.of h72;replace h73:=F.of h73;replace h74:=F.of h74;have R:=F.r;clear F
   change (cq4_70).wp _ _ _ _
   refine wp_seq (x:=cq4_71) (y:=cq4_72) ?_
   change (Code.region 21 Oq4_21 false).wp _ _ _ _
   refine reg_in (l:=[0,1,2,3,4,5,6,7,8,9]) rfl ?_
   have F:FE_ _ [] a196 a196:=⟨R,Ag_.refl _⟩;clear R
   refine sv_ gq4_21_0 (ym_ rfl (F.of h5)) fun a197 e=>?_
   have h83:=pt_ F e;replace F:=pu_ F e;clear e
   refine sv_ gq4_21_1 (ym_ rfl (F.of h6)) fun a198 e=>?_
   have h84:=pt_ F e;replace F:=pu_ F e;replace h83:=so_ e h83;clear e
   have Y:(execOp a198.eval oq4_21_2).run Try.prog w195=.ok (.enter 26 #[.int .i64 7]) w195:=by unfold oq4_21_2;go_simp
   have hc:Calls Try.prog 26 #[.int .i64 7] w195 (fun e w'=>e=.returned (.agg #[.int .i64 1,.string (⟨#[]⟩),.int .i64 7,.slice none 0 0])∧Keep (fun g=>g < w195.heap.size) w195 w'):=refV_any w195 7
   refine st_call gq4_21_2 rfl (wanted_free rfl) Y ((hc).mono ?_);clear Y
   rintro e9 w199 ⟨rfl,kk⟩
   replace K1:=keep_onto K1 kk
   replace KP:=keep_onto KP kk
   replace KY:=KY.trans kk.all
   replace B179:=blk_on B179 kk
   replace B192:=blk_on B192 kk
   clear hc
   clear kk
   refine ⟨_,rfl,fun a200 e=>?_⟩
   have h85:=pt_ F e;replace F:=pu_ F e;replace h83:=so_ e h83;replace h84:=so_ e h84;clear e
   have Y:(execOp a200.eval oq4_21_3).run Try.prog w199=.ok (.enter 27 #[.pointer (some ⟨pa,0,none⟩),.int .i64 1,.agg #[.int .i64 1,.string (⟨#[]⟩),.int .i64 7,.slice none 0 0]]) w199:=by unfold oq4_21_3;go_simp
   have HKV:=Lib.hid (HKR.out.on KP)
   have hcall:Calls Try.prog 27 #[.pointer (some ⟨pa,0,none⟩),.int .i64 1,.agg #[.int .i64 1,.string (⟨#[]⟩),.int .i64 7,.slice none 0 0]] w199 (fun e w'=>∃ v':Value,e=.returned (.tuple #[tv u am cm,.int .i64 0])∧OneQ BB Rq w' pa mb m (ms.eraseIdx 0) gq v'∧Fr 0 Rq w' BB w'.heap.size u am cm∧(∀ b,v'.ownBlock=some b→vq.ownBlock=some b)∧Keep (fun b=>b < BB) w199 w'∧Keep (fun b=>b < w199.heap.size∧b ≠ gq∧vq.ownBlock ≠ some b) w199 w'):=get1_yes (t:=.node 1 [] 7 []) (j:=0) (p:=(u,am,cm)) (HPO.out.on KP) (tm_V (by decide)) (by kernel_rfl) HM0.out (fit_var (HPO.out.msg _ (List.mem_of_getElem? HM0.out)) 7) (fun k x hk=>absurd hk (Nat.not_lt_zero _))
   refine st_call gq4_21_3 rfl (wanted_free rfl) Y ((hcall).mono ?_);clear Y
   rintro e9 w201 ⟨vq2,rfl,hpo,hb,hv,kb,kf⟩
   have N_b179:=HPO.out.far LKP_b179
   have l_b179:=B179.lt;replace B179:=B179.keep kf ⟨B179.lt,N_b179.1,N_b179.2⟩
   have N_b192:=HPO.out.far LKP_b192
   have l_b192:=B192.lt;replace B192:=B192.keep kf ⟨B192.lt,N_b192.1,N_b192.2⟩
   replace K1:=K1.trans (kb.less fun g hg=>Nat.lt_of_lt_of_le hg HWB)
   clear KP
   replace KY:=KY.trans (kf.at_ fun g hl hg=>⟨hl,(HPO.out.far (Nat.le_trans HVL hg.1)).1,(HPO.out.far (Nat.le_trans HVL hg.1)).2⟩)
   replace N_b179:=far_get N_b179 hv;clear l_b179
   replace N_b192:=far_get N_b192 hv;clear l_b192
   have HKS:=Lib.hid (HKV.out.get kf hv);clear hcall kb kf hv HKV HKR;have kk:=trivial
   clear kk
   clear HPO;have HPO:=Lib.hid hpo;clear hpo;have HKR:=HKS;clear HKS;have HB:=Lib.hid (hb.at_ (Nat.zero_le _));clear hb
   have KP:=Keep.refl (fun g=>g < w201.heap.size) w201;have KB:=Keep.refl (fun g=>g < w201.heap.size) w201
   refine ⟨_,rfl,fun a202 e=>?_⟩
   have h86:=pt_ F e;replace F:=pu_ F e;replace h83:=so_ e h83;replace h84:=so_ e h84;replace h85:=so_ e h85;clear e
   refine sv_ gq4_21_4 (ym_ rfl h86) fun a203 e=>?_
   have h82:=pt_ F e;replace F:=pu_ F e;replace h83:=so_ e h83;replace h84:=so_ e h84;replace h85:=so_ e h85;replace h86:=so_ e h86;clear e
   refine sv_ gq4_21_5 (ye20_ rfl h82) fun a204 e=>?_
   have h87:=pt_ F e;replace F:=pu_ F e;replace h82:=so_ e h82;replace h83:=so_ e h83;replace h84:=so_ e h84;replace h85:=so_ e h85;replace h86:=so_ e h86;clear e
   refine sv_ gq4_21_6 (ye21_ rfl h82) fun a205 e=>?_
   have h88:=pt_ F e;replace F:=pu_ F e;replace h82:=so_ e h82;replace h83:=so_ e h83;replace h84:=so_ e h84;replace h85:=so_ e h85;replace h86:=so_ e h86;replace h87:=so_ e h87;clear e
   have Y:(execOp a205.eval oq4_21_7).run Try.prog w201=.ok (.value (.pointer (some ⟨w201.heap.size,0,none⟩))) (w201.alloc (.cells #[.int .i64 0,.string (⟨#[]⟩),.int .i64 0,.slice none 0 0] 24)):=by unfold oq4_21_7;go_simp
   have B206:=Blk.new w201 24 #[.int .i64 0,.string (⟨#[]⟩),.int .i64 0,.slice none 0 0]
   obtain ⟨w207,hw⟩:∃ x,x=w201.alloc (.cells #[.int .i64 0,.string (⟨#[]⟩),.int .i64 0,.slice none 0 0] 24):=⟨_,rfl⟩;rw [← hw] at Y B206
   obtain ⟨b206,hb⟩:∃ x,x=w201.heap.size:=⟨_,rfl⟩;rw [← hb] at Y B206
   have Nb179_b206:=nb_ hb B179;replace B179:=ba_ hw B179;have Nb192_b206:=nb_ hb B192;replace B192:=ba_ hw B192;have LK1_b206:=lk_ hb K1;replace K1:=ka_ hw K1;have LKY_b206:=lk_ hb KY;replace KY:=ka_ hw KY;have LKP_b206:=lk_ hb KP;replace KP:=ka_ hw KP;have LKB_b206:=lk_ hb KB;replace KB:=ka_ hw KB;clear hw hb
   refine sv_ gq4_21_7 Y fun a208 e=>?_;clear Y
   have h16:=pt_ F e;replace F:=pu_ F e;replace h82:=so_ e h82;replace h83:=so_ e h83;replace h84:=so_ e h84;replace h85:=so_ e h85;replace h86:=so_ e h86;replace h87:=so_ e h87;replace h88:=so_ e h88;clear e
   obtain ⟨w209,Y,hk,hB⟩:=ys4_ (o:=oq4_21_8) rfl h16 h87 B206
   replace K1:=kx_ hk K1 (Nat.not_lt.2 LK1_b206);replace KY:=kx_ hk KY (fun hx=>absurd hx.2 (Nat.not_lt.2 LKY_b206));replace KP:=kx_ hk KP (Nat.not_lt.2 LKP_b206);replace KB:=kx_ hk KB (Nat.not_lt.2 LKB_b206);replace B179:=bx_ hk B179 Nb179_b206;replace B192:=bx_ hk B192 Nb192_b206;clear B206;have B206:=hB;clear hB hk
   refine st_skip gq4_21_8 rfl (wanted_free rfl) Y ?_;clear Y
   refine sv_ gq4_21_9 (ya_ rfl h88) fun a210 e=>?_
   have h17:=pt_ F e;replace F:=pu_ F e;replace h16:=so_ e h16;replace h82:=so_ e h82;replace h83:=so_ e h83;replace h84:=so_ e h84;replace h85:=so_ e h85;replace h86:=so_ e h86;replace h87:=so_ e h87;replace h88:=so_ e h88;clear e
   refine st_end ?_
   replace h0:=F.of h0;replace h4:=F.of h4;replace h5:=F.of h5;replace h6:=F.of h6;replace h8:=F.of h8;replace h13:=F.of h13;replace h14:=F.of h14;replace h15:=F.of h15;replace h38:=F.of h38;replace h39:=F.of h39;replace h40:=F.of h40;replace h41:=F.of h41;replace h69:=F.of h69;replace h70:=F.of h70;replace h71:=F.of h71;replace h72:=F.of h72;replace h73:=F.of h73;replace h74:=F.of h74;replace h75:=F.of h75;replace h76:=F.of h76;replace h77:=F.of h77;replace h78:=F.of h78;replace h79:=F.of h79;replace h80:=F.of h80;replace h81:=F.of h81;have R:=F.r;clear F
   change (cq4_72).wp _ _ _ _
   refine wp_seq (x:=cq4_73) (y:=cq4_74) ?_
   change (Code.region 22 Oq4_22 false).wp _ _ _ _
   refine reg_in (l:=[0,1,2,3,4,5,6,7,8,9,10,11,12,13,14,15,16,17]) rfl ?_
   have F:FE_ _ [] a210 a210:=⟨R,Ag_.refl _⟩;clear R
   refine sv_ gq4_22_0 (ym_ rfl (F.of h15)) fun a211 e=>?_
   have h89:=pt_ F e;replace F:=pu_ F e;clear e
   have Y:(execOp a211.eval oq4_22_1).run Try.prog w209=.ok (.value (.bool false)) w209:=by unfold oq4_22_1;go_simp
   refine sv_ gq4_22_1 Y fun a212 e=>?_;clear Y
   have h90:=pt_ F e;replace F:=pu_ F e;replace h89:=so_ e h89;clear e
   refine sv_ gq4_22_2 (ym_ rfl h90) fun a213 e=>?_
   have h91:=pt_ F e;replace F:=pu_ F e;replace h89:=so_ e h89;replace h90:=so_ e h90;clear e
   refine st_val gq4_22_3 rfl (wanted_is (j:=2) (d:=91) rfl rfl h91 rfl) (ym_ rfl (F.of h17)) fun a214 e=>?_
   have h92:=pt_ F e;replace F:=pu_ F e;replace h89:=so_ e h89;replace h90:=so_ e h90;replace h91:=so_ e h91;clear e
   have Y:(execOp a214.eval oq4_22_4).run Try.prog w209=.ok (.value (.bool false)) w209:=by unfold oq4_22_4;go_simp
   refine st_val gq4_22_4 rfl (wanted_is (j:=2) (d:=91) rfl rfl h91 rfl) Y fun a215 e=>?_;clear Y
   have h93:=pt_ F e;replace F:=pu_ F e;replace h89:=so_ e h89;replace h90:=so_ e h90;replace h91:=so_ e h91;replace h92:=so_ e h92;clear e
   have Y:(execOp a215.eval oq4_22_5).run Try.prog w209=.ok (.value (.bool false)) w209:=by unfold oq4_22_5;go_simp
   refine sv_ gq4_22_5 Y fun a216 e=>?_;clear Y
   have h94:=pt_ F e;replace F:=pu_ F e;replace h89:=so_ e h89;replace h90:=so_ e h90;replace h91:=so_ e h91;replace h92:=so_ e h92;replace h93:=so_ e h93;clear e
   refine sv_ gq4_22_6 (ym_ rfl h94) fun a217 e=>?_
   have h95:=pt_ F e;replace F:=pu_ F e;replace h89:=so_ e h89;replace h90:=so_ e h90;replace h91:=so_ e h91;replace h92:=so_ e h92;replace h93:=so_ e h93;replace h94:=so_ e h94;clear e
   refine st_val gq4_22_7 rfl (wanted_is (j:=6) (d:=95) rfl rfl h95 rfl) (yl4_ rfl (F.of h14) B192) fun a218 e=>?_
   have h96:=pt_ F e;replace F:=pu_ F e;replace h89:=so_ e h89;replace h90:=so_ e h90;replace h91:=so_ e h91;replace h92:=so_ e h92;replace h93:=so_ e h93;replace h94:=so_ e h94;replace h95:=so_ e h95;clear e
   refine st_val gq4_22_8 rfl (wanted_is (j:=6) (d:=95) rfl rfl h95 rfl) (yl4_ rfl (F.of h13) B179) fun a219 e=>?_
   have h97:=pt_ F e;replace F:=pu_ F e;replace h89:=so_ e h89;replace h90:=so_ e h90;replace h91:=so_ e h91;replace h92:=so_ e h92;replace h93:=so_ e h93;replace h94:=so_ e h94;replace h95:=so_ e h95;replace h96:=so_ e h96;clear e
   have hcall:Calls Try.prog 28 #[.agg #[.int .i64 u.k,.string (str u.nm),.int .i64 u.i,.slice ay u.args.length cy],.agg #[.int .i64 p.1.k,.string (str p.1.nm),.int .i64 p.1.i,.slice p.2.1 p.1.args.length p.2.2]] w209 (fun e w'=>e=.returned (.bool true)∧Keep (fun g=>g < w209.heap.size) w209 w'):=by have h:=refVariant_any (t:=u) (u:=p.1) ((fr_from HY.out KY (Nat.le_refl _)).at_ (Nat.zero_le _)) (HPR.out.2.on K1) (by rw [← HU.out];exact (ren_facts HPR.out.1 (by decide) (by decide) (b:=1)).1) HPR.out.1;rw [show vtV u p.1=true by rw [← HU.out];exact (ren_facts HPR.out.1 (by decide) (by decide) (b:=1)).2.2.2.2.1] at h;exact h
   refine st_call gq4_22_9 rfl (wanted_is (j:=6) (d:=95) rfl rfl h95 rfl) (yc2_ enq4_28 rfl h96 h97) ((hcall).mono ?_)
   rintro e9 w220 ⟨rfl,kk⟩
   replace K1:=keep_onto K1 kk
   replace KY:=KY.trans kk.all
   replace KP:=keep_onto KP kk
   replace KB:=keep_onto KB kk
   replace B179:=blk_on B179 kk
   replace B192:=blk_on B192 kk
   replace B206:=blk_on B206 kk
   clear hcall
   clear kk
   refine ⟨_,rfl,fun a221 e=>?_⟩
   have h98:=pt_ F e;replace F:=pu_ F e;replace h89:=so_ e h89;replace h90:=so_ e h90;replace h91:=so_ e h91;replace h92:=so_ e h92;replace h93:=so_ e h93;replace h94:=so_ e h94;replace h95:=so_ e h95;replace h96:=so_ e h96;replace h97:=so_ e h97;clear e
   have Y:(execOp a221.eval oq4_22_10).run Try.prog w220=.ok (.value (.bool false)) w220:=by unfold oq4_22_10;go_simp
   refine st_val gq4_22_10 rfl (wanted_is (j:=6) (d:=95) rfl rfl h95 rfl) Y fun a222 e=>?_;clear Y
   have h99:=pt_ F e;replace F:=pu_ F e;replace h89:=so_ e h89;replace h90:=so_ e h90;replace h91:=so_ e h91;replace h92:=so_ e h92;replace h93:=so_ e h93;replace h94:=so_ e h94;replace h95:=so_ e h95;replace h96:=so_ e h96;replace h97:=so_ e h97;replace h98:=so_ e h98;clear e
   have Y:(execOp a222.eval oq4_22_11).run Try.prog w220=.ok (.value (.bool false)) w220:=by unfold oq4_22_11;go_simp
   refine sv_ gq4_22_11 Y fun a223 e=>?_;clear Y
   have h100:=pt_ F e;replace F:=pu_ F e;replace h89:=so_ e h89;replace h90:=so_ e h90;replace h91:=so_ e h91;replace h92:=so_ e h92;replace h93:=so_ e h93;replace h94:=so_ e h94;replace h95:=so_ e h95;replace h96:=so_ e h96;replace h97:=so_ e h97;replace h98:=so_ e h98;replace h99:=so_ e h99;clear e
   refine sv_ gq4_22_12 (ym_ rfl h100) fun a224 e=>?_
   have h101:=pt_ F e;replace F:=pu_ F e;replace h89:=so_ e h89;replace h90:=so_ e h90;replace h91:=so_ e h91;replace h92:=so_ e h92;replace h93:=so_ e h93;replace h94:=so_ e h94;replace h95:=so_ e h95;replace h96:=so_ e h96;replace h97:=so_ e h97;replace h98:=so_ e h98;replace h99:=so_ e h99;replace h100:=so_ e h100;clear e
   refine st_val gq4_22_13 rfl (wanted_is (j:=12) (d:=101) rfl rfl h101 rfl) (yl4_ rfl (F.of h14) B192) fun a225 e=>?_
   have h102:=pt_ F e;replace F:=pu_ F e;replace h89:=so_ e h89;replace h90:=so_ e h90;replace h91:=so_ e h91;replace h92:=so_ e h92;replace h93:=so_ e h93;replace h94:=so_ e h94;replace h95:=so_ e h95;replace h96:=so_ e h96;replace h97:=so_ e h97;replace h98:=so_ e h98;replace h99:=so_ e h99;replace h100:=so_ e h100;replace h101:=so_ e h101;clear e
   refine st_val gq4_22_14 rfl (wanted_is (j:=12) (d:=101) rfl rfl h101 rfl) (yl4_ rfl (F.of h16) B206) fun a226 e=>?_
   have h103:=pt_ F e;replace F:=pu_ F e;replace h89:=so_ e h89;replace h90:=so_ e h90;replace h91:=so_ e h91;replace h92:=so_ e h92;replace h93:=so_ e h93;replace h94:=so_ e h94;replace h95:=so_ e h95;replace h96:=so_ e h96;replace h97:=so_ e h97;replace h98:=so_ e h98;replace h99:=so_ e h99;replace h100:=so_ e h100;replace h101:=so_ e h101;replace h102:=so_ e h102;clear e
   refine st_call gq4_22_15 rfl (wanted_is (j:=12) (d:=101) rfl rfl h101 rfl) (yc2_ enq4_15 rfl h102 h103) ((refsame_sx (t:=u) (u:=u) ((fr_from HY.out KY (Nat.le_refl _)).at_ (Nat.zero_le _)) (HB.out.on KB) (by rw [← HU.out];exact (ren_facts HPR.out.1 (by decide) (by decide) (b:=1)).1) (by rw [← HU.out];exact (ren_facts HPR.out.1 (by decide) (by decide) (b:=1)).1) rfl).mono ?_)
   rintro e9 w227 ⟨rfl,kk⟩
   replace K1:=keep_onto K1 kk
   replace KY:=KY.trans kk.all
   replace KP:=keep_onto KP kk
   replace KB:=keep_onto KB kk
   replace B179:=blk_on B179 kk
   replace B192:=blk_on B192 kk
   replace B206:=blk_on B206 kk
   clear kk
   refine ⟨_,rfl,fun a228 e=>?_⟩
   have h104:=pt_ F e;replace F:=pu_ F e;replace h89:=so_ e h89;replace h90:=so_ e h90;replace h91:=so_ e h91;replace h92:=so_ e h92;replace h93:=so_ e h93;replace h94:=so_ e h94;replace h95:=so_ e h95;replace h96:=so_ e h96;replace h97:=so_ e h97;replace h98:=so_ e h98;replace h99:=so_ e h99;replace h100:=so_ e h100;replace h101:=so_ e h101;replace h102:=so_ e h102;replace h103:=so_ e h103;clear e
   have Y:(execOp a228.eval oq4_22_16).run Try.prog w227=.ok (.value (.bool false)) w227:=by unfold oq4_22_16;go_simp
   refine st_val gq4_22_16 rfl (wanted_is (j:=12) (d:=101) rfl rfl h101 rfl) Y fun a229 e=>?_;clear Y
   have h105:=pt_ F e;replace F:=pu_ F e;replace h89:=so_ e h89;replace h90:=so_ e h90;replace h91:=so_ e h91;replace h92:=so_ e h92;replace h93:=so_ e h93;replace h94:=so_ e h94;replace h95:=so_ e h95;replace h96:=so_ e h96;replace h97:=so_ e h97;replace h98:=so_ e h98;replace h99:=so_ e h99;replace h100:=so_ e h100;replace h101:=so_ e h101;replace h102:=so_ e h102;replace h103:=so_ e h103;replace h104:=so_ e h104;clear e
   have Y:(execOp a229.eval oq4_22_17).run Try.prog w227=.ok (.value (.bool false)) w227:=by unfold oq4_22_17;go_simp
   refine sv_ gq4_22_17 Y fun a230 e=>?_;clear Y
   have h106:=pt_ F e;replace F:=pu_ F e;replace h89:=so_ e h89;replace h90:=so_ e h90;replace h91:=so_ e h91;replace h92:=so_ e h92;replace h93:=so_ e h93;replace h94:=so_ e h94;replace h95:=so_ e h95;replace h96:=so_ e h96;replace h97:=so_ e h97;replace h98:=so_ e h98;replace h99:=so_ e h99;replace h100:=so_ e h100;replace h101:=so_ e h101;replace h102:=so_ e h102;replace h103:=so_ e h103;replace h104:=so_ e h104;replace h105:=so_ e h105;clear e
   refine st_end ?_
   replace h0:=F.of h0;replace h4:=F.of h4;replace h5:=F.of h5;replace h6:=F.of h6;replace h8:=F.of h8;replace h13:=F.of h13;replace h14:=F.of h14;replace h15:=F.of h15;replace h16:=F.of h16;replace h17:=F.of h17;replace h38:=F.of h38;replace h39:=F.of h39;replace h40:=F.of h40;replace h41:=F.of h41;replace h69:=F.of h69;replace h70:=F.of h70;replace h71:=F.of h71;replace h72:=F.of h72;replace h73:=F.of h73;replace h74:=F.of h74;replace h75:=F.of h75;replace h76:=F.of h76;replace h77:=F.of h77;replace h78:=F.of h78;replace h79:=F.of h79;replace h80:=F.of h80;replace h81:=F.of h81;replace h82:=F.of h82;replace h83:=F.of h83;replace h84:=F.of h84;replace h85:=F.of h85;replace h86:=F.of h86;replace h87:=F.of h87;replace h88:=F.of h88;have R:=F.r;clear F
   change (cq4_74).wp _ _ _ _
   refine wp_cond_false (x:=cq4_75) (y:=Code.skip) (eval_slot h106) ?_
   refine wp_skip ?_
   change (cq4_79).wp _ _ _ _
   change (Code.region 24 Oq4_24 false).wp _ _ _ _
   refine reg_in (l:=[0,1]) rfl ?_
   have F:FE_ _ [] a230 a230:=⟨R,Ag_.refl _⟩;clear R
   have Y:(execOp a230.eval oq4_24_0).run Try.prog w227=.ok (.value (.int .i64 ((i:Int) + 1))) w227:=by have r71:=F.of h71;have hwj:IntKind.i64.wrap ((i:Int) + 1)=(i:Int) + 1:=(by rw [IntKind.wrap_i64];omega);unfold oq4_24_0;go_simp
   refine sv_ gq4_24_0 Y fun a231 e=>?_;clear Y
   have h107:=pt_ F e;replace F:=pu_ F e;clear e
   refine sv_ gq4_24_1 (ym_ rfl h107) fun a232 e=>?_
   clear h71;have h71:=pt_ F e;replace F:=pu_ F e;replace h107:=so_ e h107;clear e
   refine st_end ?_
   replace h0:=F.of h0;replace h4:=F.of h4;replace h5:=F.of h5;replace h6:=F.of h6;replace h8:=F.of h8;replace h13:=F.of h13;replace h14:=F.of h14;replace h15:=F.of h15;replace h16:=F.of h16;replace h17:=F.of h17;replace h38:=F.of h38;replace h39:=F.of h39;replace h40:=F.of h40;replace h41:=F.of h41;replace h69:=F.of h69;replace h70:=F.of h70;replace h72:=F.of h72;replace h73:=F.of h73;replace h74:=F.of h74;replace h75:=F.of h75;replace h76:=F.of h76;replace h77:=F.of h77;replace h78:=F.of h78;replace h79:=F.of h79;replace h80:=F.of h80;replace h81:=F.of h81;replace h82:=F.of h82;replace h83:=F.of h83;replace h84:=F.of h84;replace h85:=F.of h85;replace h86:=F.of h86;replace h87:=F.of h87;replace h88:=F.of h88;replace h89:=F.of h89;replace h90:=F.of h90;replace h91:=F.of h91;replace h92:=F.of h92;replace h93:=F.of h93;replace h94:=F.of h94;replace h95:=F.of h95;replace h96:=F.of h96;replace h97:=F.of h97;replace h98:=F.of h98;replace h99:=F.of h99;replace h100:=F.of h100;replace h101:=F.of h101;replace h102:=F.of h102;replace h103:=F.of h103;replace h104:=F.of h104;replace h105:=F.of h105;replace h106:=F.of h106;have R:=F.r;clear F
   have HPR:=Lib.hid (HPO.out.on KP);have HKQ:=Lib.hid (HKR.out.on KP);clear HPO HKR KP;have HPO:=HPR;have HKR:=HKQ;clear HPR HKQ
   clear B179
   clear B192
   clear B206
   clear KY
   clear KB
   exact ⟨_,by omega,i + 1,_,_,rfl,R,h0,h4,h5,h6,h8,h38,h39,h40,h41,h69,h70,h71,K1,(by omega),HPO,HKR,(Lib.hid HM2.out)⟩
 | true =>
  have fb133:=hb133;clear hb133
  simp only [decide_eq_true_eq,decide_eq_false_iff_not,bne_iff_ne,bne_eq_false_iff_eq,beq_iff_eq,beq_eq_false_iff_ne,ne_eq,Bool.not_eq_true',Bool.not_eq_false',Bool.not_eq_eq_eq_not,Bool.not_true,Bool.not_false] at fb133
  refine wp_cond_true (x:=Code.skip) (y:=cq4_34) (eval_slot h41) ?_
  refine wp_skip ?_
  change (cq4_35).wp _ _ _ _
  refine wp_seq (x:=cq4_36) (y:=cq4_52) ?_
  refine wp_block (id:=1) (c:=cq4_37) ?_
  refine wp_seq (x:=cq4_38) (y:=cq4_39) ?_
  change (Code.region 10 Oq4_10 false).wp _ _ _ _
  refine reg_in (l:=[0,1,2,3]) rfl ?_
  have F:FE_ _ [] a134 a134:=⟨R,Ag_.refl _⟩;clear R
  obtain ⟨p,hp⟩:∃ p,ts[j]? = some p:=⟨_,List.getElem?_eq_getElem (by omega)⟩
  obtain ⟨bA,oA,hsA,-⟩:=tmsl_addr HTS.out (show j < ts.length by omega)
  have hltA:(j:Int) < (ts.length:Int):=by omega
  have HTP:=Lib.hid (tmsl_at HTS.out hsA hp).2;have HP:=Lib.hid hp;clear hp;have HSA:=Lib.hid hsA;clear hsA
  have Y:(execOp a134.eval oq4_10_0).run Try.prog w131=.ok (.value (.pointer (some ⟨bA,oA + j * 4,none⟩))) w131:=by have r38:=F.of h38;have r40:=F.of h40;have hA:=HSA.out;unfold oq4_10_0;go_simp
  refine sv_ gq4_10_0 Y fun a233 e=>?_;clear Y
  have h42:=pt_ F e;replace F:=pu_ F e;clear e
  have Y:(execOp a233.eval oq4_10_1).run Try.prog w131=.ok (.value (.agg #[.int .i64 p.1.k,.string (str p.1.nm),.int .i64 p.1.i,.slice p.2.1 p.1.args.length p.2.2])) w131:=by obtain ⟨⟨c0,c1,c2,c3⟩,-⟩:=tmsl_at (tmsl_on HTS.out K1) HSA.out HP.out;unfold oq4_10_1;go_simp
  refine sv_ gq4_10_1 Y fun a234 e=>?_;clear Y
  have h43:=pt_ F e;replace F:=pu_ F e;replace h42:=so_ e h42;clear e
  have Y:(execOp a234.eval oq4_10_2).run Try.prog w131=.ok (.value (.pointer (some ⟨w131.heap.size,0,none⟩))) (w131.alloc (.cells #[.int .i64 0,.string (⟨#[]⟩),.int .i64 0,.slice none 0 0] 24)):=by unfold oq4_10_2;go_simp
  have B235:=Blk.new w131 24 #[.int .i64 0,.string (⟨#[]⟩),.int .i64 0,.slice none 0 0]
  obtain ⟨w236,hw⟩:∃ x,x=w131.alloc (.cells #[.int .i64 0,.string (⟨#[]⟩),.int .i64 0,.slice none 0 0] 24):=⟨_,rfl⟩;rw [← hw] at Y B235
  obtain ⟨b235,hb⟩:∃ x,x=w131.heap.size:=⟨_,rfl⟩;rw [← hb] at Y B235
  have LK1_b235:=lk_ hb K1;replace K1:=ka_ hw K1;have LKP_b235:=lk_ hb KP;replace KP:=ka_ hw KP;clear hw hb
  refine sv_ gq4_10_2 Y fun a237 e=>?_;clear Y
  have h10:=pt_ F e;replace F:=pu_ F e;replace h42:=so_ e h42;replace h43:=so_ e h43;clear e
  obtain ⟨w238,Y,hk,hB⟩:=ys4_ (o:=oq4_10_3) rfl h10 h43 B235
  replace K1:=kx_ hk K1 (Nat.not_lt.2 LK1_b235);replace KP:=kx_ hk KP (Nat.not_lt.2 LKP_b235);clear B235;have B235:=hB;clear hB hk
  refine st_skip gq4_10_3 rfl (wanted_free rfl) Y ?_;clear Y
  refine st_end ?_
  replace h0:=F.of h0;replace h4:=F.of h4;replace h5:=F.of h5;replace h6:=F.of h6;replace h8:=F.of h8;replace h38:=F.of h38;replace h39:=F.of h39;replace h40:=F.of h40;replace h41:=F.of h41;have R:=F.r;clear F
  change (cq4_39).wp _ _ _ _
  refine wp_seq (x:=cq4_40) (y:=cq4_41) ?_
  change (Code.region 11 Oq4_11 false).wp _ _ _ _
  rcases three_ways p.1 m ms.length with hc | hc | hc
  ·
   have HC:=Lib.hid hc;clear hc
   refine reg_in (l:=[0,1,2,3,4]) rfl ?_
   have F:FE_ _ [] a237 a237:=⟨R,Ag_.refl _⟩;clear R
   refine sv_ gq4_11_0 (ym_ rfl (F.of h5)) fun a239 e=>?_
   have h44:=pt_ F e;replace F:=pu_ F e;clear e
   refine sv_ gq4_11_1 (ym_ rfl (F.of h6)) fun a240 e=>?_
   have h45:=pt_ F e;replace F:=pu_ F e;replace h44:=so_ e h44;clear e
   refine sv_ gq4_11_2 (yl4_ rfl (F.of h10) B235) fun a241 e=>?_
   have h46:=pt_ F e;replace F:=pu_ F e;replace h44:=so_ e h44;replace h45:=so_ e h45;clear e
   have Y:(execOp a241.eval oq4_11_3).run Try.prog w238=.ok (.enter 24 #[.pointer (some ⟨pa,0,none⟩),.int .i64 1,.agg #[.int .i64 p.1.k,.string (str p.1.nm),.int .i64 p.1.i,.slice p.2.1 p.1.args.length p.2.2]]) w238:=by unfold oq4_11_3;go_simp
   have hcall:=send1_no (er:=70) (HPO.out.on KP) (HTP.out.on K1) (.inl ⟨HC.out,rfl⟩)
   refine st_call gq4_11_3 rfl (wanted_free rfl) Y ((hcall).mono ?_);clear Y
   rintro e9 w242 ⟨rfl,kk⟩
   replace K1:=keep_onto K1 kk
   replace KP:=keep_onto KP kk
   replace B235:=blk_on B235 kk
   clear hcall
   clear kk
   refine ⟨_,rfl,fun a243 e=>?_⟩
   have h47:=pt_ F e;replace F:=pu_ F e;replace h44:=so_ e h44;replace h45:=so_ e h45;replace h46:=so_ e h46;clear e
   refine sv_ gq4_11_4 (ya_ rfl h47) fun a244 e=>?_
   have h11:=pt_ F e;replace F:=pu_ F e;replace h44:=so_ e h44;replace h45:=so_ e h45;replace h46:=so_ e h46;replace h47:=so_ e h47;clear e
   refine st_end ?_
   replace h0:=F.of h0;replace h4:=F.of h4;replace h5:=F.of h5;replace h6:=F.of h6;replace h8:=F.of h8;replace h10:=F.of h10;replace h38:=F.of h38;replace h39:=F.of h39;replace h40:=F.of h40;replace h41:=F.of h41;replace h42:=F.of h42;replace h43:=F.of h43;have R:=F.r;clear F
   change (cq4_41).wp _ _ _ _
   refine wp_seq (x:=cq4_42) (y:=cq4_43) ?_
   change (Code.region 12 Oq4_12 false).wp _ _ _ _
   refine reg_in (l:=[0,1]) rfl ?_
   have F:FE_ _ [] a244 a244:=⟨R,Ag_.refl _⟩;clear R
   refine sv_ gq4_12_0 (ym_ rfl (F.of h11)) fun a245 e=>?_
   have h48:=pt_ F e;replace F:=pu_ F e;clear e
   have Y:(execOp a245.eval oq4_12_1).run Try.prog w242=.ok (.value (.bool false)) w242:=by unfold oq4_12_1;go_simp
   refine sv_ gq4_12_1 Y fun a246 e=>?_;clear Y
   have h49:=pt_ F e;replace F:=pu_ F e;replace h48:=so_ e h48;clear e
   refine st_end ?_
   replace h0:=F.of h0;replace h4:=F.of h4;replace h5:=F.of h5;replace h6:=F.of h6;replace h8:=F.of h8;replace h10:=F.of h10;replace h11:=F.of h11;replace h38:=F.of h38;replace h39:=F.of h39;replace h40:=F.of h40;replace h41:=F.of h41;replace h42:=F.of h42;replace h43:=F.of h43;replace h44:=F.of h44;replace h45:=F.of h45;replace h46:=F.of h46;replace h47:=F.of h47;have R:=F.r;clear F
   change (cq4_43).wp _ _ _ _
   refine wp_cond_false (x:=cq4_44) (y:=cq4_45) (eval_slot h49) ?_
   refine wp_seq (x:=cq4_46) (y:=cq4_47) ?_
   change (Code.region 14 Oq4_14 false).wp _ _ _ _
   refine reg_in (l:=[0,1,2,3,4,5,6,7,8,9,10,11,12,13]) rfl ?_
   have F:FE_ _ [] a246 a246:=⟨R,Ag_.refl _⟩;clear R
   refine sv_ gq4_14_0 (ym_ rfl (F.of h11)) fun a247 e=>?_
   have h54:=pt_ F e;replace F:=pu_ F e;clear e
   have Y:(execOp a247.eval oq4_14_1).run Try.prog w242=.ok (.value (.bool false)) w242:=by unfold oq4_14_1;go_simp
   refine sv_ gq4_14_1 Y fun a248 e=>?_;clear Y
   have h55:=pt_ F e;replace F:=pu_ F e;replace h54:=so_ e h54;clear e
   refine sv_ gq4_14_2 (ym_ rfl h55) fun a249 e=>?_
   have h56:=pt_ F e;replace F:=pu_ F e;replace h54:=so_ e h54;replace h55:=so_ e h55;clear e
   refine st_not gq4_14_3 rfl (wanted_is (j:=2) (d:=56) rfl rfl h56 rfl) fun a250 e=>?_
   have h57:=pt_ F e;replace F:=pu_ F e;replace h54:=so_ e h54;replace h55:=so_ e h55;replace h56:=so_ e h56;clear e
   refine st_not gq4_14_4 rfl (wanted_is (j:=2) (d:=56) rfl rfl h56 rfl) fun a251 e=>?_
   have h58:=pt_ F e;replace F:=pu_ F e;replace h54:=so_ e h54;replace h55:=so_ e h55;replace h56:=so_ e h56;replace h57:=so_ e h57;clear e
   refine st_not gq4_14_5 rfl (wanted_is (j:=2) (d:=56) rfl rfl h56 rfl) fun a252 e=>?_
   have h59:=pt_ F e;replace F:=pu_ F e;replace h54:=so_ e h54;replace h55:=so_ e h55;replace h56:=so_ e h56;replace h57:=so_ e h57;replace h58:=so_ e h58;clear e
   refine st_not gq4_14_6 rfl (wanted_un (j:=5) (d:=59) rfl rfl h59) fun a253 e=>?_
   have h60:=pt_ F e;replace F:=pu_ F e;replace h54:=so_ e h54;replace h55:=so_ e h55;replace h56:=so_ e h56;replace h57:=so_ e h57;replace h58:=so_ e h58;replace h59:=so_ e h59;clear e
   refine st_not gq4_14_7 rfl (wanted_un (j:=5) (d:=59) rfl rfl h59) fun a254 e=>?_
   have h61:=pt_ F e;replace F:=pu_ F e;replace h54:=so_ e h54;replace h55:=so_ e h55;replace h56:=so_ e h56;replace h57:=so_ e h57;replace h58:=so_ e h58;replace h59:=so_ e h59;replace h60:=so_ e h60;clear e
   refine st_not gq4_14_8 rfl (wanted_un (j:=5) (d:=59) rfl rfl h59) fun a255 e=>?_
   have h62:=pt_ F e;replace F:=pu_ F e;replace h54:=so_ e h54;replace h55:=so_ e h55;replace h56:=so_ e h56;replace h57:=so_ e h57;replace h58:=so_ e h58;replace h59:=so_ e h59;replace h60:=so_ e h60;replace h61:=so_ e h61;clear e
   refine st_not gq4_14_9 rfl (wanted_un (j:=5) (d:=59) rfl rfl h59) fun a256 e=>?_
   have h63:=pt_ F e;replace F:=pu_ F e;replace h54:=so_ e h54;replace h55:=so_ e h55;replace h56:=so_ e h56;replace h57:=so_ e h57;replace h58:=so_ e h58;replace h59:=so_ e h59;replace h60:=so_ e h60;replace h61:=so_ e h61;replace h62:=so_ e h62;clear e
   refine st_not gq4_14_10 rfl (wanted_un (j:=5) (d:=59) rfl rfl h59) fun a257 e=>?_
   have h64:=pt_ F e;replace F:=pu_ F e;replace h54:=so_ e h54;replace h55:=so_ e h55;replace h56:=so_ e h56;replace h57:=so_ e h57;replace h58:=so_ e h58;replace h59:=so_ e h59;replace h60:=so_ e h60;replace h61:=so_ e h61;replace h62:=so_ e h62;replace h63:=so_ e h63;clear e
   refine st_not gq4_14_11 rfl (wanted_un (j:=5) (d:=59) rfl rfl h59) fun a258 e=>?_
   have h65:=pt_ F e;replace F:=pu_ F e;replace h54:=so_ e h54;replace h55:=so_ e h55;replace h56:=so_ e h56;replace h57:=so_ e h57;replace h58:=so_ e h58;replace h59:=so_ e h59;replace h60:=so_ e h60;replace h61:=so_ e h61;replace h62:=so_ e h62;replace h63:=so_ e h63;replace h64:=so_ e h64;clear e
   refine st_not gq4_14_12 rfl (wanted_is (j:=2) (d:=56) rfl rfl h56 rfl) fun a259 e=>?_
   have h66:=pt_ F e;replace F:=pu_ F e;replace h54:=so_ e h54;replace h55:=so_ e h55;replace h56:=so_ e h56;replace h57:=so_ e h57;replace h58:=so_ e h58;replace h59:=so_ e h59;replace h60:=so_ e h60;replace h61:=so_ e h61;replace h62:=so_ e h62;replace h63:=so_ e h63;replace h64:=so_ e h64;replace h65:=so_ e h65;clear e
   have Y:(execOp a259.eval oq4_14_13).run Try.prog w242=.ok (.value (.bool false)) w242:=by unfold oq4_14_13;go_simp
   refine sv_ gq4_14_13 Y fun a260 e=>?_;clear Y
   have h67:=pt_ F e;replace F:=pu_ F e;replace h54:=so_ e h54;replace h55:=so_ e h55;replace h56:=so_ e h56;replace h57:=so_ e h57;replace h58:=so_ e h58;replace h59:=so_ e h59;replace h60:=so_ e h60;replace h61:=so_ e h61;replace h62:=so_ e h62;replace h63:=so_ e h63;replace h64:=so_ e h64;replace h65:=so_ e h65;replace h66:=so_ e h66;clear e
   refine st_end ?_
   replace h0:=F.of h0;replace h4:=F.of h4;replace h5:=F.of h5;replace h6:=F.of h6;replace h8:=F.of h8;replace h10:=F.of h10;replace h11:=F.of h11;replace h38:=F.of h38;replace h39:=F.of h39;replace h40:=F.of h40;replace h41:=F.of h41;replace h42:=F.of h42;replace h43:=F.of h43;replace h44:=F.of h44;replace h45:=F.of h45;replace h46:=F.of h46;replace h47:=F.of h47;replace h48:=F.of h48;replace h49:=F.of h49;have R:=F.r;clear F
   change (cq4_47).wp _ _ _ _
   refine wp_cond_false (x:=cq4_48) (y:=Code.skip) (eval_slot h67) ?_
   refine wp_skip ?_
   change (cq4_52).wp _ _ _ _
   change (Code.region 16 Oq4_16 false).wp _ _ _ _
   refine reg_in (l:=[0,1]) rfl ?_
   have F:FE_ _ [] a260 a260:=⟨R,Ag_.refl _⟩;clear R
   have Y:(execOp a260.eval oq4_16_0).run Try.prog w242=.ok (.value (.int .i64 ((j:Int) + 1))) w242:=by have r40:=F.of h40;have hwj:IntKind.i64.wrap ((j:Int) + 1)=(j:Int) + 1:=(by rw [IntKind.wrap_i64];have:=HLN.out;omega);unfold oq4_16_0;go_simp
   refine sv_ gq4_16_0 Y fun a261 e=>?_;clear Y
   have h68:=pt_ F e;replace F:=pu_ F e;clear e
   refine sv_ gq4_16_1 (ym_ rfl h68) fun a262 e=>?_
   clear h40;have h40:=pt_ F e;replace F:=pu_ F e;replace h68:=so_ e h68;clear e
   refine st_end ?_
   replace h0:=F.of h0;replace h4:=F.of h4;replace h5:=F.of h5;replace h6:=F.of h6;replace h8:=F.of h8;replace h10:=F.of h10;replace h11:=F.of h11;replace h38:=F.of h38;replace h39:=F.of h39;replace h41:=F.of h41;replace h42:=F.of h42;replace h43:=F.of h43;replace h44:=F.of h44;replace h45:=F.of h45;replace h46:=F.of h46;replace h47:=F.of h47;replace h48:=F.of h48;replace h49:=F.of h49;replace h54:=F.of h54;replace h55:=F.of h55;replace h56:=F.of h56;replace h57:=F.of h57;replace h58:=F.of h58;replace h59:=F.of h59;replace h60:=F.of h60;replace h61:=F.of h61;replace h62:=F.of h62;replace h63:=F.of h63;replace h64:=F.of h64;replace h65:=F.of h65;replace h66:=F.of h66;replace h67:=F.of h67;have R:=F.r;clear F
   have HPR:=Lib.hid (HPO.out.on KP);have HKQ:=Lib.hid (HKR.out.on KP);clear HPO HKR KP;have HPO:=HPR;have HKR:=HKQ;clear HPR HKQ
   clear B235
   exact ⟨_,by omega,j + 1,_,_,_,_,_,_,rfl,R,h0,h4,h5,h6,h8,h38,h39,h40,K1,(by omega),HPO,HKR,HSE⟩
  ·
   have HC:=Lib.hid hc;clear hc
   refine reg_in (l:=[0,1,2,3,4]) rfl ?_
   have F:FE_ _ [] a237 a237:=⟨R,Ag_.refl _⟩;clear R
   refine sv_ gq4_11_0 (ym_ rfl (F.of h5)) fun a263 e=>?_
   have h44:=pt_ F e;replace F:=pu_ F e;clear e
   refine sv_ gq4_11_1 (ym_ rfl (F.of h6)) fun a264 e=>?_
   have h45:=pt_ F e;replace F:=pu_ F e;replace h44:=so_ e h44;clear e
   refine sv_ gq4_11_2 (yl4_ rfl (F.of h10) B235) fun a265 e=>?_
   have h46:=pt_ F e;replace F:=pu_ F e;replace h44:=so_ e h44;replace h45:=so_ e h45;clear e
   have Y:(execOp a265.eval oq4_11_3).run Try.prog w238=.ok (.enter 24 #[.pointer (some ⟨pa,0,none⟩),.int .i64 1,.agg #[.int .i64 p.1.k,.string (str p.1.nm),.int .i64 p.1.i,.slice p.2.1 p.1.args.length p.2.2]]) w238:=by unfold oq4_11_3;go_simp
   have hcall:=send1_no (er:=141) (HPO.out.on KP) (HTP.out.on K1) (.inr ⟨HC.out.1,rfl,HC.out.2⟩)
   refine st_call gq4_11_3 rfl (wanted_free rfl) Y ((hcall).mono ?_);clear Y
   rintro e9 w266 ⟨rfl,kk⟩
   replace K1:=keep_onto K1 kk
   replace KP:=keep_onto KP kk
   replace B235:=blk_on B235 kk
   clear hcall
   clear kk
   refine ⟨_,rfl,fun a267 e=>?_⟩
   have h47:=pt_ F e;replace F:=pu_ F e;replace h44:=so_ e h44;replace h45:=so_ e h45;replace h46:=so_ e h46;clear e
   refine sv_ gq4_11_4 (ya_ rfl h47) fun a268 e=>?_
   have h11:=pt_ F e;replace F:=pu_ F e;replace h44:=so_ e h44;replace h45:=so_ e h45;replace h46:=so_ e h46;replace h47:=so_ e h47;clear e
   refine st_end ?_
   replace h0:=F.of h0;replace h4:=F.of h4;replace h5:=F.of h5;replace h6:=F.of h6;replace h8:=F.of h8;replace h10:=F.of h10;replace h38:=F.of h38;replace h39:=F.of h39;replace h40:=F.of h40;replace h41:=F.of h41;replace h42:=F.of h42;replace h43:=F.of h43;have R:=F.r;clear F
   change (cq4_41).wp _ _ _ _
   refine wp_seq (x:=cq4_42) (y:=cq4_43) ?_
   change (Code.region 12 Oq4_12 false).wp _ _ _ _
   refine reg_in (l:=[0,1]) rfl ?_
   have F:FE_ _ [] a268 a268:=⟨R,Ag_.refl _⟩;clear R
   refine sv_ gq4_12_0 (ym_ rfl (F.of h11)) fun a269 e=>?_
   have h48:=pt_ F e;replace F:=pu_ F e;clear e
   have Y:(execOp a269.eval oq4_12_1).run Try.prog w266=.ok (.value (.bool false)) w266:=by unfold oq4_12_1;go_simp
   refine sv_ gq4_12_1 Y fun a270 e=>?_;clear Y
   have h49:=pt_ F e;replace F:=pu_ F e;replace h48:=so_ e h48;clear e
   refine st_end ?_
   replace h0:=F.of h0;replace h4:=F.of h4;replace h5:=F.of h5;replace h6:=F.of h6;replace h8:=F.of h8;replace h10:=F.of h10;replace h11:=F.of h11;replace h38:=F.of h38;replace h39:=F.of h39;replace h40:=F.of h40;replace h41:=F.of h41;replace h42:=F.of h42;replace h43:=F.of h43;replace h44:=F.of h44;replace h45:=F.of h45;replace h46:=F.of h46;replace h47:=F.of h47;have R:=F.r;clear F
   change (cq4_43).wp _ _ _ _
   refine wp_cond_false (x:=cq4_44) (y:=cq4_45) (eval_slot h49) ?_
   refine wp_seq (x:=cq4_46) (y:=cq4_47) ?_
   change (Code.region 14 Oq4_14 false).wp _ _ _ _
   refine reg_in (l:=[0,1,2,3,4,5,6,7,8,9,10,11,12,13]) rfl ?_
   have F:FE_ _ [] a270 a270:=⟨R,Ag_.refl _⟩;clear R
   refine sv_ gq4_14_0 (ym_ rfl (F.of h11)) fun a271 e=>?_
   have h54:=pt_ F e;replace F:=pu_ F e;clear e
   have Y:(execOp a271.eval oq4_14_1).run Try.prog w266=.ok (.value (.bool true)) w266:=by unfold oq4_14_1;go_simp
   refine sv_ gq4_14_1 Y fun a272 e=>?_;clear Y
   have h55:=pt_ F e;replace F:=pu_ F e;replace h54:=so_ e h54;clear e
   refine sv_ gq4_14_2 (ym_ rfl h55) fun a273 e=>?_
   have h56:=pt_ F e;replace F:=pu_ F e;replace h54:=so_ e h54;replace h55:=so_ e h55;clear e
   refine st_val gq4_14_3 rfl (wanted_is (j:=2) (d:=56) rfl rfl h56 rfl) (ym_ rfl (F.of h11)) fun a274 e=>?_
   have h57:=pt_ F e;replace F:=pu_ F e;replace h54:=so_ e h54;replace h55:=so_ e h55;replace h56:=so_ e h56;clear e
   have Y:(execOp a274.eval oq4_14_4).run Try.prog w266=.ok (.value (.bool false)) w266:=by unfold oq4_14_4;go_simp
   refine st_val gq4_14_4 rfl (wanted_is (j:=2) (d:=56) rfl rfl h56 rfl) Y fun a275 e=>?_;clear Y
   have h58:=pt_ F e;replace F:=pu_ F e;replace h54:=so_ e h54;replace h55:=so_ e h55;replace h56:=so_ e h56;replace h57:=so_ e h57;clear e
   refine st_val gq4_14_5 rfl (wanted_is (j:=2) (d:=56) rfl rfl h56 rfl) (ym_ rfl h58) fun a276 e=>?_
   have h59:=pt_ F e;replace F:=pu_ F e;replace h54:=so_ e h54;replace h55:=so_ e h55;replace h56:=so_ e h56;replace h57:=so_ e h57;replace h58:=so_ e h58;clear e
   refine st_val gq4_14_6 rfl (wanted_is (j:=5) (d:=59) rfl rfl h59 rfl) (ym_ rfl (F.of h8)) fun a277 e=>?_
   have h60:=pt_ F e;replace F:=pu_ F e;replace h54:=so_ e h54;replace h55:=so_ e h55;replace h56:=so_ e h56;replace h57:=so_ e h57;replace h58:=so_ e h58;replace h59:=so_ e h59;clear e
   have Y:(execOp a277.eval oq4_14_7).run Try.prog w266=.ok (.value (.int .i64 ks.length)) w266:=by unfold oq4_14_7;go_simp
   refine st_val gq4_14_7 rfl (wanted_is (j:=5) (d:=59) rfl rfl h59 rfl) Y fun a278 e=>?_;clear Y
   have h61:=pt_ F e;replace F:=pu_ F e;replace h54:=so_ e h54;replace h55:=so_ e h55;replace h56:=so_ e h56;replace h57:=so_ e h57;replace h58:=so_ e h58;replace h59:=so_ e h59;replace h60:=so_ e h60;clear e
   refine st_val gq4_14_8 rfl (wanted_is (j:=5) (d:=59) rfl rfl h59 rfl) (ym_ rfl (F.of h0)) fun a279 e=>?_
   have h62:=pt_ F e;replace F:=pu_ F e;replace h54:=so_ e h54;replace h55:=so_ e h55;replace h56:=so_ e h56;replace h57:=so_ e h57;replace h58:=so_ e h58;replace h59:=so_ e h59;replace h60:=so_ e h60;replace h61:=so_ e h61;clear e
   obtain ⟨mx,hmx⟩:∃ q,max most 1=q:=⟨_,rfl⟩
   have Y:(execOp a279.eval oq4_14_9).run Try.prog w266=.ok (.value (.int .i64 mx)) w266:=by unfold oq4_14_9;go_simp
   refine st_val gq4_14_9 rfl (wanted_is (j:=5) (d:=59) rfl rfl h59 rfl) Y fun a280 e=>?_;clear Y
   have h63:=pt_ F e;replace F:=pu_ F e;replace h54:=so_ e h54;replace h55:=so_ e h55;replace h56:=so_ e h56;replace h57:=so_ e h57;replace h58:=so_ e h58;replace h59:=so_ e h59;replace h60:=so_ e h60;replace h61:=so_ e h61;replace h62:=so_ e h62;clear e
   obtain ⟨my,hmy⟩:∃ q,min mx 64=q:=⟨_,rfl⟩
   have Y:(execOp a280.eval oq4_14_10).run Try.prog w266=.ok (.value (.int .i64 my)) w266:=by unfold oq4_14_10;go_simp
   refine st_val gq4_14_10 rfl (wanted_is (j:=5) (d:=59) rfl rfl h59 rfl) Y fun a281 e=>?_;clear Y
   have h64:=pt_ F e;replace F:=pu_ F e;replace h54:=so_ e h54;replace h55:=so_ e h55;replace h56:=so_ e h56;replace h57:=so_ e h57;replace h58:=so_ e h58;replace h59:=so_ e h59;replace h60:=so_ e h60;replace h61:=so_ e h61;replace h62:=so_ e h62;replace h63:=so_ e h63;clear e
   have hks:(ks.length:Int)=my:=by have h1:=HSE.out.len;have h2:=HPO.out.lt.2.2.2.2.2.1;have h3:=HC.out.2;have h4:=HM.out;rw [hmx,hmy] at h4;omega
   have Y:(execOp a281.eval oq4_14_11).run Try.prog w266=.ok (.value (.bool false)) w266:=by unfold oq4_14_11;go_simp
   refine st_val gq4_14_11 rfl (wanted_is (j:=5) (d:=59) rfl rfl h59 rfl) Y fun a282 e=>?_;clear Y
   have h65:=pt_ F e;replace F:=pu_ F e;replace h54:=so_ e h54;replace h55:=so_ e h55;replace h56:=so_ e h56;replace h57:=so_ e h57;replace h58:=so_ e h58;replace h59:=so_ e h59;replace h60:=so_ e h60;replace h61:=so_ e h61;replace h62:=so_ e h62;replace h63:=so_ e h63;replace h64:=so_ e h64;clear e
   have Y:(execOp a282.eval oq4_14_12).run Try.prog w266=.ok (.value (.bool false)) w266:=by unfold oq4_14_12;go_simp
   refine st_val gq4_14_12 rfl (wanted_is (j:=2) (d:=56) rfl rfl h56 rfl) Y fun a283 e=>?_;clear Y
   have h66:=pt_ F e;replace F:=pu_ F e;replace h54:=so_ e h54;replace h55:=so_ e h55;replace h56:=so_ e h56;replace h57:=so_ e h57;replace h58:=so_ e h58;replace h59:=so_ e h59;replace h60:=so_ e h60;replace h61:=so_ e h61;replace h62:=so_ e h62;replace h63:=so_ e h63;replace h64:=so_ e h64;replace h65:=so_ e h65;clear e
   have Y:(execOp a283.eval oq4_14_13).run Try.prog w266=.ok (.value (.bool false)) w266:=by unfold oq4_14_13;go_simp
   refine sv_ gq4_14_13 Y fun a284 e=>?_;clear Y
   have h67:=pt_ F e;replace F:=pu_ F e;replace h54:=so_ e h54;replace h55:=so_ e h55;replace h56:=so_ e h56;replace h57:=so_ e h57;replace h58:=so_ e h58;replace h59:=so_ e h59;replace h60:=so_ e h60;replace h61:=so_ e h61;replace h62:=so_ e h62;replace h63:=so_ e h63;replace h64:=so_ e h64;replace h65:=so_ e h65;replace h66:=so_ e h66;clear e
   refine st_end ?_
   replace h0:=F.of h0;replace h4:=F.of h4;replace h5:=F.of h5;replace h6:=F.of h6;replace h8:=F.of h8;replace h10:=F.of h10;replace h11:=F.of h11;replace h38:=F.of h38;replace h39:=F.of h39;replace h40:=F.of h40;replace h41:=F.of h41;replace h42:=F.of h42;replace h43:=F.of h43;replace h44:=F.of h44;replace h45:=F.of h45;replace h46:=F.of h46;replace h47:=F.of h47;replace h48:=F.of h48;replace h49:=F.of h49;have R:=F.r;clear F
   change (cq4_47).wp _ _ _ _
   refine wp_cond_false (x:=cq4_48) (y:=Code.skip) (eval_slot h67) ?_
   refine wp_skip ?_
   change (cq4_52).wp _ _ _ _
   change (Code.region 16 Oq4_16 false).wp _ _ _ _
   refine reg_in (l:=[0,1]) rfl ?_
   have F:FE_ _ [] a284 a284:=⟨R,Ag_.refl _⟩;clear R
   have Y:(execOp a284.eval oq4_16_0).run Try.prog w266=.ok (.value (.int .i64 ((j:Int) + 1))) w266:=by have r40:=F.of h40;have hwj:IntKind.i64.wrap ((j:Int) + 1)=(j:Int) + 1:=(by rw [IntKind.wrap_i64];have:=HLN.out;omega);unfold oq4_16_0;go_simp
   refine sv_ gq4_16_0 Y fun a285 e=>?_;clear Y
   have h68:=pt_ F e;replace F:=pu_ F e;clear e
   refine sv_ gq4_16_1 (ym_ rfl h68) fun a286 e=>?_
   clear h40;have h40:=pt_ F e;replace F:=pu_ F e;replace h68:=so_ e h68;clear e
   refine st_end ?_
   replace h0:=F.of h0;replace h4:=F.of h4;replace h5:=F.of h5;replace h6:=F.of h6;replace h8:=F.of h8;replace h10:=F.of h10;replace h11:=F.of h11;replace h38:=F.of h38;replace h39:=F.of h39;replace h41:=F.of h41;replace h42:=F.of h42;replace h43:=F.of h43;replace h44:=F.of h44;replace h45:=F.of h45;replace h46:=F.of h46;replace h47:=F.of h47;replace h48:=F.of h48;replace h49:=F.of h49;replace h54:=F.of h54;replace h55:=F.of h55;replace h56:=F.of h56;replace h57:=F.of h57;replace h58:=F.of h58;replace h59:=F.of h59;replace h60:=F.of h60;replace h61:=F.of h61;replace h62:=F.of h62;replace h63:=F.of h63;replace h64:=F.of h64;replace h65:=F.of h65;replace h66:=F.of h66;replace h67:=F.of h67;have R:=F.r;clear F
   have HPR:=Lib.hid (HPO.out.on KP);have HKQ:=Lib.hid (HKR.out.on KP);clear HPO HKR KP;have HPO:=HPR;have HKR:=HKQ;clear HPR HKQ
   clear B235
   exact ⟨_,by omega,j + 1,_,_,_,_,_,_,rfl,R,h0,h4,h5,h6,h8,h38,h39,h40,K1,(by omega),HPO,HKR,HSE⟩
  ·
   have HC:=Lib.hid hc;clear hc
   refine reg_in (l:=[0,1,2,3,4]) rfl ?_
   have F:FE_ _ [] a237 a237:=⟨R,Ag_.refl _⟩;clear R
   refine sv_ gq4_11_0 (ym_ rfl (F.of h5)) fun a287 e=>?_
   have h44:=pt_ F e;replace F:=pu_ F e;clear e
   refine sv_ gq4_11_1 (ym_ rfl (F.of h6)) fun a288 e=>?_
   have h45:=pt_ F e;replace F:=pu_ F e;replace h44:=so_ e h44;clear e
   refine sv_ gq4_11_2 (yl4_ rfl (F.of h10) B235) fun a289 e=>?_
   have h46:=pt_ F e;replace F:=pu_ F e;replace h44:=so_ e h44;replace h45:=so_ e h45;clear e
   have Y:(execOp a289.eval oq4_11_3).run Try.prog w238=.ok (.enter 24 #[.pointer (some ⟨pa,0,none⟩),.int .i64 1,.agg #[.int .i64 p.1.k,.string (str p.1.nm),.int .i64 p.1.i,.slice p.2.1 p.1.args.length p.2.2]]) w238:=by unfold oq4_11_3;go_simp
   have HKV:=Lib.hid (HKR.out.on KP)
   have hcall:=send1_yes (HPO.out.on KP) (HTP.out.on K1) HC.out.1 HC.out.2
   refine st_call gq4_11_3 rfl (wanted_free rfl) Y ((hcall).mono ?_);clear Y
   rintro e9 w290 ⟨Rq2,vq2,au,cu,rfl,hpo,hRR,hv,kb,kf⟩
   have N_b235:=HPO.out.far LKP_b235
   have l_b235:=B235.lt;replace B235:=B235.keep kf ⟨B235.lt,N_b235.1,N_b235.2⟩
   replace K1:=K1.trans (kb.less fun g hg=>Nat.lt_of_lt_of_le hg HWB)
   clear KP
   replace N_b235:=far_send N_b235 l_b235 hv;clear l_b235
   have HKS:=Lib.hid (HKV.out.send kf hRR hv);clear hcall kb kf hv hRR HKV HKR;have kk:=trivial
   clear kk
   clear HPO;have HPO:=Lib.hid hpo;clear hpo;have HKR:=HKS;clear HKS
   have KP:=Keep.refl (fun g=>g < w290.heap.size) w290
   refine ⟨_,rfl,fun a291 e=>?_⟩
   have h47:=pt_ F e;replace F:=pu_ F e;replace h44:=so_ e h44;replace h45:=so_ e h45;replace h46:=so_ e h46;clear e
   refine sv_ gq4_11_4 (ya_ rfl h47) fun a292 e=>?_
   have h11:=pt_ F e;replace F:=pu_ F e;replace h44:=so_ e h44;replace h45:=so_ e h45;replace h46:=so_ e h46;replace h47:=so_ e h47;clear e
   refine st_end ?_
   replace h0:=F.of h0;replace h4:=F.of h4;replace h5:=F.of h5;replace h6:=F.of h6;replace h8:=F.of h8;replace h10:=F.of h10;replace h38:=F.of h38;replace h39:=F.of h39;replace h40:=F.of h40;replace h41:=F.of h41;replace h42:=F.of h42;replace h43:=F.of h43;have R:=F.r;clear F
   change (cq4_41).wp _ _ _ _
   refine wp_seq (x:=cq4_42) (y:=cq4_43) ?_
   change (Code.region 12 Oq4_12 false).wp _ _ _ _
   refine reg_in (l:=[0,1]) rfl ?_
   have F:FE_ _ [] a292 a292:=⟨R,Ag_.refl _⟩;clear R
   refine sv_ gq4_12_0 (ym_ rfl (F.of h11)) fun a293 e=>?_
   have h48:=pt_ F e;replace F:=pu_ F e;clear e
   have Y:(execOp a293.eval oq4_12_1).run Try.prog w290=.ok (.value (.bool true)) w290:=by unfold oq4_12_1;go_simp
   refine sv_ gq4_12_1 Y fun a294 e=>?_;clear Y
   have h49:=pt_ F e;replace F:=pu_ F e;replace h48:=so_ e h48;clear e
   refine st_end ?_
   replace h0:=F.of h0;replace h4:=F.of h4;replace h5:=F.of h5;replace h6:=F.of h6;replace h8:=F.of h8;replace h10:=F.of h10;replace h11:=F.of h11;replace h38:=F.of h38;replace h39:=F.of h39;replace h40:=F.of h40;replace h41:=F.of h41;replace h42:=F.of h42;replace h43:=F.of h43;replace h44:=F.of h44;replace h45:=F.of h45;replace h46:=F.of h46;replace h47:=F.of h47;have R:=F.r;clear F
   change (cq4_43).wp _ _ _ _
   refine wp_cond_true (x:=cq4_44) (y:=cq4_45) (eval_slot h49) ?_
   change (Code.region 13 Oq4_13 false).wp _ _ _ _
   refine reg_in (l:=[0,1,2,3,4]) rfl ?_
   have F:FE_ _ [] a294 a294:=⟨R,Ag_.refl _⟩;clear R
   refine sv_ gq4_13_0 (ym_ rfl (F.of h8)) fun a295 e=>?_
   have h50:=pt_ F e;replace F:=pu_ F e;clear e
   refine sv_ gq4_13_1 (yl4_ rfl (F.of h10) B235) fun a296 e=>?_
   have h51:=pt_ F e;replace F:=pu_ F e;replace h50:=so_ e h50;clear e
   have Y:(execOp a296.eval oq4_13_2).run Try.prog w290=.ok (.value (.slice (some ⟨w290.heap.size,0,none⟩) 1 1)) (w290.alloc (.cells #[.int .i64 p.1.k,.string (str p.1.nm),.int .i64 p.1.i,.slice p.2.1 p.1.args.length p.2.2] 24)):=by unfold oq4_13_2;go_simp
   have B297:=Blk.new w290 24 #[.int .i64 p.1.k,.string (str p.1.nm),.int .i64 p.1.i,.slice p.2.1 p.1.args.length p.2.2]
   obtain ⟨w298,hw⟩:∃ x,x=w290.alloc (.cells #[.int .i64 p.1.k,.string (str p.1.nm),.int .i64 p.1.i,.slice p.2.1 p.1.args.length p.2.2] 24):=⟨_,rfl⟩;rw [← hw] at Y B297
   obtain ⟨b297,hb⟩:∃ x,x=w290.heap.size:=⟨_,rfl⟩;rw [← hb] at Y B297
   have Nb235_b297:=nb_ hb B235;replace B235:=ba_ hw B235;have LK1_b297:=lk_ hb K1;replace K1:=ka_ hw K1;have LKP_b297:=lk_ hb KP;replace KP:=ka_ hw KP;clear hw hb
   refine sv_ gq4_13_2 Y fun a299 e=>?_;clear Y
   have h52:=pt_ F e;replace F:=pu_ F e;replace h50:=so_ e h50;replace h51:=so_ e h51;clear e
   have hlen:=HSE.out.len;have hlm:=HPO.out.lt.2.2.2.2.2;simp only [List.length_append,List.length_cons,List.length_nil] at hlm
   obtain ⟨va2,vc2,w8,Rq3,hap,hpo,hkr,kb⟩:=KRow.push (p:=p) (c2:=1) (ty:=oq4_13_3.type) (HPO.out.on KP) (HKR.out.on KP) B297 (by omega)
   have Y:(execOp a299.eval oq4_13_3).run Try.prog w298=.ok (.value (.slice va2 (ks ++ [p]).length vc2)) w8:=by
    unfold oq4_13_3 at hap ⊢;unfold execOp;simp only [resolve,invoke,builtin,Sem.run_bind,Sem.run_pure,Result.andThen_ok,List.map_toArray,List.map_cons,List.map_nil,eval_slot h50,eval_slot h52];rw [hap];rfl
   clear B235
   clear B297
   clear hap HPO HKR KP;have HPO:=Lib.hid hpo;have HKR:=Lib.hid hkr;clear hpo hkr;replace K1:=K1.trans (kb.less fun g hg=>Nat.lt_of_lt_of_le hg HWB);clear kb;have KP:=Keep.refl (fun g=>g < w8.heap.size) w8
   have HSE2:=Lib.hid (HSE.out.more (au:=au) (cu:=cu) HC.out.1 HTP.out);clear HSE;have HSE:=HSE2;clear HSE2
   refine sv_ gq4_13_3 Y fun a300 e=>?_;clear Y
   have h53:=pt_ F e;replace F:=pu_ F e;replace h50:=so_ e h50;replace h51:=so_ e h51;replace h52:=so_ e h52;clear e
   refine sv_ gq4_13_4 (ya_ rfl h53) fun a301 e=>?_
   clear h8;have h8:=pt_ F e;replace F:=pu_ F e;replace h50:=so_ e h50;replace h51:=so_ e h51;replace h52:=so_ e h52;replace h53:=so_ e h53;clear e
   refine st_end ?_
   replace h0:=F.of h0;replace h4:=F.of h4;replace h5:=F.of h5;replace h6:=F.of h6;replace h10:=F.of h10;replace h11:=F.of h11;replace h38:=F.of h38;replace h39:=F.of h39;replace h40:=F.of h40;replace h41:=F.of h41;replace h42:=F.of h42;replace h43:=F.of h43;replace h44:=F.of h44;replace h45:=F.of h45;replace h46:=F.of h46;replace h47:=F.of h47;replace h48:=F.of h48;replace h49:=F.of h49;have R:=F.r;clear F
   change (cq4_52).wp _ _ _ _
   change (Code.region 16 Oq4_16 false).wp _ _ _ _
   refine reg_in (l:=[0,1]) rfl ?_
   have F:FE_ _ [] a301 a301:=⟨R,Ag_.refl _⟩;clear R
   have Y:(execOp a301.eval oq4_16_0).run Try.prog w8=.ok (.value (.int .i64 ((j:Int) + 1))) w8:=by have r40:=F.of h40;have hwj:IntKind.i64.wrap ((j:Int) + 1)=(j:Int) + 1:=(by rw [IntKind.wrap_i64];have:=HLN.out;omega);unfold oq4_16_0;go_simp
   refine sv_ gq4_16_0 Y fun a302 e=>?_;clear Y
   have h68:=pt_ F e;replace F:=pu_ F e;clear e
   refine sv_ gq4_16_1 (ym_ rfl h68) fun a303 e=>?_
   clear h40;have h40:=pt_ F e;replace F:=pu_ F e;replace h68:=so_ e h68;clear e
   refine st_end ?_
   replace h0:=F.of h0;replace h4:=F.of h4;replace h5:=F.of h5;replace h6:=F.of h6;replace h8:=F.of h8;replace h10:=F.of h10;replace h11:=F.of h11;replace h38:=F.of h38;replace h39:=F.of h39;replace h41:=F.of h41;replace h42:=F.of h42;replace h43:=F.of h43;replace h44:=F.of h44;replace h45:=F.of h45;replace h46:=F.of h46;replace h47:=F.of h47;replace h48:=F.of h48;replace h49:=F.of h49;replace h50:=F.of h50;replace h51:=F.of h51;replace h52:=F.of h52;replace h53:=F.of h53;have R:=F.r;clear F
   have HPR:=Lib.hid (HPO.out.on KP);have HKQ:=Lib.hid (HKR.out.on KP);clear HPO HKR KP;have HPO:=HPR;have HKR:=HKQ;clear HPR HKQ
   exact ⟨_,by omega,j + 1,_,_,_,_,_,_,rfl,R,h0,h4,h5,h6,h8,h38,h39,h40,K1,(by omega),HPO,HKR,HSE⟩
theorem ponce_walk {W:World} {sc:Nat} {sa:Option Addr} {ts:List TP} {most:Int} (hT:TmSl W.heap.size W sa ts) (hl:ts.length ≤ 2305843009213693951):Calls Try.prog 4 #[.int .i64 most,.slice sa ts.length sc] W fun e w'=>e=.returned (.bool true)∧Keep (fun g=>g < W.heap.size) W w':=by
  refine enter_sx Try.func4 bodyq4 rfl (by show (2:Nat) ≤ 131;decide) fun f0 R0 hs=>?_
  exact once_w R0 (hs 0 _ rfl) (hs 1 _ rfl) (Keep.refl _ W) (Lib.hid hT) (Lib.hid hl)
end Go.Proofs.Ytjinmnekfhekpaa
