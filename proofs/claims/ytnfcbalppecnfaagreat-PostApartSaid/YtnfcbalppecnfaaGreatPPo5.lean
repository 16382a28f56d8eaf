/-
  Package post: a queue is written; Get: walked with letter frames. No condition but where post and terms lie.
-/
import Derived.Test.YtnfcbalppecnfaaGreatPPo4
namespace Go.Proofs.YtnfcbalppecnfaaGreat
open Go.RowKit Go.Maps
set_option linter.unusedVariables false
set_option linter.unusedSimpArgs false
section
variable {B:Nat} {R R' X:Nat→Prop} {w w':World} {pa mb n:Nat} {made k:Int} {f:Int→Option Qu} {q q' x:Qu}
theorem QAt.move (h:QAt B R w x) (hk:Keep X w w') (hg:X x.g) (hv:∀ k,x.v.ownBlock=some k→X k) (hY:∀ k,k < w.heap.size→¬ R k→X k) (hR:∀ k,R k→R' k) (hR':∀ k,R' k→R k∨w.heap.size ≤ k):QAt B R' w' x:=by
  refine ⟨h.box.keep hk hg,row_on h.row hk hv,fun p hp=>?_,hR _ h.rg,fun k e=>hR _ (h.rv k e),h.m1,h.le,h.ren⟩
  have hk2:Keep (fun k=>¬ R k) w w':=hk.at_ fun k hl hk=>hY k hl hk
  have h1:=(h.fr p hp).keepR hk2 fun k hk=>by rcases hk with hk | hk;omega;exact hk.2
  exact (h1.growR (Nat.le_refl _) fun k _ hk=>hR' k hk).up hk.size (Nat.le_refl _)
theorem PoAt.pa_ne (h:PoAt B R w pa mb made f n) (hq:QAt B R w q):pa ≠ q.g∧q.v.ownBlock ≠ some pa∧mb ≠ q.g∧q.v.ownBlock ≠ some mb∧q.v.ownBlock ≠ some q.g:=by
  refine ⟨h.head.ne_ hq.box (by decide),fun e=>?_,h.map.ne_blk hq.box,fun e=>?_,fun e=>?_⟩
  · obtain ⟨_,cs,hb⟩:=row_type hq.row e;exact h.head.ne_ hb (by decide) rfl
  · obtain ⟨_,cs,hb⟩:=row_type hq.row e;exact h.map.ne_blk hb rfl
  · obtain ⟨_,cs,hb⟩:=row_type hq.row e;exact hq.box.ne_ hb (by decide) rfl
theorem PoAt.put (h:PoAt B R w pa mb made f n) (hf:f k=some q) (hk:Keep (fun g=>g ≠ q.g∧q.v.ownBlock ≠ some g) w w') (hg:q'.g=q.g) (hR:∀ b,R b→R' b) (hR':∀ b,R' b→R b∨w.heap.size ≤ b) (hlt:∀ b,R' b→b < w'.heap.size) (hv:∀ b,q'.v.ownBlock=some b→q.v.ownBlock=some b∨w.heap.size ≤ b) (hq':QAt B R' w' q'):PoAt B R' w' pa mb made (fun j=>if j=k then some q' else f j) n:=by
  have hq:=h.qs k q hf
  obtain ⟨n1,n2,n3,n4,n5⟩:=h.pa_ne hq
  have e:(fun j=>(if j=k then some q' else f j).map fun q=>Value.pointer (some ⟨q.g,0,none⟩))=(fun j=>(f j).map fun q=>Value.pointer (some ⟨q.g,0,none⟩)):=funext fun j=>by
    by_cases hj:j=k
    · rw [if_pos hj,hj,hf];simp [hg]
    · rw [if_neg hj]
  refine ⟨h.head.keep hk ⟨n1,n2⟩,?_,fun j y hy=>?_,fun j j' y y' hy hy' hne=>?_,hR _ h.rp,hR _ h.rm,fun b hb=>⟨?_,hlt b hb⟩,Nat.le_trans h.le hk.size,h.few,h.num.1,fun j y hy=>?_⟩
  · rw [e];exact h.map.keep hk ⟨n3,n4⟩
  · by_cases hj:j=k
    · rw [if_pos hj] at hy;cases hy;exact hq'
    · rw [if_neg hj] at hy
      have hy1:=h.qs j y hy
      have hap:=h.apart j k y q hy hf hj
      refine hy1.move hk ⟨hap.1,fun e=>?_⟩ (fun b hb=>⟨fun e=>?_,fun e=>hap.2 b hb e⟩) (fun b _ hn=>⟨fun e=>hn (e ▸ hq.rg),fun e=>hn (hq.rv b e)⟩) hR hR'
      · obtain ⟨_,cs,hb⟩:=row_type hq.row e;exact hy1.box.ne_ hb (by decide) rfl
      · subst e;obtain ⟨_,cs,hb2⟩:=row_type hy1.row hb;exact hq.box.ne_ hb2 (by decide) rfl
  · by_cases hj:j=k
    · have hj':¬ j'=k:=fun e=>hne (hj.trans e.symm)
      rw [if_pos hj] at hy;rw [if_neg hj'] at hy';cases hy
      have hap:=h.apart j' k y' q hy' hf hj'
      refine ⟨fun e=>hap.1 (by rw [← e,hg]),fun b hb e=>?_⟩
      rcases hv b hb with h1 | h1
      · exact hap.2 b e h1
      · have:=(h.rb b ((h.qs j' y' hy').rv b e)).2;omega
    · rw [if_neg hj] at hy
      by_cases hj':j'=k
      · rw [if_pos hj'] at hy';cases hy'
        have hap:=h.apart j k y q hy hf hj
        refine ⟨fun e=>hap.1 (by rw [e,hg]),fun b hb e=>?_⟩
        rcases hv b e with h1 | h1
        · exact hap.2 b hb h1
        · have:=(h.rb b ((h.qs j y hy).rv b hb)).2;omega
      · rw [if_neg hj'] at hy';exact h.apart j j' y y' hy hy' hne
  · rcases hR' b hb with h1 | h1
    · exact (h.rb b h1).1
    · exact Nat.le_trans h.le h1
  · by_cases hj:j=k
    · rw [hj];exact h.num.2 k q hf
    · rw [if_neg hj] at hy;exact h.num.2 j y hy
end
theorem row_cur {B:Nat} {w:World} {va:Option Addr} {vc:Nat} {ps:List TP} (h:w.ownsRow B 28 4 (.slice va ps.length vc) ps.length (ps.flatMap TP.cells)) (h0:0 < ps.length):∃ g cur,va=some ⟨g,0,none⟩∧B ≤ g∧Blk w g 28 cur∧ps.length ≤ vc∧vc ≤ maxLen∧cur.size=vc * 4∧cur.toList.take (ps.length * 4)=ps.flatMap TP.cells:=by
  rcases h.2 with ⟨_,h1⟩ | ⟨g,cap,cur,e,h1,h2,h3,h4,h5,h6⟩
  · omega
  · cases e;exact ⟨g,cur,rfl,h1,h2,h3,h4,h5,h6⟩
theorem cur_row {B g cap:Nat} {w:World} {ps:List TP} {cur:Array Value} (hb:Blk w g 28 cur) (h1:B ≤ g) (h2:ps.length ≤ cap) (h3:cap ≤ maxLen) (h4:cur.size=cap * 4) (h5:cur.toList.take (ps.length * 4)=ps.flatMap TP.cells):w.ownsRow B 28 4 (.slice (some ⟨g,0,none⟩) ps.length cap) ps.length (ps.flatMap TP.cells) :=
  ⟨flat_len ps,.inr ⟨g,cap,cur,rfl,h1,hb,h2,h3,h4,h5⟩⟩
def oq27_0_0:Oper:=⟨some 5,Op.box 28 (Operand.tmp 2),0, "post.go:74",#[],none⟩
def oq27_0_1:Oper:=⟨some 6,Op.alloc 28,0, "post.go:74",#[],none⟩
def oq27_0_2:Oper:=⟨some 7,Op.assign (Operand.const (Value.int IntKind.i64 0)),39, "post.go:74",#[],none⟩
def Oq27_0:Array Oper:=List.toArray (oq27_0_0::oq27_0_1::oq27_0_2::[])
theorem gq27_0_0:Oq27_0[0]? = some oq27_0_0:=rfl
theorem gq27_0_1:Oq27_0[1]? = some oq27_0_1:=rfl
theorem gq27_0_2:Oq27_0[2]? = some oq27_0_2:=rfl
def cq27_1:Code:=Code.region 0 Oq27_0 false
def oq27_1_0:Oper:=⟨some 13,Op.move (Operand.tmp 0),23, "post.go:75",#[],none⟩
def oq27_1_1:Oper:=⟨some 14,Op.move (Operand.tmp 1),3, "post.go:75",#[],none⟩
def oq27_1_2:Oper:=⟨some 15,Op.load 28 (Operand.tmp 5),28, "post.go:75",#[],none⟩
def oq27_1_3:Oper:=⟨some 16,Op.call { callee:=Callee.value (Operand.func 31),args:=#[Operand.tmp 13,Operand.tmp 14,Operand.tmp 15],argTypes:=#[23,3,28] },75, "post.go:75",#[ed_ 0,ed_ 1,ed_ 2],none⟩
def oq27_1_4:Oper:=⟨some 12,Op.move (Operand.tmp 16),75, "post.go:75",#[ed_ 3],none⟩
def oq27_1_5:Oper:=⟨some 17,Op.extract (Operand.tmp 12) 0,69, "post.go:75",#[ed_ 4],none⟩
def oq27_1_6:Oper:=⟨some 18,Op.extract (Operand.tmp 12) 1,3, "post.go:75",#[ed_ 4,{ on:=8,ground:=Go.Ground.gcOnly Go.Departure.lateStores }],none⟩
def oq27_1_7:Oper:=⟨some 19,Op.extract (Operand.tmp 12) 2,39, "post.go:75",#[ed_ 4,{ on:=9,ground:=Go.Ground.gcOnly Go.Departure.lateStores }],none⟩
def oq27_1_8:Oper:=⟨some 8,Op.assign (Operand.tmp 17),69, "post.go:75",#[ed_ 5,ec_ 3,ep_ 0,ep_ 1,ep_ 2,ep_ 3,ep_ 4,ep_ 5,{ on:=6,ground:=Go.Ground.textOnly Go.Departure.lateStores },{ on:=7,ground:=Go.Ground.textOnly Go.Departure.lateStores }],none⟩
def oq27_1_9:Oper:=⟨some 9,Op.assign (Operand.tmp 18),3, "post.go:75",#[ed_ 6,ec_ 8,ep_ 0,ep_ 1,ep_ 2,ep_ 3,ep_ 4,ep_ 5,ep_ 6,{ on:=7,ground:=Go.Ground.textOnly Go.Departure.lateStores },ep_ 8],none⟩
def oq27_1_10:Oper:=⟨some 10,Op.assign (Operand.tmp 19),39, "post.go:75",#[ed_ 7,ec_ 9,ep_ 0,ep_ 1,ep_ 2,ep_ 3,ep_ 4,ep_ 5,ep_ 6,ep_ 7,ep_ 8,ep_ 9],none⟩
def Oq27_1:Array Oper:=List.toArray (oq27_1_0::oq27_1_1::oq27_1_2::oq27_1_3::oq27_1_4::oq27_1_5::oq27_1_6::oq27_1_7::oq27_1_8::oq27_1_9::oq27_1_10::[])
theorem gq27_1_0:Oq27_1[0]? = some oq27_1_0:=rfl
theorem gq27_1_1:Oq27_1[1]? = some oq27_1_1:=rfl
theorem gq27_1_2:Oq27_1[2]? = some oq27_1_2:=rfl
theorem gq27_1_3:Oq27_1[3]? = some oq27_1_3:=rfl
theorem gq27_1_4:Oq27_1[4]? = some oq27_1_4:=rfl
theorem gq27_1_5:Oq27_1[5]? = some oq27_1_5:=rfl
theorem gq27_1_6:Oq27_1[6]? = some oq27_1_6:=rfl
theorem gq27_1_7:Oq27_1[7]? = some oq27_1_7:=rfl
theorem gq27_1_8:Oq27_1[8]? = some oq27_1_8:=rfl
theorem gq27_1_9:Oq27_1[9]? = some oq27_1_9:=rfl
theorem gq27_1_10:Oq27_1[10]? = some oq27_1_10:=rfl
def cq27_3:Code:=Code.region 1 Oq27_1 false
def oq27_2_0:Oper:=⟨some 20,Op.move (Operand.tmp 10),39, "post.go:76",#[],none⟩
def oq27_2_1:Oper:=⟨some 21,Op.binOp Go.BinOp.neq 39 (Operand.tmp 20) (Operand.const (Value.int IntKind.i64 0)) 39,4, "post.go:76",#[ed_ 0],none⟩
def Oq27_2:Array Oper:=List.toArray (oq27_2_0::oq27_2_1::[])
theorem gq27_2_0:Oq27_2[0]? = some oq27_2_0:=rfl
theorem gq27_2_1:Oq27_2[1]? = some oq27_2_1:=rfl
def cq27_6:Code:=Code.region 2 Oq27_2 false
def oq27_3_0:Oper:=⟨some 22,Op.build 28 #[],28, "post.go:77",#[],none⟩
def oq27_3_1:Oper:=⟨some 23,Op.move (Operand.tmp 10),39, "post.go:77",#[{ on:=2,ground:=Go.Ground.gcOnly Go.Departure.lateStores }],none⟩
def oq27_3_2:Oper:=⟨none,Op.store 28 (Operand.tmp 6) (Operand.tmp 22),0, "post.go:77",#[ed_ 0,ep_ 0,{ on:=1,ground:=Go.Ground.textOnly Go.Departure.lateStores }],none⟩
def oq27_3_3:Oper:=⟨some 7,Op.assign (Operand.tmp 23),39, "post.go:77",#[ed_ 1,ec_ 2,ep_ 0,ep_ 1,ep_ 2],none⟩
def Oq27_3:Array Oper:=List.toArray (oq27_3_0::oq27_3_1::oq27_3_2::oq27_3_3::[])
theorem gq27_3_0:Oq27_3[0]? = some oq27_3_0:=rfl
theorem gq27_3_1:Oq27_3[1]? = some oq27_3_1:=rfl
theorem gq27_3_2:Oq27_3[2]? = some oq27_3_2:=rfl
theorem gq27_3_3:Oq27_3[3]? = some oq27_3_3:=rfl
def cq27_9:Code:=Code.region 3 Oq27_3 false
def cq27_8:Code:=Code.seq cq27_9 Code.ret
def cq27_7:Code:=Code.cond (Operand.tmp 21) cq27_8 Code.skip
def cq27_5:Code:=Code.seq cq27_6 cq27_7
def oq27_4_0:Oper:=⟨some 24,Op.move (Operand.tmp 8),69, "post.go:79",#[],none⟩
def oq27_4_1:Oper:=⟨some 25,Op.nilCheck (Operand.tmp 24),0, "post.go:79",#[ed_ 0],none⟩
def oq27_4_2:Oper:=⟨some 26,Op.fieldAddr 72 (Operand.tmp 25) 1,0, "post.go:79",#[ed_ 1],none⟩
def oq27_4_3:Oper:=⟨some 27,Op.load 26 (Operand.tmp 26),26, "post.go:79",#[ed_ 2],none⟩
def oq27_4_4:Oper:=⟨some 28,Op.move (Operand.tmp 9),3, "post.go:79",#[],none⟩
def oq27_4_5:Oper:=⟨some 29,Op.indexAddr 26 (Operand.tmp 27) (Operand.tmp 28),0, "post.go:79",#[ed_ 3,ed_ 4],none⟩
def oq27_4_6:Oper:=⟨some 30,Op.load 28 (Operand.tmp 29),28, "post.go:79",#[ed_ 5],none⟩
def oq27_4_7:Oper:=⟨some 11,Op.alloc 28,0, "post.go:79",#[],none⟩
def oq27_4_8:Oper:=⟨none,Op.store 28 (Operand.tmp 11) (Operand.tmp 30),0, "post.go:79",#[ed_ 7,ed_ 6,ep_ 0,ep_ 1,ep_ 2,ep_ 3,ep_ 4,ep_ 5,ep_ 6,ep_ 7],none⟩
def Oq27_4:Array Oper:=List.toArray (oq27_4_0::oq27_4_1::oq27_4_2::oq27_4_3::oq27_4_4::oq27_4_5::oq27_4_6::oq27_4_7::oq27_4_8::[])
theorem gq27_4_0:Oq27_4[0]? = some oq27_4_0:=rfl
theorem gq27_4_1:Oq27_4[1]? = some oq27_4_1:=rfl
theorem gq27_4_2:Oq27_4[2]? = some oq27_4_2:=rfl
theorem gq27_4_3:Oq27_4[3]? = some oq27_4_3:=rfl
theorem gq27_4_4:Oq27_4[4]? = some oq27_4_4:=rfl
theorem gq27_4_5:Oq27_4[5]? = some oq27_4_5:=rfl
theorem gq27_4_6:Oq27_4[6]? = some oq27_4_6:=rfl
theorem gq27_4_7:Oq27_4[7]? = some oq27_4_7:=rfl
theorem gq27_4_8:Oq27_4[8]? = some oq27_4_8:=rfl
def cq27_13:Code:=Code.region 4 Oq27_4 false
def oq27_5_0:Oper:=⟨some 31,Op.move (Operand.tmp 8),69, "post.go:80",#[],none⟩
def oq27_5_1:Oper:=⟨some 32,Op.move (Operand.tmp 8),69, "post.go:80",#[],none⟩
def oq27_5_2:Oper:=⟨some 33,Op.nilCheck (Operand.tmp 32),0, "post.go:80",#[ed_ 1],none⟩
def oq27_5_3:Oper:=⟨some 34,Op.fieldAddr 72 (Operand.tmp 33) 1,0, "post.go:80",#[ed_ 2],none⟩
def oq27_5_4:Oper:=⟨some 35,Op.load 26 (Operand.tmp 34),26, "post.go:80",#[ed_ 3],none⟩
def oq27_5_5:Oper:=⟨some 36,Op.move (Operand.tmp 9),3, "post.go:80",#[],none⟩
def oq27_5_6:Oper:=⟨some 37,Op.move (Operand.tmp 9),3, "post.go:80",#[],none⟩
def oq27_5_7:Oper:=⟨some 38,Op.binOp Go.BinOp.add 3 (Operand.tmp 37) (Operand.const (Value.int IntKind.i64 1)) 3,3, "post.go:80",#[ed_ 6],none⟩
def oq27_5_8:Oper:=⟨some 39,Op.call { callee:=Callee.value (Operand.func 32),args:=#[Operand.tmp 35,Operand.tmp 36,Operand.tmp 38],argTypes:=#[26,3,3] },26, "post.go:80",#[ed_ 4,ed_ 5,ed_ 7],none⟩
def oq27_5_9:Oper:=⟨some 40,Op.nilCheck (Operand.tmp 31),0, "post.go:80",#[ed_ 0,ep_ 0,ep_ 1,ep_ 2,ep_ 3,ep_ 4,ep_ 5,ep_ 6,ep_ 7,ep_ 8],none⟩
def oq27_5_10:Oper:=⟨some 41,Op.fieldAddr 72 (Operand.tmp 40) 1,0, "post.go:80",#[ed_ 9,ep_ 0,ep_ 1,ep_ 2,ep_ 3,ep_ 4,ep_ 5,ep_ 6,ep_ 7,ep_ 8],none⟩
def oq27_5_11:Oper:=⟨none,Op.store 26 (Operand.tmp 41) (Operand.tmp 39),0, "post.go:80",#[ed_ 10,ed_ 8,ec_ 8,ep_ 0,ep_ 1,ep_ 2,ep_ 3,ep_ 4,ep_ 5,ep_ 6,ep_ 7,ep_ 8],none⟩
def Oq27_5:Array Oper:=List.toArray (oq27_5_0::oq27_5_1::oq27_5_2::oq27_5_3::oq27_5_4::oq27_5_5::oq27_5_6::oq27_5_7::oq27_5_8::oq27_5_9::oq27_5_10::oq27_5_11::[])
theorem gq27_5_0:Oq27_5[0]? = some oq27_5_0:=rfl
theorem gq27_5_1:Oq27_5[1]? = some oq27_5_1:=rfl
theorem gq27_5_2:Oq27_5[2]? = some oq27_5_2:=rfl
theorem gq27_5_3:Oq27_5[3]? = some oq27_5_3:=rfl
theorem gq27_5_4:Oq27_5[4]? = some oq27_5_4:=rfl
theorem gq27_5_5:Oq27_5[5]? = some oq27_5_5:=rfl
theorem gq27_5_6:Oq27_5[6]? = some oq27_5_6:=rfl
theorem gq27_5_7:Oq27_5[7]? = some oq27_5_7:=rfl
theorem gq27_5_8:Oq27_5[8]? = some oq27_5_8:=rfl
theorem gq27_5_9:Oq27_5[9]? = some oq27_5_9:=rfl
theorem gq27_5_10:Oq27_5[10]? = some oq27_5_10:=rfl
theorem gq27_5_11:Oq27_5[11]? = some oq27_5_11:=rfl
def cq27_15:Code:=Code.region 5 Oq27_5 false
def oq27_6_0:Oper:=⟨some 42,Op.load 28 (Operand.tmp 11),28, "post.go:81",#[],none⟩
def oq27_6_1:Oper:=⟨none,Op.store 28 (Operand.tmp 6) (Operand.tmp 42),0, "post.go:81",#[ed_ 0,ep_ 0],none⟩
def oq27_6_2:Oper:=⟨some 7,Op.assign (Operand.const (Value.int IntKind.i64 0)),39, "post.go:81",#[ec_ 1,ep_ 0,ep_ 1],none⟩
def Oq27_6:Array Oper:=List.toArray (oq27_6_0::oq27_6_1::oq27_6_2::[])
theorem gq27_6_0:Oq27_6[0]? = some oq27_6_0:=rfl
theorem gq27_6_1:Oq27_6[1]? = some oq27_6_1:=rfl
theorem gq27_6_2:Oq27_6[2]? = some oq27_6_2:=rfl
def cq27_17:Code:=Code.region 6 Oq27_6 false
def cq27_16:Code:=Code.seq cq27_17 Code.ret
def cq27_14:Code:=Code.seq cq27_15 cq27_16
def cq27_12:Code:=Code.seq cq27_13 cq27_14
def cq27_4:Code:=Code.seq cq27_5 cq27_12
def cq27_2:Code:=Code.seq cq27_3 cq27_4
def cq27_0:Code:=Code.seq cq27_1 cq27_2
theorem bodyq27:Tryz.f17.body=some cq27_0:=by kernel_rfl
set_option maxRecDepth 100000 in
set_option maxHeartbeats 4000000 in
theorem get_a {W:World} {B b0 mb n:Nat} {RR:Nat→Prop} {made k:Int} {f:Int→Option Qu} {t:Tm} {a:Option Addr} {c:Nat} {er:Int} {f0:Act} {w0:World} (R:FrS 43 f0) (h0:f0.tmps[0]? = some (.pointer (some ⟨b0,0,none⟩))) (h1:f0.tmps[1]? = some (.int .i64 k)) (h2:f0.tmps[2]? = some (.agg #[.int .i64 t.k,.string (str t.nm),.int .i64 t.i,.slice a t.args.length c])) (K1:Keep (fun g=>g < W.heap.size) W w0)  (B0:Blk w0 b0 48 #[.int .i64 made,.map (some mb)]) (HP:Hid (PoAt B RR W b0 mb made f n)) (HK:Hid ((ik k).wf=true)) (HT:Hid (TmAt W.heap.size W t a c)) (HC:Hid (NoMsg f k t er)) (HNE:Hid (¬ er=0)):cq27_0.wp Tryz.prog (bodyPost Tryz.prog Tryz.f17 (fun e w'=>e=.returned (.tuple #[.agg #[.int .i64 0,.string ⟨#[]⟩,.int .i64 0,.slice none 0 0],.int .i64 er])∧Keep (fun g=>g < W.heap.size) W w')) f0 w0:=by
 refine wp_seq (x:=cq27_1) (y:=cq27_2) ?_
 change (Code.region 0 Oq27_0 false).wp _ _ _ _
 refine reg_in (l:=[0,1,2]) rfl ?_
 have F:FE_ _ [] f0 f0:=⟨R,Ag_.refl _⟩;clear R
 have Y:(execOp f0.eval oq27_0_0).run Tryz.prog w0=.ok (.value (.pointer (some ⟨w0.heap.size,0,none⟩))) (w0.alloc (.cells #[.int .i64 t.k,.string (str t.nm),.int .i64 t.i,.slice a t.args.length c] 28)):=by have r2:=F.of h2;unfold oq27_0_0;go_simp
 have B101:=Blk.new w0 28 #[.int .i64 t.k,.string (str t.nm),.int .i64 t.i,.slice a t.args.length c]
 obtain ⟨w102,hw⟩:∃ x,x=w0.alloc (.cells #[.int .i64 t.k,.string (str t.nm),.int .i64 t.i,.slice a t.args.length c] 28):=⟨_,rfl⟩;rw [← hw] at Y B101
 obtain ⟨b101,hb⟩:∃ x,x=w0.heap.size:=⟨_,rfl⟩;rw [← hb] at Y B101
 have Nb0_b101:=nb_ hb B0;replace B0:=ba_ hw B0;have LK1_b101:=lk_ hb K1;replace K1:=ka_ hw K1;clear hw hb
 refine sv_ gq27_0_0 Y fun a103 e=>?_;clear Y
 have h5:=pt_ F e;replace F:=pu_ F e;clear e
 have Y:(execOp a103.eval oq27_0_1).run Tryz.prog w102=.ok (.value (.pointer (some ⟨w102.heap.size,0,none⟩))) (w102.alloc (.cells #[.int .i64 0,.string (⟨#[]⟩),.int .i64 0,.slice none 0 0] 28)):=by unfold oq27_0_1;go_simp
 have B104:=Blk.new w102 28 #[.int .i64 0,.string (⟨#[]⟩),.int .i64 0,.slice none 0 0]
 obtain ⟨w105,hw⟩:∃ x,x=w102.alloc (.cells #[.int .i64 0,.string (⟨#[]⟩),.int .i64 0,.slice none 0 0] 28):=⟨_,rfl⟩;rw [← hw] at Y B104
 obtain ⟨b104,hb⟩:∃ x,x=w102.heap.size:=⟨_,rfl⟩;rw [← hb] at Y B104
 have Nb0_b104:=nb_ hb B0;replace B0:=ba_ hw B0;have Nb101_b104:=nb_ hb B101;replace B101:=ba_ hw B101;have LK1_b104:=lk_ hb K1;replace K1:=ka_ hw K1;clear hw hb
 refine sv_ gq27_0_1 Y fun a106 e=>?_;clear Y
 have h6:=pt_ F e;replace F:=pu_ F e;replace h5:=so_ e h5;clear e
 have Y:(execOp a106.eval oq27_0_2).run Tryz.prog w105=.ok (.value (.int .i64 0)) w105:=by unfold oq27_0_2;go_simp
 refine sv_ gq27_0_2 Y fun a107 e=>?_;clear Y
 have h7:=pt_ F e;replace F:=pu_ F e;replace h5:=so_ e h5;replace h6:=so_ e h6;clear e
 refine st_end ?_
 replace h0:=F.of h0;replace h1:=F.of h1;clear h2;have R:=F.r;clear F
 change (cq27_2).wp _ _ _ _
 refine wp_seq (x:=cq27_3) (y:=cq27_4) ?_
 change (Code.region 1 Oq27_1 false).wp _ _ _ _
 refine reg_in (l:=[0,1,2,3,4,5,6,7,8,9,10]) rfl ?_
 have F:FE_ _ [] a107 a107:=⟨R,Ag_.refl _⟩;clear R
 refine sv_ gq27_1_0 (ym_ rfl (F.of h0)) fun a108 e=>?_
 have h13:=pt_ F e;replace F:=pu_ F e;clear e
 refine sv_ gq27_1_1 (ym_ rfl (F.of h1)) fun a109 e=>?_
 have h14:=pt_ F e;replace F:=pu_ F e;replace h13:=so_ e h13;clear e
 refine sv_ gq27_1_2 (yl4_ rfl (F.of h5) B101) fun a110 e=>?_
 have h15:=pt_ F e;replace F:=pu_ F e;replace h13:=so_ e h13;replace h14:=so_ e h14;clear e
 have Y:(execOp a110.eval oq27_1_3).run Tryz.prog w105=.ok (.enter 31 #[.pointer (some ⟨b0,0,none⟩),.int .i64 k,.agg #[.int .i64 t.k,.string (str t.nm),.int .i64 t.i,.slice a t.args.length c]]) w105:=by unfold oq27_1_3;go_simp
 refine st_call gq27_1_3 rfl (wanted_free rfl) Y ((find_no (HP.out.on K1) HK.out (HT.out.on K1) HC.out).mono ?_);clear Y
 rintro e9 w111 ⟨rfl,kk⟩
 replace K1:=keep_onto K1 kk
 replace B0:=blk_on B0 kk
 replace B101:=blk_on B101 kk
 replace B104:=blk_on B104 kk
 clear kk
 refine ⟨_,rfl,fun a112 e=>?_⟩
 clear h13 h14 h15;have h16:=pt_ F e;replace F:=pu_ F e;clear e
 refine sv_ gq27_1_4 (ym_ rfl h16) fun a113 e=>?_
 clear h16;have h12:=pt_ F e;replace F:=pu_ F e;clear e
 refine sv_ gq27_1_5 (ye30_ rfl h12) fun a114 e=>?_
 have h17:=pt_ F e;replace F:=pu_ F e;replace h12:=so_ e h12;clear e
 refine sv_ gq27_1_6 (ye31_ rfl h12) fun a115 e=>?_
 have h18:=pt_ F e;replace F:=pu_ F e;replace h12:=so_ e h12;replace h17:=so_ e h17;clear e
 refine sv_ gq27_1_7 (ye32_ rfl h12) fun a116 e=>?_
 clear h12;have h19:=pt_ F e;replace F:=pu_ F e;replace h17:=so_ e h17;replace h18:=so_ e h18;clear e
 refine sv_ gq27_1_8 (ya_ rfl h17) fun a117 e=>?_
 clear h17;have h8:=pt_ F e;replace F:=pu_ F e;replace h18:=so_ e h18;replace h19:=so_ e h19;clear e
 refine sv_ gq27_1_9 (ya_ rfl h18) fun a118 e=>?_
 clear h18;have h9:=pt_ F e;replace F:=pu_ F e;replace h8:=so_ e h8;replace h19:=so_ e h19;clear e
 refine sv_ gq27_1_10 (ya_ rfl h19) fun a119 e=>?_
 clear h19;have h10:=pt_ F e;replace F:=pu_ F e;replace h8:=so_ e h8;replace h9:=so_ e h9;clear e
 refine st_end ?_
 clear h0;clear h1;clear h5;replace h6:=F.of h6;replace h7:=F.of h7;have R:=F.r;clear F
 change (cq27_4).wp _ _ _ _
 refine wp_seq (x:=cq27_5) (y:=cq27_12) ?_
 refine wp_seq (x:=cq27_6) (y:=cq27_7) ?_
 change (Code.region 2 Oq27_2 false).wp _ _ _ _
 refine reg_in (l:=[0,1]) rfl ?_
 have F:FE_ _ [] a119 a119:=⟨R,Ag_.refl _⟩;clear R
 refine sv_ gq27_2_0 (ym_ rfl (F.of h10)) fun a120 e=>?_
 have h20:=pt_ F e;replace F:=pu_ F e;clear e
 have Y:(execOp a120.eval oq27_2_1).run Tryz.prog w111=.ok (.value (.bool true)) w111:=by have hne:=HNE.out;unfold oq27_2_1;go_simp
 refine sv_ gq27_2_1 Y fun a121 e=>?_;clear Y
 clear h20;have h21:=pt_ F e;replace F:=pu_ F e;clear e
 refine st_end ?_
 replace h6:=F.of h6;replace h7:=F.of h7;replace h8:=F.of h8;replace h9:=F.of h9;replace h10:=F.of h10;have R:=F.r;clear F
 change (cq27_7).wp _ _ _ _
 refine wp_cond_true (x:=cq27_8) (y:=Code.skip) (eval_slot h21) ?_
 refine wp_seq (x:=cq27_9) (y:=Code.ret) ?_
 change (Code.region 3 Oq27_3 false).wp _ _ _ _
 refine reg_in (l:=[0,1,2,3]) rfl ?_
 have F:FE_ _ [] a121 a121:=⟨R,Ag_.refl _⟩;clear R
 have Y:(execOp a121.eval oq27_3_0).run Tryz.prog w111=.ok (.value (.agg #[.int .i64 0,.string (⟨#[]⟩),.int .i64 0,.slice none 0 0])) w111:=by unfold oq27_3_0;go_simp
 refine sv_ gq27_3_0 Y fun a122 e=>?_;clear Y
 have h22:=pt_ F e;replace F:=pu_ F e;clear e
 refine sv_ gq27_3_1 (ym_ rfl (F.of h10)) fun a123 e=>?_
 have h23:=pt_ F e;replace F:=pu_ F e;replace h22:=so_ e h22;clear e
 obtain ⟨w124,Y,hk,hB⟩:=ys4_ (o:=oq27_3_2) rfl (F.of h6) h22 B104
 replace K1:=kx_ hk K1 (Nat.not_lt.2 LK1_b104);replace B0:=bx_ hk B0 Nb0_b104;replace B101:=bx_ hk B101 Nb101_b104;clear B104;have B104:=hB;clear hB hk
 refine st_skip gq27_3_2 rfl (wanted_free rfl) Y ?_;clear Y
 refine sv_ gq27_3_3 (ya_ rfl h23) fun a125 e=>?_
 clear h22 h23 h7;have h7:=pt_ F e;replace F:=pu_ F e;clear e
 refine st_end ?_
 replace h6:=F.of h6;replace h8:=F.of h8;replace h9:=F.of h9;clear h10;clear h21;have R:=F.r;clear F
 change (Code.ret).wp _ _ _ _
 refine wp_ret ?_
 change bodyPost Tryz.prog Tryz.f17 (fun e w'=>e=.returned (.tuple #[.agg #[.int .i64 0,.string ⟨#[]⟩,.int .i64 0,.slice none 0 0],.int .i64 er])∧Keep (fun g=>g < W.heap.size) W w') .ret a125 w124
 refine ret_cell_tmp (fn:=Tryz.f17) rfl R h6 h7 B104 ?_
 exact ⟨rfl,K1⟩
set_option maxRecDepth 100000 in
set_option maxHeartbeats 4000000 in
theorem get_b {W:World} {B b0 mb n:Nat} {RR:Nat→Prop} {made k:Int} {f:Int→Option Qu} {t:Tm} {a:Option Addr} {c:Nat} {b1 b2 vc j:Nat} {m:Int} {ps:List TP} {p:TP} {cur:Array Value} {f0:Act} {w0:World} (R:FrS 43 f0) (h0:f0.tmps[0]? = some (.pointer (some ⟨b0,0,none⟩))) (h1:f0.tmps[1]? = some (.int .i64 k)) (h2:f0.tmps[2]? = some (.agg #[.int .i64 t.k,.string (str t.nm),.int .i64 t.i,.slice a t.args.length c])) (K1:Keep (fun g=>g < W.heap.size) W w0)  (B0:Blk w0 b0 48 #[.int .i64 made,.map (some mb)]) (HP:Hid (PoAt B RR W b0 mb made f n)) (HK:Hid ((ik k).wf=true)) (B1:Blk w0 b1 72 #[.int .i64 m,.slice (some ⟨b2,0,none⟩) ps.length vc]) (HF:Hid (f k=some ⟨b1,m,.slice (some ⟨b2,0,none⟩) ps.length vc,ps⟩)) (HT:Hid (TmAt W.heap.size W t a c)) (HC:Hid (IsMsg ⟨b1,m,.slice (some ⟨b2,0,none⟩) ps.length vc,ps⟩ t j p)) (B2:Blk w0 b2 28 cur) (Nb0_b1:b0 ≠ b1) (Nb0_b2:b0 ≠ b2) (Nb1_b2:b1 ≠ b2) (HS:Hid (cur.size=vc * 4)) (HTK:Hid (cur.toList.take (ps.length * 4)=ps.flatMap TP.cells)) (HC2:Hid (ps.length ≤ vc)):cq27_0.wp Tryz.prog (bodyPost Tryz.prog Tryz.f17 (fun e w'=>e=.returned (.tuple #[tv p.1 p.2.1 p.2.2,.int .i64 0])∧Blk w' b1 72 #[.int .i64 m,.slice (some ⟨b2,0,none⟩) (ps.length - 1:Nat) vc]∧∃ cur',Blk w' b2 28 cur'∧cur'.size=vc * 4∧cur'.toList.take ((ps.length - 1) * 4)=(ps.eraseIdx j).flatMap TP.cells∧Keep (fun g=>g < W.heap.size∧g ≠ b1∧g ≠ b2) W w')) f0 w0:=by
 have KX:Keep (fun g=>g < W.heap.size∧g ≠ b1∧g ≠ b2) W w0:=K1.less fun g hg=>hg.1
 refine wp_seq (x:=cq27_1) (y:=cq27_2) ?_
 change (Code.region 0 Oq27_0 false).wp _ _ _ _
 refine reg_in (l:=[0,1,2]) rfl ?_
 have F:FE_ _ [] f0 f0:=⟨R,Ag_.refl _⟩;clear R
 have Y:(execOp f0.eval oq27_0_0).run Tryz.prog w0=.ok (.value (.pointer (some ⟨w0.heap.size,0,none⟩))) (w0.alloc (.cells #[.int .i64 t.k,.string (str t.nm),.int .i64 t.i,.slice a t.args.length c] 28)):=by have r2:=F.of h2;unfold oq27_0_0;go_simp
 have B101:=Blk.new w0 28 #[.int .i64 t.k,.string (str t.nm),.int .i64 t.i,.slice a t.args.length c]
 obtain ⟨w102,hw⟩:∃ x,x=w0.alloc (.cells #[.int .i64 t.k,.string (str t.nm),.int .i64 t.i,.slice a t.args.length c] 28):=⟨_,rfl⟩;rw [← hw] at Y B101
 obtain ⟨b101,hb⟩:∃ x,x=w0.heap.size:=⟨_,rfl⟩;rw [← hb] at Y B101
 have Nb0_b101:=nb_ hb B0;replace B0:=ba_ hw B0;have Nb1_b101:=nb_ hb B1;replace B1:=ba_ hw B1;have Nb2_b101:=nb_ hb B2;replace B2:=ba_ hw B2;have LK1_b101:=lk_ hb K1;replace K1:=ka_ hw K1;have LKX_b101:=lk_ hb KX;replace KX:=ka_ hw KX;clear hw hb
 refine sv_ gq27_0_0 Y fun a103 e=>?_;clear Y
 have h5:=pt_ F e;replace F:=pu_ F e;clear e
 have Y:(execOp a103.eval oq27_0_1).run Tryz.prog w102=.ok (.value (.pointer (some ⟨w102.heap.size,0,none⟩))) (w102.alloc (.cells #[.int .i64 0,.string (⟨#[]⟩),.int .i64 0,.slice none 0 0] 28)):=by unfold oq27_0_1;go_simp
 have B104:=Blk.new w102 28 #[.int .i64 0,.string (⟨#[]⟩),.int .i64 0,.slice none 0 0]
 obtain ⟨w105,hw⟩:∃ x,x=w102.alloc (.cells #[.int .i64 0,.string (⟨#[]⟩),.int .i64 0,.slice none 0 0] 28):=⟨_,rfl⟩;rw [← hw] at Y B104
 obtain ⟨b104,hb⟩:∃ x,x=w102.heap.size:=⟨_,rfl⟩;rw [← hb] at Y B104
 have Nb0_b104:=nb_ hb B0;replace B0:=ba_ hw B0;have Nb1_b104:=nb_ hb B1;replace B1:=ba_ hw B1;have Nb2_b104:=nb_ hb B2;replace B2:=ba_ hw B2;have Nb101_b104:=nb_ hb B101;replace B101:=ba_ hw B101;have LK1_b104:=lk_ hb K1;replace K1:=ka_ hw K1;have LKX_b104:=lk_ hb KX;replace KX:=ka_ hw KX;clear hw hb
 refine sv_ gq27_0_1 Y fun a106 e=>?_;clear Y
 have h6:=pt_ F e;replace F:=pu_ F e;replace h5:=so_ e h5;clear e
 have Y:(execOp a106.eval oq27_0_2).run Tryz.prog w105=.ok (.value (.int .i64 0)) w105:=by unfold oq27_0_2;go_simp
 refine sv_ gq27_0_2 Y fun a107 e=>?_;clear Y
 have h7:=pt_ F e;replace F:=pu_ F e;replace h5:=so_ e h5;replace h6:=so_ e h6;clear e
 refine st_end ?_
 replace h0:=F.of h0;replace h1:=F.of h1;clear h2;have R:=F.r;clear F
 change (cq27_2).wp _ _ _ _
 refine wp_seq (x:=cq27_3) (y:=cq27_4) ?_
 change (Code.region 1 Oq27_1 false).wp _ _ _ _
 refine reg_in (l:=[0,1,2,3,4,5,6,7,8,9,10]) rfl ?_
 have F:FE_ _ [] a107 a107:=⟨R,Ag_.refl _⟩;clear R
 refine sv_ gq27_1_0 (ym_ rfl (F.of h0)) fun a108 e=>?_
 have h13:=pt_ F e;replace F:=pu_ F e;clear e
 refine sv_ gq27_1_1 (ym_ rfl (F.of h1)) fun a109 e=>?_
 have h14:=pt_ F e;replace F:=pu_ F e;replace h13:=so_ e h13;clear e
 refine sv_ gq27_1_2 (yl4_ rfl (F.of h5) B101) fun a110 e=>?_
 have h15:=pt_ F e;replace F:=pu_ F e;replace h13:=so_ e h13;replace h14:=so_ e h14;clear e
 have Y:(execOp a110.eval oq27_1_3).run Tryz.prog w105=.ok (.enter 31 #[.pointer (some ⟨b0,0,none⟩),.int .i64 k,.agg #[.int .i64 t.k,.string (str t.nm),.int .i64 t.i,.slice a t.args.length c]]) w105:=by unfold oq27_1_3;go_simp
 refine st_call gq27_1_3 rfl (wanted_free rfl) Y ((find_yes (HP.out.on K1) HK.out (HT.out.on K1) HF.out HC.out).mono ?_);clear Y
 rintro e9 w111 ⟨rfl,kk⟩
 replace K1:=keep_onto K1 kk
 replace KX:=KX.trans kk.all
 replace B0:=blk_on B0 kk
 replace B1:=blk_on B1 kk
 replace B2:=blk_on B2 kk
 replace B101:=blk_on B101 kk
 replace B104:=blk_on B104 kk
 clear kk
 refine ⟨_,rfl,fun a112 e=>?_⟩
 clear h13 h14 h15;have h16:=pt_ F e;replace F:=pu_ F e;clear e
 refine sv_ gq27_1_4 (ym_ rfl h16) fun a113 e=>?_
 clear h16;have h12:=pt_ F e;replace F:=pu_ F e;clear e
 refine sv_ gq27_1_5 (ye30_ rfl h12) fun a114 e=>?_
 have h17:=pt_ F e;replace F:=pu_ F e;replace h12:=so_ e h12;clear e
 refine sv_ gq27_1_6 (ye31_ rfl h12) fun a115 e=>?_
 have h18:=pt_ F e;replace F:=pu_ F e;replace h12:=so_ e h12;replace h17:=so_ e h17;clear e
 refine sv_ gq27_1_7 (ye32_ rfl h12) fun a116 e=>?_
 clear h12;have h19:=pt_ F e;replace F:=pu_ F e;replace h17:=so_ e h17;replace h18:=so_ e h18;clear e
 refine sv_ gq27_1_8 (ya_ rfl h17) fun a117 e=>?_
 clear h17;have h8:=pt_ F e;replace F:=pu_ F e;replace h18:=so_ e h18;replace h19:=so_ e h19;clear e
 refine sv_ gq27_1_9 (ya_ rfl h18) fun a118 e=>?_
 clear h18;have h9:=pt_ F e;replace F:=pu_ F e;replace h8:=so_ e h8;replace h19:=so_ e h19;clear e
 refine sv_ gq27_1_10 (ya_ rfl h19) fun a119 e=>?_
 clear h19;have h10:=pt_ F e;replace F:=pu_ F e;replace h8:=so_ e h8;replace h9:=so_ e h9;clear e
 refine st_end ?_
 clear h0;clear h1;clear h5;replace h6:=F.of h6;replace h7:=F.of h7;have R:=F.r;clear F
 change (cq27_4).wp _ _ _ _
 refine wp_seq (x:=cq27_5) (y:=cq27_12) ?_
 refine wp_seq (x:=cq27_6) (y:=cq27_7) ?_
 change (Code.region 2 Oq27_2 false).wp _ _ _ _
 refine reg_in (l:=[0,1]) rfl ?_
 have F:FE_ _ [] a119 a119:=⟨R,Ag_.refl _⟩;clear R
 refine sv_ gq27_2_0 (ym_ rfl (F.of h10)) fun a120 e=>?_
 have h20:=pt_ F e;replace F:=pu_ F e;clear e
 have Y:(execOp a120.eval oq27_2_1).run Tryz.prog w111=.ok (.value (.bool false)) w111:=by unfold oq27_2_1;go_simp
 refine sv_ gq27_2_1 Y fun a121 e=>?_;clear Y
 clear h20;have h21:=pt_ F e;replace F:=pu_ F e;clear e
 refine st_end ?_
 replace h6:=F.of h6;replace h7:=F.of h7;replace h8:=F.of h8;replace h9:=F.of h9;replace h10:=F.of h10;have R:=F.r;clear F
 change (cq27_7).wp _ _ _ _
 refine wp_cond_false (x:=cq27_8) (y:=Code.skip) (eval_slot h21) ?_
 refine wp_skip ?_
 change (cq27_12).wp _ _ _ _
 refine wp_seq (x:=cq27_13) (y:=cq27_14) ?_
 change (Code.region 4 Oq27_4 false).wp _ _ _ _
 refine reg_in (l:=[0,1,2,3,4,5,6,7,8]) rfl ?_
 have F:FE_ _ [] a121 a121:=⟨R,Ag_.refl _⟩;clear R
 refine sv_ gq27_4_0 (ym_ rfl (F.of h8)) fun a122 e=>?_
 have h24:=pt_ F e;replace F:=pu_ F e;clear e
 have Y:(execOp a122.eval oq27_4_1).run Tryz.prog w111=.ok (.value (.pointer (some ⟨b1,0,none⟩))) w111:=by unfold oq27_4_1;go_simp
 refine sv_ gq27_4_1 Y fun a123 e=>?_;clear Y
 clear h24;have h25:=pt_ F e;replace F:=pu_ F e;clear e
 have Y:(execOp a123.eval oq27_4_2).run Tryz.prog w111=.ok (.value (.pointer (some ⟨b1,1,none⟩))) w111:=by unfold oq27_4_2;go_simp
 refine sv_ gq27_4_2 Y fun a124 e=>?_;clear Y
 clear h25;have h26:=pt_ F e;replace F:=pu_ F e;clear e
 have Y:(execOp a124.eval oq27_4_3).run Tryz.prog w111=.ok (.value (.slice (some ⟨b2,0,none⟩) ps.length vc)) w111:=by have qq0:w111.cell? ⟨b1,0,none⟩=some (.int .i64 m):=B1.cell 0;have qq1:w111.cell? ⟨b1,1,none⟩=some (.slice (some ⟨b2,0,none⟩) ps.length vc):=B1.cell 1;unfold oq27_4_3;go_simp
 refine sv_ gq27_4_3 Y fun a125 e=>?_;clear Y
 clear h26;have h27:=pt_ F e;replace F:=pu_ F e;clear e
 refine sv_ gq27_4_4 (ym_ rfl (F.of h9)) fun a126 e=>?_
 have h28:=pt_ F e;replace F:=pu_ F e;replace h27:=so_ e h27;clear e
 have hp:=HC.out.2.1;simp only at hp
 have hjl:j < ps.length:=(List.getElem?_eq_some_iff.1 hp).1
 have hltA:(j:Int) < (ps.length:Int):=by omega
 have HPJ:=Lib.hid hp;clear hp
 have Y:(execOp a126.eval oq27_4_5).run Tryz.prog w111=.ok (.value (.pointer (some ⟨b2,j * 4,none⟩))) w111:=by unfold oq27_4_5;go_simp
 refine sv_ gq27_4_5 Y fun a127 e=>?_;clear Y
 clear h27 h28;have h29:=pt_ F e;replace F:=pu_ F e;clear e
 have Y:(execOp a127.eval oq27_4_6).run Tryz.prog w111=.ok (.value (.agg #[.int .i64 p.1.k,.string (str p.1.nm),.int .i64 p.1.i,.slice p.2.1 p.1.args.length p.2.2])) w111:=by obtain ⟨⟨c0,c1,c2,c3⟩,-⟩:=tmsl_at (((HP.out.on K1).qs k _ HF.out).tmsl) rfl HPJ.out;simp only [Nat.zero_add] at c0 c1 c2 c3;unfold oq27_4_6;go_simp
 refine sv_ gq27_4_6 Y fun a128 e=>?_;clear Y
 clear h29;have h30:=pt_ F e;replace F:=pu_ F e;clear e
 have Y:(execOp a128.eval oq27_4_7).run Tryz.prog w111=.ok (.value (.pointer (some ⟨w111.heap.size,0,none⟩))) (w111.alloc (.cells #[.int .i64 0,.string (⟨#[]⟩),.int .i64 0,.slice none 0 0] 28)):=by unfold oq27_4_7;go_simp
 have B129:=Blk.new w111 28 #[.int .i64 0,.string (⟨#[]⟩),.int .i64 0,.slice none 0 0]
 obtain ⟨w130,hw⟩:∃ x,x=w111.alloc (.cells #[.int .i64 0,.string (⟨#[]⟩),.int .i64 0,.slice none 0 0] 28):=⟨_,rfl⟩;rw [← hw] at Y B129
 obtain ⟨b129,hb⟩:∃ x,x=w111.heap.size:=⟨_,rfl⟩;rw [← hb] at Y B129
 have Nb0_b129:=nb_ hb B0;replace B0:=ba_ hw B0;have Nb1_b129:=nb_ hb B1;replace B1:=ba_ hw B1;have Nb2_b129:=nb_ hb B2;replace B2:=ba_ hw B2;have Nb101_b129:=nb_ hb B101;replace B101:=ba_ hw B101;have Nb104_b129:=nb_ hb B104;replace B104:=ba_ hw B104;have LK1_b129:=lk_ hb K1;replace K1:=ka_ hw K1;have LKX_b129:=lk_ hb KX;replace KX:=ka_ hw KX;clear hw hb
 refine sv_ gq27_4_7 Y fun a131 e=>?_;clear Y
 have h11:=pt_ F e;replace F:=pu_ F e;replace h30:=so_ e h30;clear e
 obtain ⟨w132,Y,hk,hB⟩:=ys4_ (o:=oq27_4_8) rfl h11 h30 B129
 replace K1:=kx_ hk K1 (Nat.not_lt.2 LK1_b129);replace KX:=kx_ hk KX (fun hx=>absurd hx.1 (Nat.not_lt.2 LKX_b129));replace B0:=bx_ hk B0 Nb0_b129;replace B1:=bx_ hk B1 Nb1_b129;replace B2:=bx_ hk B2 Nb2_b129;replace B101:=bx_ hk B101 Nb101_b129;replace B104:=bx_ hk B104 Nb104_b129;clear B129;have B129:=hB;clear hB hk
 refine st_skip gq27_4_8 rfl (wanted_free rfl) Y ?_;clear Y
 refine st_end ?_
 replace h6:=F.of h6;replace h7:=F.of h7;replace h8:=F.of h8;replace h9:=F.of h9;clear h10;clear h21;clear h30;have R:=F.r;clear F
 change (cq27_14).wp _ _ _ _
 refine wp_seq (x:=cq27_15) (y:=cq27_16) ?_
 change (Code.region 5 Oq27_5 false).wp _ _ _ _
 refine reg_in (l:=[0,1,2,3,4,5,6,7,8,9,10,11]) rfl ?_
 have F:FE_ _ [] a131 a131:=⟨R,Ag_.refl _⟩;clear R
 refine sv_ gq27_5_0 (ym_ rfl (F.of h8)) fun a133 e=>?_
 have h31:=pt_ F e;replace F:=pu_ F e;clear e
 refine sv_ gq27_5_1 (ym_ rfl (F.of h8)) fun a134 e=>?_
 have h32:=pt_ F e;replace F:=pu_ F e;replace h31:=so_ e h31;clear e
 have Y:(execOp a134.eval oq27_5_2).run Tryz.prog w132=.ok (.value (.pointer (some ⟨b1,0,none⟩))) w132:=by unfold oq27_5_2;go_simp
 refine sv_ gq27_5_2 Y fun a135 e=>?_;clear Y
 clear h32;have h33:=pt_ F e;replace F:=pu_ F e;replace h31:=so_ e h31;clear e
 have Y:(execOp a135.eval oq27_5_3).run Tryz.prog w132=.ok (.value (.pointer (some ⟨b1,1,none⟩))) w132:=by unfold oq27_5_3;go_simp
 refine sv_ gq27_5_3 Y fun a136 e=>?_;clear Y
 clear h33;have h34:=pt_ F e;replace F:=pu_ F e;replace h31:=so_ e h31;clear e
 have Y:(execOp a136.eval oq27_5_4).run Tryz.prog w132=.ok (.value (.slice (some ⟨b2,0,none⟩) ps.length vc)) w132:=by have qq0:w132.cell? ⟨b1,0,none⟩=some (.int .i64 m):=B1.cell 0;have qq1:w132.cell? ⟨b1,1,none⟩=some (.slice (some ⟨b2,0,none⟩) ps.length vc):=B1.cell 1;unfold oq27_5_4;go_simp
 refine sv_ gq27_5_4 Y fun a137 e=>?_;clear Y
 clear h34;have h35:=pt_ F e;replace F:=pu_ F e;replace h31:=so_ e h31;clear e
 refine sv_ gq27_5_5 (ym_ rfl (F.of h9)) fun a138 e=>?_
 have h36:=pt_ F e;replace F:=pu_ F e;replace h31:=so_ e h31;replace h35:=so_ e h35;clear e
 refine sv_ gq27_5_6 (ym_ rfl (F.of h9)) fun a139 e=>?_
 have h37:=pt_ F e;replace F:=pu_ F e;replace h31:=so_ e h31;replace h35:=so_ e h35;replace h36:=so_ e h36;clear e
 have Y:(execOp a139.eval oq27_5_7).run Tryz.prog w132=.ok (.value (.int .i64 ((j:Int) + 1))) w132:=by have hwj:IntKind.i64.wrap ((j:Int) + 1)=(j:Int) + 1:=(by rw [IntKind.wrap_i64];have h:=(HP.out.qs k _ HF.out).le;have h2:=(HP.out.qs k _ HF.out).m1;simp only at h h2;omega);unfold oq27_5_7;go_simp
 refine sv_ gq27_5_7 Y fun a140 e=>?_;clear Y
 clear h37;have h38:=pt_ F e;replace F:=pu_ F e;replace h31:=so_ e h31;replace h35:=so_ e h35;replace h36:=so_ e h36;clear e
 have Y:(execOp a140.eval oq27_5_8).run Tryz.prog w132=.ok (.enter 32 #[.slice (some ⟨b2,0,none⟩) ps.length vc,.int .i64 (j:Int),.int .i64 ((j:Int) + 1)]) w132:=by unfold oq27_5_8;go_simp
 clear K1
 refine st_call gq27_5_8 rfl (wanted_free rfl) Y ((delete_any (ps:=ps) (i:=j) B2 HS.out HTK.out hjl HC2.out).mono ?_);clear Y
 rintro e9 w141 ⟨rfl,cur9,hb9,hs9,ht9,kk⟩
 replace KX:=KX.trans (kk.less fun g hg=>⟨Nat.lt_of_lt_of_le hg.1 KX.size,hg.2.2⟩)
 replace B0:=B0.keep kk ⟨B0.lt,Nb0_b2⟩
 replace B1:=B1.keep kk ⟨B1.lt,Nb1_b2⟩
 replace B101:=B101.keep kk ⟨B101.lt,fun e=>Nb2_b101 e.symm⟩
 replace B104:=B104.keep kk ⟨B104.lt,fun e=>Nb2_b104 e.symm⟩
 replace B129:=B129.keep kk ⟨B129.lt,fun e=>Nb2_b129 e.symm⟩
 clear B2;have B2:=hb9;clear hb9;have HS9:=Lib.hid hs9;clear hs9;have HT9:=Lib.hid ht9;clear ht9
 clear kk
 refine ⟨_,rfl,fun a142 e=>?_⟩
 clear h35 h36 h38;have h39:=pt_ F e;replace F:=pu_ F e;replace h31:=so_ e h31;clear e
 have Y:(execOp a142.eval oq27_5_9).run Tryz.prog w141=.ok (.value (.pointer (some ⟨b1,0,none⟩))) w141:=by unfold oq27_5_9;go_simp
 refine sv_ gq27_5_9 Y fun a143 e=>?_;clear Y
 clear h31;have h40:=pt_ F e;replace F:=pu_ F e;replace h39:=so_ e h39;clear e
 have Y:(execOp a143.eval oq27_5_10).run Tryz.prog w141=.ok (.value (.pointer (some ⟨b1,1,none⟩))) w141:=by unfold oq27_5_10;go_simp
 refine sv_ gq27_5_10 Y fun a144 e=>?_;clear Y
 clear h40;have h41:=pt_ F e;replace F:=pu_ F e;replace h39:=so_ e h39;clear e
 have Y:(execOp a144.eval oq27_5_11).run Tryz.prog w141=.ok .skip (w141.setCell ⟨b1,1,none⟩ (.slice (some ⟨b2,0,none⟩) (ps.length - 1:Nat) vc)):=by have qq0:w141.cell? ⟨b1,0,none⟩=some (.int .i64 m):=B1.cell 0;have qq1:w141.cell? ⟨b1,1,none⟩=some (.slice (some ⟨b2,0,none⟩) ps.length vc):=B1.cell 1;have z0:=B1.frozen 1;unfold oq27_5_11;go_simp
 obtain ⟨w145,hw⟩:∃ x,x=(w141.setCell ⟨b1,1,none⟩ (.slice (some ⟨b2,0,none⟩) (ps.length - 1:Nat) vc)):=⟨_,rfl⟩;rw [← hw] at Y
 have hk:Keep (fun g=>g ≠ b1) w141 w145:=by rw [hw];exact (Keep.refl _ _).setCell (fun h=>h rfl) _
 replace KX:=kx_ hk KX (fun hx=>hx.2.1 rfl);replace B0:=bx_ hk B0 Nb0_b1;replace B2:=bx_ hk B2 (Ne.symm Nb1_b2);replace B101:=bx_ hk B101 (Ne.symm Nb1_b101);replace B104:=bx_ hk B104 (Ne.symm Nb1_b104);replace B129:=bx_ hk B129 (Ne.symm Nb1_b129);replace B1:Blk w145 b1 72 #[.int .i64 m,.slice (some ⟨b2,0,none⟩) (ps.length - 1:Nat) vc]:=(by rw [hw];exact (B1.set_ 1 _));clear hw hk
 refine st_skip gq27_5_11 rfl (wanted_free rfl) Y ?_;clear Y
 refine st_end ?_
 replace h6:=F.of h6;replace h7:=F.of h7;clear h8;clear h9;replace h11:=F.of h11;clear h39;clear h41;have R:=F.r;clear F
 change (cq27_16).wp _ _ _ _
 refine wp_seq (x:=cq27_17) (y:=Code.ret) ?_
 change (Code.region 6 Oq27_6 false).wp _ _ _ _
 refine reg_in (l:=[0,1,2]) rfl ?_
 have F:FE_ _ [] a144 a144:=⟨R,Ag_.refl _⟩;clear R
 refine sv_ gq27_6_0 (yl4_ rfl (F.of h11) B129) fun a146 e=>?_
 have h42:=pt_ F e;replace F:=pu_ F e;clear e
 obtain ⟨w147,Y,hk,hB⟩:=ys4_ (o:=oq27_6_1) rfl (F.of h6) h42 B104
 replace KX:=kx_ hk KX (fun hx=>absurd hx.1 (Nat.not_lt.2 LKX_b104));replace B0:=bx_ hk B0 Nb0_b104;replace B1:=bx_ hk B1 Nb1_b104;replace B2:=bx_ hk B2 Nb2_b104;replace B101:=bx_ hk B101 Nb101_b104;replace B129:=bx_ hk B129 (Ne.symm Nb104_b129);clear B104;have B104:=hB;clear hB hk
 refine st_skip gq27_6_1 rfl (wanted_free rfl) Y ?_;clear Y
 have Y:(execOp a146.eval oq27_6_2).run Tryz.prog w147=.ok (.value (.int .i64 0)) w147:=by unfold oq27_6_2;go_simp
 refine sv_ gq27_6_2 Y fun a148 e=>?_;clear Y
 clear h42 h7;have h7:=pt_ F e;replace F:=pu_ F e;clear e
 refine st_end ?_
 replace h6:=F.of h6;clear h11;have R:=F.r;clear F
 change (Code.ret).wp _ _ _ _
 refine wp_ret ?_
 change bodyPost Tryz.prog Tryz.f17 (fun e w'=>e=.returned (.tuple #[tv p.1 p.2.1 p.2.2,.int .i64 0])∧Blk w' b1 72 #[.int .i64 m,.slice (some ⟨b2,0,none⟩) (ps.length - 1:Nat) vc]∧∃ cur',Blk w' b2 28 cur'∧cur'.size=vc * 4∧cur'.toList.take ((ps.length - 1) * 4)=(ps.eraseIdx j).flatMap TP.cells∧Keep (fun g=>g < W.heap.size∧g ≠ b1∧g ≠ b2) W w') .ret a148 w147
 refine ret_cell_tmp (fn:=Tryz.f17) rfl R h6 h7 B104 ?_
 exact ⟨rfl,B1,_,B2,HS9.out,HT9.out,KX⟩
section
variable {W:World} {B b0 mb n:Nat} {R:Nat→Prop} {made k er:Int} {f:Int→Option Qu} {t:Tm} {a:Option Addr} {c:Nat} {q:Qu}
theorem get_no (h:PoAt B R W b0 mb made f n) (hk:(ik k).wf=true) (hT:TmAt W.heap.size W t a c) (hc:NoMsg f k t er):Calls Tryz.prog 17 #[.pointer (some ⟨b0,0,none⟩),.int .i64 k,tv t a c] W fun e w'=>e=.returned (.tuple #[.agg #[.int .i64 0,.string ⟨#[]⟩,.int .i64 0,.slice none 0 0],.int .i64 er])∧Keep (fun g=>g < W.heap.size) W w':=by
  refine enter_sx Tryz.func17 bodyq27 rfl (by show (3:Nat) ≤ 43;decide) fun f0 R0 hs=>?_
  exact get_a R0 (hs 0 _ rfl) (hs 1 _ rfl) (hs 2 _ rfl) (Keep.refl _ W) h.head (Lib.hid h) (Lib.hid hk) (Lib.hid hT) (Lib.hid hc) (Lib.hid hc.ne)
theorem get_yes {j:Nat} {p:TP} (h:PoAt B R W b0 mb made f n) (hk:(ik k).wf=true) (hT:TmAt W.heap.size W t a c) (hf:f k=some q) (hc:IsMsg q t j p):Calls Tryz.prog 17 #[.pointer (some ⟨b0,0,none⟩),.int .i64 k,tv t a c] W fun e w'=>∃ v',e=.returned (.tuple #[tv p.1 p.2.1 p.2.2,.int .i64 0])∧PoAt B R w' b0 mb made (fun x=>if x=k then some ⟨q.g,q.m,v',q.ps.eraseIdx j⟩ else f x) n∧Fr 0 R w' B w'.heap.size p.1 p.2.1 p.2.2∧(∀ b,v'.ownBlock=some b→q.v.ownBlock=some b)∧Keep (fun g=>g < W.heap.size∧g ≠ q.g∧q.v.ownBlock ≠ some g) W w':=by
  obtain ⟨va,vc,e⟩:=h.cut hf
  have hq0:=h.qs k q hf
  rcases q with ⟨b1,m,v,ps⟩
  simp only at e
  injection e with _ _ e2
  subst e2
  have hj:j < ps.length:=(List.getElem?_eq_some_iff.1 hc.2.1).1
  obtain ⟨b2,cur,rfl,g1,g2,g3,g4,g5,g6⟩:=row_cur hq0.row (by show 0 < ps.length;omega)
  obtain ⟨n1,n2,n3,n4,n5⟩:=h.pa_ne hq0
  have n2':b0 ≠ b2:=fun e=>n2 (by rw [e];rfl)
  have n5':b1 ≠ b2:=fun e=>n5 (by show some b2=some b1;rw [e])
  refine Calls.mono (enter_sx Tryz.func17 bodyq27 rfl (by show (3:Nat) ≤ 43;decide) fun f0 R0 hs=>get_b R0 (hs 0 _ rfl) (hs 1 _ rfl) (hs 2 _ rfl) (Keep.refl _ W) h.head (Lib.hid h) (Lib.hid hk) hq0.box (Lib.hid hf) (Lib.hid hT) (Lib.hid hc) g2 n1 n2' n5' (Lib.hid g5) (Lib.hid g6) (Lib.hid g3)) ?_
  rintro e9 w' ⟨rfl,hbx,cur',hb',hs',ht',hkk⟩
  have hrb:R b2:=hq0.rv b2 rfl
  have hrl:=(h.rb b2 hrb).2
  have hkk2:Keep (fun g=>g ≠ b1∧(Value.slice (some ⟨b2,0,none⟩) ps.length vc).ownBlock ≠ some g) W w':=hkk.at_ fun g hl hg=>⟨hl,hg.1,fun e=>hg.2 (by rw [e];rfl)⟩
  have hlen:(ps.eraseIdx j).length=ps.length - 1:=List.length_eraseIdx_of_lt hj
  have hfr:∀ y ∈ ps,Fr 0 R w' B w'.heap.size y.1 y.2.1 y.2.2:=fun y hy=>by
    have hk2:Keep (fun g=>¬ R g) W w':=hkk.at_ fun g hl hg=>⟨hl,fun e=>hg (e ▸ hq0.rg),fun e=>hg (e ▸ hrb)⟩
    exact ((hq0.fr y hy).keepR hk2 fun g hg=>by rcases hg with hg | hg;omega;exact hg.2).up hkk.size (Nat.le_refl _)
  refine ⟨.slice (some ⟨b2,0,none⟩) (ps.eraseIdx j).length vc,rfl,h.put hf hkk2 rfl (fun _ h=>h) (fun _ h=>.inl h) (fun b hb=>Nat.lt_of_lt_of_le (h.rb b hb).2 hkk.size) (fun b hb=>.inl hb) ⟨?_,?_,?_,hq0.rg,fun b hb=>hq0.rv b hb,hq0.m1,?_,?_⟩,hfr p (List.mem_of_getElem? hc.2.1),fun b hb=>hb,hkk.less fun g hg=>⟨hg.1,hg.2.1,fun e=>hg.2.2 (by show some b2=some g;rw [e])⟩⟩
  · show Blk w' b1 72 #[.int .i64 m,.slice (some ⟨b2,0,none⟩) (ps.eraseIdx j).length vc]
    rw [hlen];exact hbx
  · exact cur_row hb' g1 (by rw [hlen];omega) g4 hs' (by rw [hlen];exact ht')
  · exact fun y hy=>hfr y (List.mem_of_mem_eraseIdx hy)
  · have:=hq0.le;simp only at this ⊢;rw [hlen];omega
  · exact fun y hy=>hq0.ren y (List.mem_of_mem_eraseIdx hy)
end
end Go.Proofs.YtnfcbalppecnfaaGreat
