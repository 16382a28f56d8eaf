/-
  Package post: Send: walked with letter frames. No condition but where post and term lie.
-/
import Derived.Test.YtnfcbalppecnfaaGreatPPo5
namespace Go.Proofs.YtnfcbalppecnfaaGreat
open Go.RowKit Go.Maps
set_option linter.unusedVariables false
set_option linter.unusedSimpArgs false
theorem msg_of {t:Tm} (h:t.right=true):Msg (t.tree.ren 1).tm:=by
  have h1:=ren_facts h (a:=1) (b:=1) (by decide) (by decide)
  exact ⟨h1.1,by rw [h1.2.1]⟩
theorem push_zero {B b2 c2 n:Nat} {w:World} {v:Value} {xs:List Value} {ty:TypeId} (hrow:w.ownsRow B 28 4 v n xs) (hle:B ≤ w.heap.size) (hb:Blk w b2 28 #[.int .i64 0,.string ⟨#[]⟩,.int .i64 0,.slice none 0 0]) (hn:n < 8192) :
    ∃ g cap cur w3,(Builtin.append_ #[26,26] ty #[v,.slice (some ⟨b2,0,none⟩) 1 c2]).run Tryz.prog w=.ok (.slice (some ⟨g,0,none⟩) (n + 1) cap) w3∧B ≤ g∧(v.ownBlock=some g∨w.heap.size ≤ g)∧Blk w3 g 28 cur∧n + 1 ≤ cap∧cap ≤ maxLen∧cur.size=cap * 4∧cur.toList.take (n * 4)=xs∧Keep (fun k=>v.ownBlock ≠ some k) w w3:=by
  obtain ⟨i,z,h1,h2,h3,h4,h5⟩:=infoT'
  obtain ⟨news,hnews⟩:∃ q:List Value,q=[.int .i64 0,.string ⟨#[]⟩,.int .i64 0,.slice none 0 0]:=⟨_,rfl⟩
  have hl:news.length=1 * 4:=by rw [hnews];rfl
  have hone:∀ u ∈ news,u.oneCell'=true:=by intro u hu;rw [hnews] at hu;simp at hu;rcases hu with rfl | rfl | rfl | rfl <;> rfl
  have hat0:∀ j u,news[j]? = some u→w.cell? ((⟨b2,0,none⟩:Addr).add j)=some u:=by
    intro j u hj
    rw [Addr.add_lit,hb.cell,Nat.zero_add]
    rw [hnews] at hj
    rw [← hj]
    exact List.getElem?_toArray
  obtain ⟨v',w3,ha,hr,hg,_⟩:=run_append_own (P:=Tryz.prog) w B 26 ty 28 i z 4 56 Tryz.underlying26 h1 h2 h3 h4 h5 (by decide) v n xs hrow ⟨b2,0,none⟩ 1 c2 news hl hat0 hone (by unfold maxLen;omega) (by omega) hle
  have hat:v'.ownBlock=v.ownBlock∨v'.ownBlock=some w.heap.size:=by
    rcases hrow.2 with ⟨rfl,h0⟩ | ⟨g,cap,cur,rfl,hbg,hgg,hnc,hcm,hcs,htk⟩
    · have:=run_append_nil (P:=Tryz.prog) (w:=w) 26 ty 28 i z Tryz.underlying26 h1 h2 ⟨b2,0,none⟩ 1 c2 news (by rw [h3];exact hl) hat0 (by decide) (by decide) (by rw [h4];decide)
      rw [ha] at this
      injection this with e1 _
      subst e1
      exact .inr rfl
    · by_cases hroom:n + 1 ≤ cap
      · have:=run_append_room (P:=Tryz.prog) w 26 ty 28 i Tryz.underlying26 h1 g n cap cur hgg ⟨b2,0,none⟩ 1 c2 news (by rw [h3];exact hl) hat0 hone hroom (by rw [h3,hcs,hl];omega)
        rw [ha] at this
        injection this with e1 _
        subst e1
        exact .inl rfl
      · have holds:=hrow.cells (g:=g) rfl
        have:=run_append_grow (P:=Tryz.prog) (w:=w) 26 ty 28 i z Tryz.underlying26 h1 h2 ⟨g,0,none⟩ n cap xs (by rw [h3];exact hrow.1) holds ⟨b2,0,none⟩ 1 c2 news (by rw [h3];exact hl) hat0 (by omega) (by omega) (by rw [h4];exact growslice_fits (by omega) (by omega))
        rw [ha] at this
        injection this with e1 _
        subst e1
        exact .inr rfl
  have kg:Keep (fun g=>v.ownBlock ≠ some g) w w3:=Keep.ofGrown hg fun g e hx=>hx e
  rcases hr.2 with ⟨_,h0⟩ | ⟨g,cap,cur,rfl,hbg,hgg,hnc,hcm,hcs,htk⟩
  · omega
  · refine ⟨g,cap,cur,w3,ha,hbg,?_,hgg,hnc,hcm,hcs,?_,kg⟩
    · rcases hat with e | e
      · exact .inl e.symm
      · cases e;exact .inr (Nat.le_refl _)
    · have h6:=congrArg (List.take (n * 4)) htk
      rw [List.take_take,Nat.min_eq_left (show n * 4 ≤ (n + 1) * 4 by omega)] at h6
      rw [h6,List.take_append_of_le_length (by rw [hrow.1];exact Nat.le_refl _),List.take_of_length_le (by rw [hrow.1];exact Nat.le_refl _)]
theorem ysr_ {o:Oper} {a:Act} {w:World} {t u b k n c:Nat} {x y:Int} {s:ByteArray} {p:Option Addr} {cur:Array Value} (ho:o.op=.store 28 (.tmp t) (.tmp u)) (h:a.tmps[t]? = some (.pointer (some ⟨b,k,none⟩))) (hu:a.tmps[u]? = some (.agg #[.int .i64 x,.string s,.int .i64 y,.slice p n c])) (hb:Blk w b 28 cur) (hs:k + 4 ≤ cur.size) :
    ∃ w',(execOp a.eval o).run Tryz.prog w=.ok .skip w'∧Keep (fun g=>g ≠ b) w w'∧Blk w' b 28 ((((cur.setIfInBounds k (.int .i64 x)).setIfInBounds (k + 1) (.string s)).setIfInBounds (k + 2) (.int .i64 y)).setIfInBounds (k + 3) (.slice p n c)):=by
  have z0:w.cell? ⟨b,k,none⟩=some (cur[k]'(by omega)):=by rw [hb.cell,Array.getElem?_eq_getElem (by omega)]
  have z1:w.cell? ⟨b,k + 1,none⟩=some (cur[k + 1]'(by omega)):=by rw [hb.cell,Array.getElem?_eq_getElem (by omega)]
  have z2:w.cell? ⟨b,k + 2,none⟩=some (cur[k + 2]'(by omega)):=by rw [hb.cell,Array.getElem?_eq_getElem (by omega)]
  have z3:w.cell? ⟨b,k + 3,none⟩=some (cur[k + 3]'(by omega)):=by rw [hb.cell,Array.getElem?_eq_getElem (by omega)]
  have f0:=hb.frozen k;have f1:=hb.frozen (k + 1);have f2:=hb.frozen (k + 2);have f3:=hb.frozen (k + 3)
  refine ⟨(((w.setCell ⟨b,k,none⟩ (.int .i64 x)).setCell ⟨b,k + 1,none⟩ (.string s)).setCell ⟨b,k + 2,none⟩ (.int .i64 y)).setCell ⟨b,k + 3,none⟩ (.slice p n c),?_,((((Keep.refl _ _).setCell (fun h=>h rfl) _).setCell (fun h=>h rfl) _).setCell (fun h=>h rfl) _).setCell (fun h=>h rfl) _,(((hb.set_ k _).set_ (k + 1) _).set_ (k + 2) _).set_ (k + 3) _⟩
  unfold execOp;simp only [ho];go_simp
theorem row_set {cur:Array Value} {n cap:Nat} {xs:List Value} {c0 c1 c2 c3:Value} (hs:cur.size=cap * 4) (hn:n + 1 ≤ cap) (ht:cur.toList.take (n * 4)=xs):((((cur.setIfInBounds (n * 4) c0).setIfInBounds (n * 4 + 1) c1).setIfInBounds (n * 4 + 2) c2).setIfInBounds (n * 4 + 3) c3).size=cap * 4∧((((cur.setIfInBounds (n * 4) c0).setIfInBounds (n * 4 + 1) c1).setIfInBounds (n * 4 + 2) c2).setIfInBounds (n * 4 + 3) c3).toList.take ((n + 1) * 4)=xs ++ [c0,c1,c2,c3]:=by
  refine ⟨by simp only [Array.size_setIfInBounds];exact hs,?_⟩
  have hxl:xs.length=n * 4:=by rw [← ht,List.length_take,Array.length_toList,hs];omega
  apply List.ext_getElem?
  intro j
  by_cases hj:j < (n + 1) * 4
  · rw [List.getElem?_take_of_lt hj,Array.getElem?_toList]
    by_cases h0:j < n * 4
    · rw [List.getElem?_append_left (by omega),← ht,List.getElem?_take_of_lt h0,Array.getElem?_toList,Array.getElem?_setIfInBounds_ne (by omega),Array.getElem?_setIfInBounds_ne (by omega),Array.getElem?_setIfInBounds_ne (by omega),Array.getElem?_setIfInBounds_ne (by omega)]
    · rw [List.getElem?_append_right (by omega),hxl]
      have hc:j=n * 4∨j=n * 4 + 1∨j=n * 4 + 2∨j=n * 4 + 3:=by omega
      rcases hc with rfl | rfl | rfl | rfl
      · rw [Array.getElem?_setIfInBounds_ne (by omega),Array.getElem?_setIfInBounds_ne (by omega),Array.getElem?_setIfInBounds_ne (by omega),Array.getElem?_setIfInBounds_self,if_pos (by omega),Nat.sub_self];rfl
      · rw [Array.getElem?_setIfInBounds_ne (by omega),Array.getElem?_setIfInBounds_ne (by omega),Array.getElem?_setIfInBounds_self,if_pos (by simp only [Array.size_setIfInBounds];omega),Nat.add_sub_cancel_left];rfl
      · rw [Array.getElem?_setIfInBounds_ne (by omega),Array.getElem?_setIfInBounds_self,if_pos (by simp only [Array.size_setIfInBounds];omega),Nat.add_sub_cancel_left];rfl
      · rw [Array.getElem?_setIfInBounds_self,if_pos (by simp only [Array.size_setIfInBounds];omega),Nat.add_sub_cancel_left];rfl
  · rw [List.getElem?_eq_none (by rw [List.length_take];omega),List.getElem?_eq_none (by rw [List.length_append,hxl];simp only [List.length_cons,List.length_nil];omega)]
def oq24_0_0:Oper:=⟨some 5,Op.box 28 (Operand.tmp 2),0, "post.go:47",#[],none⟩
def oq24_0_1:Oper:=⟨some 6,Op.assign (Operand.const (Value.int IntKind.i64 0)),39, "post.go:47",#[],none⟩
def Oq24_0:Array Oper:=List.toArray (oq24_0_0::oq24_0_1::[])
theorem gq24_0_0:Oq24_0[0]? = some oq24_0_0:=rfl
theorem gq24_0_1:Oq24_0[1]? = some oq24_0_1:=rfl
def cq24_1:Code:=Code.region 0 Oq24_0 false
def oq24_1_0:Oper:=⟨some 13,Op.move (Operand.tmp 0),23, "post.go:48",#[],none⟩
def oq24_1_1:Oper:=⟨some 14,Op.nilCheck (Operand.tmp 13),0, "post.go:48",#[ed_ 0],none⟩
def oq24_1_2:Oper:=⟨some 15,Op.fieldAddr 48 (Operand.tmp 14) 1,0, "post.go:48",#[ed_ 1],none⟩
def oq24_1_3:Oper:=⟨some 16,Op.load 46 (Operand.tmp 15),46, "post.go:48",#[ed_ 2],none⟩
def oq24_1_4:Oper:=⟨some 17,Op.move (Operand.tmp 1),3, "post.go:48",#[],none⟩
def oq24_1_5:Oper:=⟨some 18,Op.lookup 46 (Operand.tmp 16) (Operand.tmp 17) true,70, "post.go:48",#[ed_ 3,ed_ 4],none⟩
def oq24_1_6:Oper:=⟨some 12,Op.move (Operand.tmp 18),70, "post.go:48",#[ed_ 5],none⟩
def oq24_1_7:Oper:=⟨some 19,Op.extract (Operand.tmp 12) 0,69, "post.go:48",#[ed_ 6],none⟩
def oq24_1_8:Oper:=⟨some 20,Op.extract (Operand.tmp 12) 1,4, "post.go:48",#[ed_ 6,{ on:=9,ground:=Go.Ground.gcOnly Go.Departure.lateStores }],none⟩
def oq24_1_9:Oper:=⟨some 7,Op.assign (Operand.tmp 19),69, "post.go:48",#[ed_ 7,ep_ 0,ep_ 1,ep_ 2,ep_ 3,ep_ 4,ep_ 5,ep_ 6,ep_ 7,{ on:=8,ground:=Go.Ground.textOnly Go.Departure.lateStores }],none⟩
def oq24_1_10:Oper:=⟨some 8,Op.assign (Operand.tmp 20),4, "post.go:48",#[ed_ 8,ec_ 9,ep_ 0,ep_ 1,ep_ 2,ep_ 3,ep_ 4,ep_ 5,ep_ 6,ep_ 7,ep_ 8,ep_ 9],none⟩
def Oq24_1:Array Oper:=List.toArray (oq24_1_0::oq24_1_1::oq24_1_2::oq24_1_3::oq24_1_4::oq24_1_5::oq24_1_6::oq24_1_7::oq24_1_8::oq24_1_9::oq24_1_10::[])
theorem gq24_1_0:Oq24_1[0]? = some oq24_1_0:=rfl
theorem gq24_1_1:Oq24_1[1]? = some oq24_1_1:=rfl
theorem gq24_1_2:Oq24_1[2]? = some oq24_1_2:=rfl
theorem gq24_1_3:Oq24_1[3]? = some oq24_1_3:=rfl
theorem gq24_1_4:Oq24_1[4]? = some oq24_1_4:=rfl
theorem gq24_1_5:Oq24_1[5]? = some oq24_1_5:=rfl
theorem gq24_1_6:Oq24_1[6]? = some oq24_1_6:=rfl
theorem gq24_1_7:Oq24_1[7]? = some oq24_1_7:=rfl
theorem gq24_1_8:Oq24_1[8]? = some oq24_1_8:=rfl
theorem gq24_1_9:Oq24_1[9]? = some oq24_1_9:=rfl
theorem gq24_1_10:Oq24_1[10]? = some oq24_1_10:=rfl
def cq24_3:Code:=Code.region 1 Oq24_1 false
def oq24_2_0:Oper:=⟨some 21,Op.move (Operand.tmp 8),4, "post.go:49",#[],none⟩
def oq24_2_1:Oper:=⟨some 22,Op.unOp Go.UnOp.not 4 (Operand.tmp 21),4, "post.go:49",#[ed_ 0],none⟩
def Oq24_2:Array Oper:=List.toArray (oq24_2_0::oq24_2_1::[])
theorem gq24_2_0:Oq24_2[0]? = some oq24_2_0:=rfl
theorem gq24_2_1:Oq24_2[1]? = some oq24_2_1:=rfl
def cq24_6:Code:=Code.region 2 Oq24_2 false
def oq24_3_0:Oper:=⟨some 6,Op.assign (Operand.const (Value.int IntKind.i64 140)),39, "post.go:50",#[],none⟩
def Oq24_3:Array Oper:=List.toArray (oq24_3_0::[])
theorem gq24_3_0:Oq24_3[0]? = some oq24_3_0:=rfl
def cq24_9:Code:=Code.region 3 Oq24_3 false
def cq24_8:Code:=Code.seq cq24_9 Code.ret
def cq24_7:Code:=Code.cond (Operand.tmp 22) cq24_8 Code.skip
def cq24_5:Code:=Code.seq cq24_6 cq24_7
def oq24_4_0:Oper:=⟨some 24,Op.load 28 (Operand.tmp 5),28, "post.go:52",#[],none⟩
def oq24_4_1:Oper:=⟨some 25,Op.call { callee:=Callee.value (Operand.func 30),args:=#[Operand.tmp 24,Operand.const (Value.int IntKind.i64 1)],argTypes:=#[28,2] },73, "post.go:52",#[ed_ 0],none⟩
def oq24_4_2:Oper:=⟨some 23,Op.move (Operand.tmp 25),73, "post.go:52",#[ed_ 1],none⟩
def oq24_4_3:Oper:=⟨some 26,Op.extract (Operand.tmp 23) 0,28, "post.go:52",#[ed_ 2],none⟩
def oq24_4_4:Oper:=⟨some 27,Op.extract (Operand.tmp 23) 1,2, "post.go:52",#[ed_ 2,{ on:=7,ground:=Go.Ground.gcOnly Go.Departure.lateStores }],none⟩
def oq24_4_5:Oper:=⟨some 28,Op.extract (Operand.tmp 23) 2,39, "post.go:52",#[ed_ 2,{ on:=8,ground:=Go.Ground.gcOnly Go.Departure.lateStores }],none⟩
def oq24_4_6:Oper:=⟨some 9,Op.alloc 28,0, "post.go:52",#[],none⟩
def oq24_4_7:Oper:=⟨none,Op.store 28 (Operand.tmp 9) (Operand.tmp 26),0, "post.go:52",#[ed_ 6,ed_ 3,ec_ 1,ep_ 0,ep_ 1,ep_ 2,ep_ 3,{ on:=4,ground:=Go.Ground.textOnly Go.Departure.lateStores },{ on:=5,ground:=Go.Ground.textOnly Go.Departure.lateStores },ep_ 6],none⟩
def oq24_4_8:Oper:=⟨some 10,Op.assign (Operand.tmp 27),2, "post.go:52",#[ed_ 4,ec_ 7,ep_ 0,ep_ 1,ep_ 2,ep_ 3,ep_ 4,{ on:=5,ground:=Go.Ground.textOnly Go.Departure.lateStores },ep_ 6,ep_ 7],none⟩
def oq24_4_9:Oper:=⟨some 11,Op.assign (Operand.tmp 28),39, "post.go:52",#[ed_ 5,ec_ 8,ep_ 0,ep_ 1,ep_ 2,ep_ 3,ep_ 4,ep_ 5,ep_ 6,ep_ 7,ep_ 8],none⟩
def Oq24_4:Array Oper:=List.toArray (oq24_4_0::oq24_4_1::oq24_4_2::oq24_4_3::oq24_4_4::oq24_4_5::oq24_4_6::oq24_4_7::oq24_4_8::oq24_4_9::[])
theorem gq24_4_0:Oq24_4[0]? = some oq24_4_0:=rfl
theorem gq24_4_1:Oq24_4[1]? = some oq24_4_1:=rfl
theorem gq24_4_2:Oq24_4[2]? = some oq24_4_2:=rfl
theorem gq24_4_3:Oq24_4[3]? = some oq24_4_3:=rfl
theorem gq24_4_4:Oq24_4[4]? = some oq24_4_4:=rfl
theorem gq24_4_5:Oq24_4[5]? = some oq24_4_5:=rfl
theorem gq24_4_6:Oq24_4[6]? = some oq24_4_6:=rfl
theorem gq24_4_7:Oq24_4[7]? = some oq24_4_7:=rfl
theorem gq24_4_8:Oq24_4[8]? = some oq24_4_8:=rfl
theorem gq24_4_9:Oq24_4[9]? = some oq24_4_9:=rfl
def cq24_13:Code:=Code.region 4 Oq24_4 false
def oq24_5_0:Oper:=⟨some 30,Op.move (Operand.tmp 11),39, "post.go:54",#[],none⟩
def oq24_5_1:Oper:=⟨some 31,Op.binOp Go.BinOp.neq 39 (Operand.tmp 30) (Operand.const (Value.int IntKind.i64 0)) 39,4, "post.go:54",#[ed_ 0],none⟩
def oq24_5_2:Oper:=⟨some 29,Op.assign (Operand.tmp 31),4, "post.go:54",#[ed_ 1],none⟩
def Oq24_5:Array Oper:=List.toArray (oq24_5_0::oq24_5_1::oq24_5_2::[])
theorem gq24_5_0:Oq24_5[0]? = some oq24_5_0:=rfl
theorem gq24_5_1:Oq24_5[1]? = some oq24_5_1:=rfl
theorem gq24_5_2:Oq24_5[2]? = some oq24_5_2:=rfl
def cq24_17:Code:=Code.region 5 Oq24_5 false
def oq24_6_0:Oper:=⟨some 32,Op.move (Operand.tmp 11),39, "post.go:55",#[],none⟩
def oq24_6_1:Oper:=⟨some 6,Op.assign (Operand.tmp 32),39, "post.go:55",#[ed_ 0,ep_ 0],none⟩
def Oq24_6:Array Oper:=List.toArray (oq24_6_0::oq24_6_1::[])
theorem gq24_6_0:Oq24_6[0]? = some oq24_6_0:=rfl
theorem gq24_6_1:Oq24_6[1]? = some oq24_6_1:=rfl
def cq24_20:Code:=Code.region 6 Oq24_6 false
def cq24_19:Code:=Code.seq cq24_20 Code.ret
def oq24_7_0:Oper:=⟨some 34,Op.move (Operand.tmp 7),69, "post.go:56",#[],none⟩
def oq24_7_1:Oper:=⟨some 35,Op.nilCheck (Operand.tmp 34),0, "post.go:56",#[ed_ 0],none⟩
def oq24_7_2:Oper:=⟨some 36,Op.fieldAddr 72 (Operand.tmp 35) 1,0, "post.go:56",#[ed_ 1],none⟩
def oq24_7_3:Oper:=⟨some 37,Op.load 26 (Operand.tmp 36),26, "post.go:56",#[ed_ 2],none⟩
def oq24_7_4:Oper:=⟨some 38,Op.call { callee:=Callee.builtin Go.Builtin.len,args:=#[Operand.tmp 37],argTypes:=#[26] },3, "post.go:56",#[ed_ 3],none⟩
def oq24_7_5:Oper:=⟨some 39,Op.move (Operand.tmp 7),69, "post.go:56",#[],none⟩
def oq24_7_6:Oper:=⟨some 40,Op.nilCheck (Operand.tmp 39),0, "post.go:56",#[ed_ 5],none⟩
def oq24_7_7:Oper:=⟨some 41,Op.fieldAddr 72 (Operand.tmp 40) 0,0, "post.go:56",#[ed_ 6],none⟩
def oq24_7_8:Oper:=⟨some 42,Op.load 3 (Operand.tmp 41),3, "post.go:56",#[ed_ 7],none⟩
def oq24_7_9:Oper:=⟨some 43,Op.binOp Go.BinOp.geq 3 (Operand.tmp 38) (Operand.tmp 42) 3,4, "post.go:56",#[ed_ 4,ed_ 8],none⟩
def oq24_7_10:Oper:=⟨some 33,Op.assign (Operand.tmp 43),4, "post.go:56",#[ed_ 9],none⟩
def Oq24_7:Array Oper:=List.toArray (oq24_7_0::oq24_7_1::oq24_7_2::oq24_7_3::oq24_7_4::oq24_7_5::oq24_7_6::oq24_7_7::oq24_7_8::oq24_7_9::oq24_7_10::[])
theorem gq24_7_0:Oq24_7[0]? = some oq24_7_0:=rfl
theorem gq24_7_1:Oq24_7[1]? = some oq24_7_1:=rfl
theorem gq24_7_2:Oq24_7[2]? = some oq24_7_2:=rfl
theorem gq24_7_3:Oq24_7[3]? = some oq24_7_3:=rfl
theorem gq24_7_4:Oq24_7[4]? = some oq24_7_4:=rfl
theorem gq24_7_5:Oq24_7[5]? = some oq24_7_5:=rfl
theorem gq24_7_6:Oq24_7[6]? = some oq24_7_6:=rfl
theorem gq24_7_7:Oq24_7[7]? = some oq24_7_7:=rfl
theorem gq24_7_8:Oq24_7[8]? = some oq24_7_8:=rfl
theorem gq24_7_9:Oq24_7[9]? = some oq24_7_9:=rfl
theorem gq24_7_10:Oq24_7[10]? = some oq24_7_10:=rfl
theorem nsq24_7:Region.noSelect Oq24_7=true:=by kernel_rfl
def cq24_23:Code:=Code.region 7 Oq24_7 true
def oq24_8_0:Oper:=⟨some 6,Op.assign (Operand.const (Value.int IntKind.i64 141)),39, "post.go:57",#[],none⟩
def Oq24_8:Array Oper:=List.toArray (oq24_8_0::[])
theorem gq24_8_0:Oq24_8[0]? = some oq24_8_0:=rfl
def cq24_26:Code:=Code.region 8 Oq24_8 false
def cq24_25:Code:=Code.seq cq24_26 Code.ret
def cq24_24:Code:=Code.cond (Operand.tmp 33) cq24_25 Code.skip
def cq24_22:Code:=Code.seq cq24_23 cq24_24
def cq24_18:Code:=Code.cond (Operand.tmp 29) cq24_19 cq24_22
def cq24_16:Code:=Code.seq cq24_17 cq24_18
def cq24_15:Code:=Code.block 0 cq24_16
def oq24_9_0:Oper:=⟨some 44,Op.move (Operand.tmp 7),69, "post.go:59",#[],none⟩
def oq24_9_1:Oper:=⟨some 45,Op.nilCheck (Operand.tmp 44),0, "post.go:59",#[ed_ 0],none⟩
def oq24_9_2:Oper:=⟨some 46,Op.fieldAddr 72 (Operand.tmp 45) 1,0, "post.go:59",#[ed_ 1],none⟩
def oq24_9_3:Oper:=⟨some 47,Op.load 26 (Operand.tmp 46),26, "post.go:59",#[ed_ 2],none⟩
def oq24_9_4:Oper:=⟨some 48,Op.load 28 (Operand.tmp 9),28, "post.go:59",#[],none⟩
def oq24_9_5:Oper:=⟨some 49,Op.call { callee:=Callee.builtin Go.Builtin.len,args:=#[Operand.tmp 47],argTypes:=#[26] },3, "post.go:59",#[ed_ 3],none⟩
def oq24_9_6:Oper:=⟨some 50,Op.buildSlice 26 1 #[(0,Operand.const (Value.agg #[Value.int IntKind.i64 0,Value.string { data:=#[] },Value.int IntKind.i64 0,Value.slice none 0 0]))],26, "post.go:59",#[],none⟩
def oq24_9_7:Oper:=⟨some 51,Op.call { callee:=Callee.builtin Go.Builtin.append,args:=#[Operand.tmp 47,Operand.tmp 50],argTypes:=#[26,26] },26, "post.go:59",#[ed_ 3,ed_ 6,ep_ 0,ep_ 1,ep_ 2,ep_ 3,ep_ 4,ep_ 5,ep_ 6],none⟩
def oq24_9_8:Oper:=⟨some 52,Op.indexAddr 26 (Operand.tmp 51) (Operand.tmp 49),0, "post.go:59",#[ed_ 7,ed_ 5,ep_ 0,ep_ 1,ep_ 2,ep_ 3,ep_ 4,ep_ 5,ep_ 6,ep_ 7,{ on:=12,ground:=Go.Ground.gcOnly Go.Departure.appendInPlace }],none⟩
def oq24_9_9:Oper:=⟨none,Op.store 28 (Operand.tmp 52) (Operand.tmp 48),0, "post.go:59",#[ed_ 8,ed_ 4,ec_ 7,ep_ 0,ep_ 1,ep_ 2,ep_ 3,ep_ 4,ep_ 5,ep_ 6,ep_ 7,{ on:=12,ground:=Go.Ground.gcOnly Go.Departure.appendInPlace }],none⟩
def oq24_9_10:Oper:=⟨some 53,Op.nilCheck (Operand.tmp 44),0, "post.go:59",#[ed_ 0,ep_ 0,ep_ 1,ep_ 2,ep_ 3,ep_ 4,ep_ 5,ep_ 6,ep_ 7,{ on:=8,ground:=Go.Ground.textOnly Go.Departure.appendInPlace },{ on:=9,ground:=Go.Ground.textOnly Go.Departure.appendInPlace }],none⟩
def oq24_9_11:Oper:=⟨some 54,Op.fieldAddr 72 (Operand.tmp 53) 1,0, "post.go:59",#[ed_ 10,ep_ 0,ep_ 1,ep_ 2,ep_ 3,ep_ 4,ep_ 5,ep_ 6,ep_ 7,{ on:=8,ground:=Go.Ground.textOnly Go.Departure.appendInPlace },{ on:=9,ground:=Go.Ground.textOnly Go.Departure.appendInPlace }],none⟩
def oq24_9_12:Oper:=⟨none,Op.store 26 (Operand.tmp 54) (Operand.tmp 51),0, "post.go:59",#[ed_ 11,ed_ 7,ec_ 7,{ on:=9,ground:=Go.Ground.textOnly Go.Departure.appendInPlace },ep_ 0,ep_ 1,ep_ 2,ep_ 3,ep_ 4,ep_ 5,ep_ 6,ep_ 7,{ on:=8,ground:=Go.Ground.textOnly Go.Departure.appendInPlace },{ on:=9,ground:=Go.Ground.textOnly Go.Departure.appendInPlace }],none⟩
def Oq24_9:Array Oper:=List.toArray (oq24_9_0::oq24_9_1::oq24_9_2::oq24_9_3::oq24_9_4::oq24_9_5::oq24_9_6::oq24_9_7::oq24_9_8::oq24_9_9::oq24_9_10::oq24_9_11::oq24_9_12::[])
theorem gq24_9_0:Oq24_9[0]? = some oq24_9_0:=rfl
theorem gq24_9_1:Oq24_9[1]? = some oq24_9_1:=rfl
theorem gq24_9_2:Oq24_9[2]? = some oq24_9_2:=rfl
theorem gq24_9_3:Oq24_9[3]? = some oq24_9_3:=rfl
theorem gq24_9_4:Oq24_9[4]? = some oq24_9_4:=rfl
theorem gq24_9_5:Oq24_9[5]? = some oq24_9_5:=rfl
theorem gq24_9_6:Oq24_9[6]? = some oq24_9_6:=rfl
theorem gq24_9_7:Oq24_9[7]? = some oq24_9_7:=rfl
theorem gq24_9_8:Oq24_9[8]? = some oq24_9_8:=rfl
theorem gq24_9_9:Oq24_9[9]? = some oq24_9_9:=rfl
theorem gq24_9_10:Oq24_9[10]? = some oq24_9_10:=rfl
theorem gq24_9_11:Oq24_9[11]? = some oq24_9_11:=rfl
theorem gq24_9_12:Oq24_9[12]? = some oq24_9_12:=rfl
theorem nsq24_9:Region.noSelect Oq24_9=true:=by kernel_rfl
def cq24_30:Code:=Code.region 9 Oq24_9 true
def oq24_10_0:Oper:=⟨some 6,Op.assign (Operand.const (Value.int IntKind.i64 0)),39, "post.go:60",#[],none⟩
def Oq24_10:Array Oper:=List.toArray (oq24_10_0::[])
theorem gq24_10_0:Oq24_10[0]? = some oq24_10_0:=rfl
def cq24_32:Code:=Code.region 10 Oq24_10 false
def cq24_31:Code:=Code.seq cq24_32 Code.ret
def cq24_29:Code:=Code.seq cq24_30 cq24_31
def cq24_14:Code:=Code.seq cq24_15 cq24_29
def cq24_12:Code:=Code.seq cq24_13 cq24_14
def cq24_4:Code:=Code.seq cq24_5 cq24_12
def cq24_2:Code:=Code.seq cq24_3 cq24_4
def cq24_0:Code:=Code.seq cq24_1 cq24_2
theorem bodyq24:Tryz.f11.body=some cq24_0:=by kernel_rfl
set_option maxRecDepth 100000 in
set_option maxHeartbeats 4000000 in
theorem send_a {W:World} {B b0 mb n:Nat} {RR:Nat→Prop} {made k:Int} {f:Int→Option Qu} {t:Tm} {a:Option Addr} {c:Nat}  {f0:Act} {w0:World} (R:FrS 55 f0) (h0:f0.tmps[0]? = some (.pointer (some ⟨b0,0,none⟩))) (h1:f0.tmps[1]? = some (.int .i64 k)) (h2:f0.tmps[2]? = some (.agg #[.int .i64 t.k,.string (str t.nm),.int .i64 t.i,.slice a t.args.length c])) (K1:Keep (fun g=>g < W.heap.size) W w0)  (B0:Blk w0 b0 48 #[.int .i64 made,.map (some mb)]) (HP:Hid (PoAt B RR W b0 mb made f n)) (HK:Hid ((ik k).wf=true)) (HT:Hid (TmAt W.heap.size W t a c)) (HF:Hid (f k=none)):cq24_0.wp Tryz.prog (bodyPost Tryz.prog Tryz.f11 (fun e w'=>e=.returned (.int .i64 140)∧Keep (fun g=>g < W.heap.size) W w')) f0 w0:=by
 refine wp_seq (x:=cq24_1) (y:=cq24_2) ?_
 change (Code.region 0 Oq24_0 false).wp _ _ _ _
 refine reg_in (l:=[0,1]) rfl ?_
 have F:FE_ _ [] f0 f0:=⟨R,Ag_.refl _⟩;clear R
 have Y:(execOp f0.eval oq24_0_0).run Tryz.prog w0=.ok (.value (.pointer (some ⟨w0.heap.size,0,none⟩))) (w0.alloc (.cells #[.int .i64 t.k,.string (str t.nm),.int .i64 t.i,.slice a t.args.length c] 28)):=by have r2:=F.of h2;unfold oq24_0_0;go_simp
 have B101:=Blk.new w0 28 #[.int .i64 t.k,.string (str t.nm),.int .i64 t.i,.slice a t.args.length c]
 obtain ⟨w102,hw⟩:∃ x,x=w0.alloc (.cells #[.int .i64 t.k,.string (str t.nm),.int .i64 t.i,.slice a t.args.length c] 28):=⟨_,rfl⟩;rw [← hw] at Y B101
 obtain ⟨b101,hb⟩:∃ x,x=w0.heap.size:=⟨_,rfl⟩;rw [← hb] at Y B101
 have Nb0_b101:=nb_ hb B0;replace B0:=ba_ hw B0;have LK1_b101:=lk_ hb K1;replace K1:=ka_ hw K1;clear hw hb
 refine sv_ gq24_0_0 Y fun a103 e=>?_;clear Y
 have h5:=pt_ F e;replace F:=pu_ F e;clear e
 have Y:(execOp a103.eval oq24_0_1).run Tryz.prog w102=.ok (.value (.int .i64 0)) w102:=by unfold oq24_0_1;go_simp
 refine sv_ gq24_0_1 Y fun a104 e=>?_;clear Y
 have h6:=pt_ F e;replace F:=pu_ F e;replace h5:=so_ e h5;clear e
 refine st_end ?_
 replace h0:=F.of h0;replace h1:=F.of h1;clear h2;have R:=F.r;clear F
 change (cq24_2).wp _ _ _ _
 refine wp_seq (x:=cq24_3) (y:=cq24_4) ?_
 change (Code.region 1 Oq24_1 false).wp _ _ _ _
 refine reg_in (l:=[0,1,2,3,4,5,6,7,8,9,10]) rfl ?_
 have F:FE_ _ [] a104 a104:=⟨R,Ag_.refl _⟩;clear R
 refine sv_ gq24_1_0 (ym_ rfl (F.of h0)) fun a105 e=>?_
 have h13:=pt_ F e;replace F:=pu_ F e;clear e
 have Y:(execOp a105.eval oq24_1_1).run Tryz.prog w102=.ok (.value (.pointer (some ⟨b0,0,none⟩))) w102:=by unfold oq24_1_1;go_simp
 refine sv_ gq24_1_1 Y fun a106 e=>?_;clear Y
 clear h13;have h14:=pt_ F e;replace F:=pu_ F e;clear e
 have Y:(execOp a106.eval oq24_1_2).run Tryz.prog w102=.ok (.value (.pointer (some ⟨b0,1,none⟩))) w102:=by unfold oq24_1_2;go_simp
 refine sv_ gq24_1_2 Y fun a107 e=>?_;clear Y
 clear h14;have h15:=pt_ F e;replace F:=pu_ F e;clear e
 have Y:(execOp a107.eval oq24_1_3).run Tryz.prog w102=.ok (.value (.map (some mb))) w102:=by have qq0:w102.cell? ⟨b0,0,none⟩=some (.int .i64 made):=B0.cell 0;have qq1:w102.cell? ⟨b0,1,none⟩=some (.map (some mb)):=B0.cell 1;unfold oq24_1_3;go_simp
 refine sv_ gq24_1_3 Y fun a108 e=>?_;clear Y
 clear h15;have h16:=pt_ F e;replace F:=pu_ F e;clear e
 refine sv_ gq24_1_4 (ym_ rfl (F.of h1)) fun a109 e=>?_
 have h17:=pt_ F e;replace F:=pu_ F e;replace h16:=so_ e h16;clear e
 have Y:(execOp a109.eval oq24_1_5).run Tryz.prog w102=.ok (.value (.tuple #[.pointer none,.bool false])) w102:=by have hl:=PoAt.look0 (HP.out.on K1) HF.out HK.out;unfold oq24_1_5;go_simp
 refine sv_ gq24_1_5 Y fun a110 e=>?_;clear Y
 clear h16 h17;have h18:=pt_ F e;replace F:=pu_ F e;clear e
 refine sv_ gq24_1_6 (ym_ rfl h18) fun a111 e=>?_
 clear h18;have h12:=pt_ F e;replace F:=pu_ F e;clear e
 refine sv_ gq24_1_7 (ye20_ rfl h12) fun a112 e=>?_
 have h19:=pt_ F e;replace F:=pu_ F e;replace h12:=so_ e h12;clear e
 refine sv_ gq24_1_8 (ye21_ rfl h12) fun a113 e=>?_
 clear h12;have h20:=pt_ F e;replace F:=pu_ F e;replace h19:=so_ e h19;clear e
 refine sv_ gq24_1_9 (ya_ rfl h19) fun a114 e=>?_
 clear h19;have h7:=pt_ F e;replace F:=pu_ F e;replace h20:=so_ e h20;clear e
 refine sv_ gq24_1_10 (ya_ rfl h20) fun a115 e=>?_
 clear h20;have h8:=pt_ F e;replace F:=pu_ F e;replace h7:=so_ e h7;clear e
 refine st_end ?_
 clear h0;clear h1;replace h5:=F.of h5;replace h6:=F.of h6;have R:=F.r;clear F
 change (cq24_4).wp _ _ _ _
 refine wp_seq (x:=cq24_5) (y:=cq24_12) ?_
 refine wp_seq (x:=cq24_6) (y:=cq24_7) ?_
 change (Code.region 2 Oq24_2 false).wp _ _ _ _
 refine reg_in (l:=[0,1]) rfl ?_
 have F:FE_ _ [] a115 a115:=⟨R,Ag_.refl _⟩;clear R
 refine sv_ gq24_2_0 (ym_ rfl (F.of h8)) fun a116 e=>?_
 have h21:=pt_ F e;replace F:=pu_ F e;clear e
 have Y:(execOp a116.eval oq24_2_1).run Tryz.prog w102=.ok (.value (.bool true)) w102:=by unfold oq24_2_1;go_simp
 refine sv_ gq24_2_1 Y fun a117 e=>?_;clear Y
 clear h21;have h22:=pt_ F e;replace F:=pu_ F e;clear e
 refine st_end ?_
 replace h5:=F.of h5;replace h6:=F.of h6;replace h7:=F.of h7;clear h8;have R:=F.r;clear F
 change (cq24_7).wp _ _ _ _
 refine wp_cond_true (x:=cq24_8) (y:=Code.skip) (eval_slot h22) ?_
 refine wp_seq (x:=cq24_9) (y:=Code.ret) ?_
 change (Code.region 3 Oq24_3 false).wp _ _ _ _
 refine reg_in (l:=[0]) rfl ?_
 have F:FE_ _ [] a117 a117:=⟨R,Ag_.refl _⟩;clear R
 have Y:(execOp a117.eval oq24_3_0).run Tryz.prog w102=.ok (.value (.int .i64 140)) w102:=by unfold oq24_3_0;go_simp
 refine sv_ gq24_3_0 Y fun a118 e=>?_;clear Y
 clear h6;have h6:=pt_ F e;replace F:=pu_ F e;clear e
 refine st_end ?_
 replace h5:=F.of h5;replace h7:=F.of h7;clear h22;have R:=F.r;clear F
 change (Code.ret).wp _ _ _ _
 refine wp_ret ?_
 change bodyPost Tryz.prog Tryz.f11 (fun e w'=>e=.returned (.int .i64 140)∧Keep (fun g=>g < W.heap.size) W w') .ret a118 w102
 refine ret_one rfl R h6 ?_
 exact ⟨rfl,K1⟩
set_option maxRecDepth 100000 in
set_option maxHeartbeats 4000000 in
theorem send_b {W:World} {B b0 mb n:Nat} {RR:Nat→Prop} {made k:Int} {f:Int→Option Qu} {b1 vc:Nat} {m:Int} {va:Option Addr} {ps:List TP} {t:Tm} {a:Option Addr} {c:Nat}  {f0:Act} {w0:World} (R:FrS 55 f0) (h0:f0.tmps[0]? = some (.pointer (some ⟨b0,0,none⟩))) (h1:f0.tmps[1]? = some (.int .i64 k)) (h2:f0.tmps[2]? = some (.agg #[.int .i64 t.k,.string (str t.nm),.int .i64 t.i,.slice a t.args.length c])) (K1:Keep (fun g=>g < W.heap.size) W w0)  (B0:Blk w0 b0 48 #[.int .i64 made,.map (some mb)]) (HP:Hid (PoAt B RR W b0 mb made f n)) (HK:Hid ((ik k).wf=true)) (B1:Blk w0 b1 72 #[.int .i64 m,.slice va ps.length vc]) (HF:Hid (f k=some ⟨b1,m,.slice va ps.length vc,ps⟩)) (HT:Hid (TmAt W.heap.size W t a c)) (HR:Hid (t.right=false)):cq24_0.wp Tryz.prog (bodyPost Tryz.prog Tryz.f11 (fun e w'=>e=.returned (.int .i64 70)∧Keep (fun g=>g < W.heap.size) W w')) f0 w0:=by
 refine wp_seq (x:=cq24_1) (y:=cq24_2) ?_
 change (Code.region 0 Oq24_0 false).wp _ _ _ _
 refine reg_in (l:=[0,1]) rfl ?_
 have F:FE_ _ [] f0 f0:=⟨R,Ag_.refl _⟩;clear R
 have Y:(execOp f0.eval oq24_0_0).run Tryz.prog w0=.ok (.value (.pointer (some ⟨w0.heap.size,0,none⟩))) (w0.alloc (.cells #[.int .i64 t.k,.string (str t.nm),.int .i64 t.i,.slice a t.args.length c] 28)):=by have r2:=F.of h2;unfold oq24_0_0;go_simp
 have B101:=Blk.new w0 28 #[.int .i64 t.k,.string (str t.nm),.int .i64 t.i,.slice a t.args.length c]
 obtain ⟨w102,hw⟩:∃ x,x=w0.alloc (.cells #[.int .i64 t.k,.string (str t.nm),.int .i64 t.i,.slice a t.args.length c] 28):=⟨_,rfl⟩;rw [← hw] at Y B101
 obtain ⟨b101,hb⟩:∃ x,x=w0.heap.size:=⟨_,rfl⟩;rw [← hb] at Y B101
 have Nb0_b101:=nb_ hb B0;replace B0:=ba_ hw B0;have Nb1_b101:=nb_ hb B1;replace B1:=ba_ hw B1;have LK1_b101:=lk_ hb K1;replace K1:=ka_ hw K1;clear hw hb
 refine sv_ gq24_0_0 Y fun a103 e=>?_;clear Y
 have h5:=pt_ F e;replace F:=pu_ F e;clear e
 have Y:(execOp a103.eval oq24_0_1).run Tryz.prog w102=.ok (.value (.int .i64 0)) w102:=by unfold oq24_0_1;go_simp
 refine sv_ gq24_0_1 Y fun a104 e=>?_;clear Y
 have h6:=pt_ F e;replace F:=pu_ F e;replace h5:=so_ e h5;clear e
 refine st_end ?_
 replace h0:=F.of h0;replace h1:=F.of h1;clear h2;have R:=F.r;clear F
 change (cq24_2).wp _ _ _ _
 refine wp_seq (x:=cq24_3) (y:=cq24_4) ?_
 change (Code.region 1 Oq24_1 false).wp _ _ _ _
 refine reg_in (l:=[0,1,2,3,4,5,6,7,8,9,10]) rfl ?_
 have F:FE_ _ [] a104 a104:=⟨R,Ag_.refl _⟩;clear R
 refine sv_ gq24_1_0 (ym_ rfl (F.of h0)) fun a105 e=>?_
 have h13:=pt_ F e;replace F:=pu_ F e;clear e
 have Y:(execOp a105.eval oq24_1_1).run Tryz.prog w102=.ok (.value (.pointer (some ⟨b0,0,none⟩))) w102:=by unfold oq24_1_1;go_simp
 refine sv_ gq24_1_1 Y fun a106 e=>?_;clear Y
 clear h13;have h14:=pt_ F e;replace F:=pu_ F e;clear e
 have Y:(execOp a106.eval oq24_1_2).run Tryz.prog w102=.ok (.value (.pointer (some ⟨b0,1,none⟩))) w102:=by unfold oq24_1_2;go_simp
 refine sv_ gq24_1_2 Y fun a107 e=>?_;clear Y
 clear h14;have h15:=pt_ F e;replace F:=pu_ F e;clear e
 have Y:(execOp a107.eval oq24_1_3).run Tryz.prog w102=.ok (.value (.map (some mb))) w102:=by have qq0:w102.cell? ⟨b0,0,none⟩=some (.int .i64 made):=B0.cell 0;have qq1:w102.cell? ⟨b0,1,none⟩=some (.map (some mb)):=B0.cell 1;unfold oq24_1_3;go_simp
 refine sv_ gq24_1_3 Y fun a108 e=>?_;clear Y
 clear h15;have h16:=pt_ F e;replace F:=pu_ F e;clear e
 refine sv_ gq24_1_4 (ym_ rfl (F.of h1)) fun a109 e=>?_
 have h17:=pt_ F e;replace F:=pu_ F e;replace h16:=so_ e h16;clear e
 have Y:(execOp a109.eval oq24_1_5).run Tryz.prog w102=.ok (.value (.tuple #[.pointer (some ⟨b1,0,none⟩),.bool true])) w102:=by have hl:=PoAt.look1 (HP.out.on K1) HF.out HK.out;unfold oq24_1_5;go_simp
 refine sv_ gq24_1_5 Y fun a110 e=>?_;clear Y
 clear h16 h17;have h18:=pt_ F e;replace F:=pu_ F e;clear e
 refine sv_ gq24_1_6 (ym_ rfl h18) fun a111 e=>?_
 clear h18;have h12:=pt_ F e;replace F:=pu_ F e;clear e
 refine sv_ gq24_1_7 (ye20_ rfl h12) fun a112 e=>?_
 have h19:=pt_ F e;replace F:=pu_ F e;replace h12:=so_ e h12;clear e
 refine sv_ gq24_1_8 (ye21_ rfl h12) fun a113 e=>?_
 clear h12;have h20:=pt_ F e;replace F:=pu_ F e;replace h19:=so_ e h19;clear e
 refine sv_ gq24_1_9 (ya_ rfl h19) fun a114 e=>?_
 clear h19;have h7:=pt_ F e;replace F:=pu_ F e;replace h20:=so_ e h20;clear e
 refine sv_ gq24_1_10 (ya_ rfl h20) fun a115 e=>?_
 clear h20;have h8:=pt_ F e;replace F:=pu_ F e;replace h7:=so_ e h7;clear e
 refine st_end ?_
 clear h0;clear h1;replace h5:=F.of h5;replace h6:=F.of h6;have R:=F.r;clear F
 change (cq24_4).wp _ _ _ _
 refine wp_seq (x:=cq24_5) (y:=cq24_12) ?_
 refine wp_seq (x:=cq24_6) (y:=cq24_7) ?_
 change (Code.region 2 Oq24_2 false).wp _ _ _ _
 refine reg_in (l:=[0,1]) rfl ?_
 have F:FE_ _ [] a115 a115:=⟨R,Ag_.refl _⟩;clear R
 refine sv_ gq24_2_0 (ym_ rfl (F.of h8)) fun a116 e=>?_
 have h21:=pt_ F e;replace F:=pu_ F e;clear e
 have Y:(execOp a116.eval oq24_2_1).run Tryz.prog w102=.ok (.value (.bool false)) w102:=by unfold oq24_2_1;go_simp
 refine sv_ gq24_2_1 Y fun a117 e=>?_;clear Y
 clear h21;have h22:=pt_ F e;replace F:=pu_ F e;clear e
 refine st_end ?_
 replace h5:=F.of h5;replace h6:=F.of h6;replace h7:=F.of h7;clear h8;have R:=F.r;clear F
 change (cq24_7).wp _ _ _ _
 refine wp_cond_false (x:=cq24_8) (y:=Code.skip) (eval_slot h22) ?_
 refine wp_skip ?_
 change (cq24_12).wp _ _ _ _
 refine wp_seq (x:=cq24_13) (y:=cq24_14) ?_
 change (Code.region 4 Oq24_4 false).wp _ _ _ _
 refine reg_in (l:=[0,1,2,3,4,5,6,7,8,9]) rfl ?_
 have F:FE_ _ [] a117 a117:=⟨R,Ag_.refl _⟩;clear R
 refine sv_ gq24_4_0 (yl4_ rfl (F.of h5) B101) fun a118 e=>?_
 have h24:=pt_ F e;replace F:=pu_ F e;clear e
 have Y:(execOp a118.eval oq24_4_1).run Tryz.prog w102=.ok (.enter 30 #[.agg #[.int .i64 t.k,.string (str t.nm),.int .i64 t.i,.slice a t.args.length c],.int .i64 1]) w102:=by unfold oq24_4_1;go_simp
 obtain ⟨z,hz⟩:∃ q,q=Tm.node 0 [] 0 []:=⟨_,rfl⟩
 have hcall:=rename_sx (m:=1) (HT.out.on K1) (ik_wf (by decide) (by decide)) (by rw [rnV_bad HR.out,← hz])
 clear hz
 refine st_call gq24_4_1 rfl (wanted_free rfl) Y ((hcall).mono ?_);clear Y
 rintro e9 w119 ⟨az,cz,rfl,-,kk⟩
 replace K1:=keep_onto K1 kk
 replace B0:=blk_on B0 kk
 replace B1:=blk_on B1 kk
 replace B101:=blk_on B101 kk
 clear hcall
 clear kk
 refine ⟨_,rfl,fun a120 e=>?_⟩
 clear h24;have h25:=pt_ F e;replace F:=pu_ F e;clear e
 refine sv_ gq24_4_2 (ym_ rfl h25) fun a121 e=>?_
 clear h25;have h23:=pt_ F e;replace F:=pu_ F e;clear e
 refine sv_ gq24_4_3 (ye30_ rfl h23) fun a122 e=>?_
 have h26:=pt_ F e;replace F:=pu_ F e;replace h23:=so_ e h23;clear e
 refine sv_ gq24_4_4 (ye31_ rfl h23) fun a123 e=>?_
 have h27:=pt_ F e;replace F:=pu_ F e;replace h23:=so_ e h23;replace h26:=so_ e h26;clear e
 refine sv_ gq24_4_5 (ye32_ rfl h23) fun a124 e=>?_
 clear h23;have h28:=pt_ F e;replace F:=pu_ F e;replace h26:=so_ e h26;replace h27:=so_ e h27;clear e
 have Y:(execOp a124.eval oq24_4_6).run Tryz.prog w119=.ok (.value (.pointer (some ⟨w119.heap.size,0,none⟩))) (w119.alloc (.cells #[.int .i64 0,.string (⟨#[]⟩),.int .i64 0,.slice none 0 0] 28)):=by unfold oq24_4_6;go_simp
 have B125:=Blk.new w119 28 #[.int .i64 0,.string (⟨#[]⟩),.int .i64 0,.slice none 0 0]
 obtain ⟨w126,hw⟩:∃ x,x=w119.alloc (.cells #[.int .i64 0,.string (⟨#[]⟩),.int .i64 0,.slice none 0 0] 28):=⟨_,rfl⟩;rw [← hw] at Y B125
 obtain ⟨b125,hb⟩:∃ x,x=w119.heap.size:=⟨_,rfl⟩;rw [← hb] at Y B125
 have Nb0_b125:=nb_ hb B0;replace B0:=ba_ hw B0;have Nb1_b125:=nb_ hb B1;replace B1:=ba_ hw B1;have Nb101_b125:=nb_ hb B101;replace B101:=ba_ hw B101;have LK1_b125:=lk_ hb K1;replace K1:=ka_ hw K1;clear hw hb
 refine sv_ gq24_4_6 Y fun a127 e=>?_;clear Y
 have h9:=pt_ F e;replace F:=pu_ F e;replace h26:=so_ e h26;replace h27:=so_ e h27;replace h28:=so_ e h28;clear e
 obtain ⟨w128,Y,hk,hB⟩:=ys4_ (o:=oq24_4_7) rfl h9 h26 B125
 replace K1:=kx_ hk K1 (Nat.not_lt.2 LK1_b125);replace B0:=bx_ hk B0 Nb0_b125;replace B1:=bx_ hk B1 Nb1_b125;replace B101:=bx_ hk B101 Nb101_b125;clear B125;have B125:=hB;clear hB hk
 refine st_skip gq24_4_7 rfl (wanted_free rfl) Y ?_;clear Y
 refine sv_ gq24_4_8 (ya_ rfl h27) fun a129 e=>?_
 clear h26 h27;replace F:=pu_ F e;replace h9:=so_ e h9;replace h28:=so_ e h28;clear e
 refine sv_ gq24_4_9 (ya_ rfl h28) fun a130 e=>?_
 clear h28;have h11:=pt_ F e;replace F:=pu_ F e;replace h9:=so_ e h9;clear e
 refine st_end ?_
 clear h5;replace h6:=F.of h6;replace h7:=F.of h7;clear h22;have R:=F.r;clear F
 change (cq24_14).wp _ _ _ _
 refine wp_seq (x:=cq24_15) (y:=cq24_29) ?_
 refine wp_block (id:=0) (c:=cq24_16) ?_
 refine wp_seq (x:=cq24_17) (y:=cq24_18) ?_
 change (Code.region 5 Oq24_5 false).wp _ _ _ _
 refine reg_in (l:=[0,1,2]) rfl ?_
 have F:FE_ _ [] a130 a130:=⟨R,Ag_.refl _⟩;clear R
 refine sv_ gq24_5_0 (ym_ rfl (F.of h11)) fun a131 e=>?_
 have h30:=pt_ F e;replace F:=pu_ F e;clear e
 have Y:(execOp a131.eval oq24_5_1).run Tryz.prog w128=.ok (.value (.bool true)) w128:=by unfold oq24_5_1;go_simp
 refine sv_ gq24_5_1 Y fun a132 e=>?_;clear Y
 clear h30;have h31:=pt_ F e;replace F:=pu_ F e;clear e
 refine sv_ gq24_5_2 (ya_ rfl h31) fun a133 e=>?_
 clear h31;have h29:=pt_ F e;replace F:=pu_ F e;clear e
 refine st_end ?_
 replace h6:=F.of h6;replace h7:=F.of h7;replace h9:=F.of h9;replace h11:=F.of h11;have R:=F.r;clear F
 change (cq24_18).wp _ _ _ _
 refine wp_cond_true (x:=cq24_19) (y:=cq24_22) (eval_slot h29) ?_
 refine wp_seq (x:=cq24_20) (y:=Code.ret) ?_
 change (Code.region 6 Oq24_6 false).wp _ _ _ _
 refine reg_in (l:=[0,1]) rfl ?_
 have F:FE_ _ [] a133 a133:=⟨R,Ag_.refl _⟩;clear R
 refine sv_ gq24_6_0 (ym_ rfl (F.of h11)) fun a134 e=>?_
 have h32:=pt_ F e;replace F:=pu_ F e;clear e
 refine sv_ gq24_6_1 (ya_ rfl h32) fun a135 e=>?_
 clear h32 h6;have h6:=pt_ F e;replace F:=pu_ F e;clear e
 refine st_end ?_
 replace h7:=F.of h7;replace h9:=F.of h9;clear h11;clear h29;have R:=F.r;clear F
 change (Code.ret).wp _ _ _ _
 refine wp_ret ?_
 change bodyPost Tryz.prog Tryz.f11 (fun e w'=>e=.returned (.int .i64 70)∧Keep (fun g=>g < W.heap.size) W w') .ret a135 w128
 refine ret_one rfl R h6 ?_
 exact ⟨rfl,K1⟩
theorem blk_on'' {w w':World} {L g:Nat} {t:TypeId} {cs:Array Value} (h:Blk w g t cs) (k:Keep (fun g=>g < L) w w') (hl:g < L):Blk w' g t cs:=h.keep k hl
set_option maxRecDepth 100000 in
set_option maxHeartbeats 4000000 in
theorem send_c {W:World} {B b0 mb n:Nat} {RR:Nat→Prop} {made k:Int} {f:Int→Option Qu} {b1 vc:Nat} {m:Int} {va:Option Addr} {ps:List TP} {t:Tm} {a:Option Addr} {c:Nat}  {f0:Act} {w0:World} (R:FrS 55 f0) (h0:f0.tmps[0]? = some (.pointer (some ⟨b0,0,none⟩))) (h1:f0.tmps[1]? = some (.int .i64 k)) (h2:f0.tmps[2]? = some (.agg #[.int .i64 t.k,.string (str t.nm),.int .i64 t.i,.slice a t.args.length c])) (K1:Keep (fun g=>g < W.heap.size) W w0)  (B0:Blk w0 b0 48 #[.int .i64 made,.map (some mb)]) (HP:Hid (PoAt B RR W b0 mb made f n)) (HK:Hid ((ik k).wf=true)) (B1:Blk w0 b1 72 #[.int .i64 m,.slice va ps.length vc]) (HF:Hid (f k=some ⟨b1,m,.slice va ps.length vc,ps⟩)) (HT:Hid (TmAt W.heap.size W t a c)) (HR:Hid (t.right=true)) (HFL:Hid (m ≤ (ps.length:Int))):cq24_0.wp Tryz.prog (bodyPost Tryz.prog Tryz.f11 (fun e w'=>e=.returned (.int .i64 141)∧Keep (fun g=>g < W.heap.size) W w')) f0 w0:=by
 have HB1W:b1 < W.heap.size:=(HP.out.rb _ (HP.out.qs k _ HF.out).rg).2
 have HB0W:b0 < W.heap.size:=HP.out.head.lt
 refine wp_seq (x:=cq24_1) (y:=cq24_2) ?_
 change (Code.region 0 Oq24_0 false).wp _ _ _ _
 refine reg_in (l:=[0,1]) rfl ?_
 have F:FE_ _ [] f0 f0:=⟨R,Ag_.refl _⟩;clear R
 have Y:(execOp f0.eval oq24_0_0).run Tryz.prog w0=.ok (.value (.pointer (some ⟨w0.heap.size,0,none⟩))) (w0.alloc (.cells #[.int .i64 t.k,.string (str t.nm),.int .i64 t.i,.slice a t.args.length c] 28)):=by have r2:=F.of h2;unfold oq24_0_0;go_simp
 have B101:=Blk.new w0 28 #[.int .i64 t.k,.string (str t.nm),.int .i64 t.i,.slice a t.args.length c]
 obtain ⟨w102,hw⟩:∃ x,x=w0.alloc (.cells #[.int .i64 t.k,.string (str t.nm),.int .i64 t.i,.slice a t.args.length c] 28):=⟨_,rfl⟩;rw [← hw] at Y B101
 obtain ⟨b101,hb⟩:∃ x,x=w0.heap.size:=⟨_,rfl⟩;rw [← hb] at Y B101
 have Nb0_b101:=nb_ hb B0;replace B0:=ba_ hw B0;have Nb1_b101:=nb_ hb B1;replace B1:=ba_ hw B1;have LK1_b101:=lk_ hb K1;replace K1:=ka_ hw K1;clear hw hb
 refine sv_ gq24_0_0 Y fun a103 e=>?_;clear Y
 have h5:=pt_ F e;replace F:=pu_ F e;clear e
 have Y:(execOp a103.eval oq24_0_1).run Tryz.prog w102=.ok (.value (.int .i64 0)) w102:=by unfold oq24_0_1;go_simp
 refine sv_ gq24_0_1 Y fun a104 e=>?_;clear Y
 have h6:=pt_ F e;replace F:=pu_ F e;replace h5:=so_ e h5;clear e
 refine st_end ?_
 replace h0:=F.of h0;replace h1:=F.of h1;clear h2;have R:=F.r;clear F
 change (cq24_2).wp _ _ _ _
 refine wp_seq (x:=cq24_3) (y:=cq24_4) ?_
 change (Code.region 1 Oq24_1 false).wp _ _ _ _
 refine reg_in (l:=[0,1,2,3,4,5,6,7,8,9,10]) rfl ?_
 have F:FE_ _ [] a104 a104:=⟨R,Ag_.refl _⟩;clear R
 refine sv_ gq24_1_0 (ym_ rfl (F.of h0)) fun a105 e=>?_
 have h13:=pt_ F e;replace F:=pu_ F e;clear e
 have Y:(execOp a105.eval oq24_1_1).run Tryz.prog w102=.ok (.value (.pointer (some ⟨b0,0,none⟩))) w102:=by unfold oq24_1_1;go_simp
 refine sv_ gq24_1_1 Y fun a106 e=>?_;clear Y
 clear h13;have h14:=pt_ F e;replace F:=pu_ F e;clear e
 have Y:(execOp a106.eval oq24_1_2).run Tryz.prog w102=.ok (.value (.pointer (some ⟨b0,1,none⟩))) w102:=by unfold oq24_1_2;go_simp
 refine sv_ gq24_1_2 Y fun a107 e=>?_;clear Y
 clear h14;have h15:=pt_ F e;replace F:=pu_ F e;clear e
 have Y:(execOp a107.eval oq24_1_3).run Tryz.prog w102=.ok (.value (.map (some mb))) w102:=by have qq0:w102.cell? ⟨b0,0,none⟩=some (.int .i64 made):=B0.cell 0;have qq1:w102.cell? ⟨b0,1,none⟩=some (.map (some mb)):=B0.cell 1;unfold oq24_1_3;go_simp
 refine sv_ gq24_1_3 Y fun a108 e=>?_;clear Y
 clear h15;have h16:=pt_ F e;replace F:=pu_ F e;clear e
 refine sv_ gq24_1_4 (ym_ rfl (F.of h1)) fun a109 e=>?_
 have h17:=pt_ F e;replace F:=pu_ F e;replace h16:=so_ e h16;clear e
 have Y:(execOp a109.eval oq24_1_5).run Tryz.prog w102=.ok (.value (.tuple #[.pointer (some ⟨b1,0,none⟩),.bool true])) w102:=by have hl:=PoAt.look1 (HP.out.on K1) HF.out HK.out;unfold oq24_1_5;go_simp
 refine sv_ gq24_1_5 Y fun a110 e=>?_;clear Y
 clear h16 h17;have h18:=pt_ F e;replace F:=pu_ F e;clear e
 refine sv_ gq24_1_6 (ym_ rfl h18) fun a111 e=>?_
 clear h18;have h12:=pt_ F e;replace F:=pu_ F e;clear e
 refine sv_ gq24_1_7 (ye20_ rfl h12) fun a112 e=>?_
 have h19:=pt_ F e;replace F:=pu_ F e;replace h12:=so_ e h12;clear e
 refine sv_ gq24_1_8 (ye21_ rfl h12) fun a113 e=>?_
 clear h12;have h20:=pt_ F e;replace F:=pu_ F e;replace h19:=so_ e h19;clear e
 refine sv_ gq24_1_9 (ya_ rfl h19) fun a114 e=>?_
 clear h19;have h7:=pt_ F e;replace F:=pu_ F e;replace h20:=so_ e h20;clear e
 refine sv_ gq24_1_10 (ya_ rfl h20) fun a115 e=>?_
 clear h20;have h8:=pt_ F e;replace F:=pu_ F e;replace h7:=so_ e h7;clear e
 refine st_end ?_
 clear h0;clear h1;replace h5:=F.of h5;replace h6:=F.of h6;have R:=F.r;clear F
 change (cq24_4).wp _ _ _ _
 refine wp_seq (x:=cq24_5) (y:=cq24_12) ?_
 refine wp_seq (x:=cq24_6) (y:=cq24_7) ?_
 change (Code.region 2 Oq24_2 false).wp _ _ _ _
 refine reg_in (l:=[0,1]) rfl ?_
 have F:FE_ _ [] a115 a115:=⟨R,Ag_.refl _⟩;clear R
 refine sv_ gq24_2_0 (ym_ rfl (F.of h8)) fun a116 e=>?_
 have h21:=pt_ F e;replace F:=pu_ F e;clear e
 have Y:(execOp a116.eval oq24_2_1).run Tryz.prog w102=.ok (.value (.bool false)) w102:=by unfold oq24_2_1;go_simp
 refine sv_ gq24_2_1 Y fun a117 e=>?_;clear Y
 clear h21;have h22:=pt_ F e;replace F:=pu_ F e;clear e
 refine st_end ?_
 replace h5:=F.of h5;replace h6:=F.of h6;replace h7:=F.of h7;clear h8;have R:=F.r;clear F
 change (cq24_7).wp _ _ _ _
 refine wp_cond_false (x:=cq24_8) (y:=Code.skip) (eval_slot h22) ?_
 refine wp_skip ?_
 change (cq24_12).wp _ _ _ _
 refine wp_seq (x:=cq24_13) (y:=cq24_14) ?_
 change (Code.region 4 Oq24_4 false).wp _ _ _ _
 refine reg_in (l:=[0,1,2,3,4,5,6,7,8,9]) rfl ?_
 have F:FE_ _ [] a117 a117:=⟨R,Ag_.refl _⟩;clear R
 refine sv_ gq24_4_0 (yl4_ rfl (F.of h5) B101) fun a118 e=>?_
 have h24:=pt_ F e;replace F:=pu_ F e;clear e
 have Y:(execOp a118.eval oq24_4_1).run Tryz.prog w102=.ok (.enter 30 #[.agg #[.int .i64 t.k,.string (str t.nm),.int .i64 t.i,.slice a t.args.length c],.int .i64 1]) w102:=by unfold oq24_4_1;go_simp
 obtain ⟨LO,hLO⟩:∃ q,q=w102.heap.size:=⟨_,rfl⟩
 have HWL:W.heap.size ≤ LO:=by rw [hLO];exact K1.size
 obtain ⟨u,hu⟩:∃ q,(t.tree.ren 1).tm=q:=⟨_,rfl⟩
 have hcall:=rename_fr' (m:=1) (HT.out.on K1) (ik_wf (by decide) (by decide)) (rnV_eq HR.out (by decide) (by decide))
 rw [hu,← hLO] at hcall;have HUE:=Lib.hid hu;clear hu
 have Eb101:b101 < LO:=by rw [hLO];exact B101.lt
 clear hLO
 refine st_call gq24_4_1 rfl (wanted_free rfl) Y ((hcall).mono ?_);clear Y
 rintro e9 w119 ⟨au,cu,rfl,hfr,kk⟩
 replace K1:=keep_onto' K1 kk
 replace B0:=blk_on'' B0 kk (Nat.lt_of_lt_of_le HB0W HWL)
 replace B1:=blk_on'' B1 kk (Nat.lt_of_lt_of_le HB1W HWL)
 replace B101:=blk_on'' B101 kk Eb101
 clear kk
 have HFR:=Lib.hid hfr;clear hfr
 have KU:=Keep.refl (fun g=>LO ≤ g∧g < w119.heap.size) w119
 refine ⟨_,rfl,fun a120 e=>?_⟩
 clear h24;have h25:=pt_ F e;replace F:=pu_ F e;clear e
 refine sv_ gq24_4_2 (ym_ rfl h25) fun a121 e=>?_
 clear h25;have h23:=pt_ F e;replace F:=pu_ F e;clear e
 refine sv_ gq24_4_3 (ye30_ rfl h23) fun a122 e=>?_
 have h26:=pt_ F e;replace F:=pu_ F e;replace h23:=so_ e h23;clear e
 refine sv_ gq24_4_4 (ye31_ rfl h23) fun a123 e=>?_
 have h27:=pt_ F e;replace F:=pu_ F e;replace h23:=so_ e h23;replace h26:=so_ e h26;clear e
 refine sv_ gq24_4_5 (ye32_ rfl h23) fun a124 e=>?_
 clear h23;have h28:=pt_ F e;replace F:=pu_ F e;replace h26:=so_ e h26;replace h27:=so_ e h27;clear e
 have Y:(execOp a124.eval oq24_4_6).run Tryz.prog w119=.ok (.value (.pointer (some ⟨w119.heap.size,0,none⟩))) (w119.alloc (.cells #[.int .i64 0,.string (⟨#[]⟩),.int .i64 0,.slice none 0 0] 28)):=by unfold oq24_4_6;go_simp
 have B125:=Blk.new w119 28 #[.int .i64 0,.string (⟨#[]⟩),.int .i64 0,.slice none 0 0]
 obtain ⟨w126,hw⟩:∃ x,x=w119.alloc (.cells #[.int .i64 0,.string (⟨#[]⟩),.int .i64 0,.slice none 0 0] 28):=⟨_,rfl⟩;rw [← hw] at Y B125
 obtain ⟨b125,hb⟩:∃ x,x=w119.heap.size:=⟨_,rfl⟩;rw [← hb] at Y B125
 have Nb0_b125:=nb_ hb B0;replace B0:=ba_ hw B0;have Nb1_b125:=nb_ hb B1;replace B1:=ba_ hw B1;have Nb101_b125:=nb_ hb B101;replace B101:=ba_ hw B101;have LK1_b125:=lk_ hb K1;replace K1:=ka_ hw K1;have LKU_b125:=lk_ hb KU;replace KU:=ka_ hw KU;clear hw hb
 refine sv_ gq24_4_6 Y fun a127 e=>?_;clear Y
 have h9:=pt_ F e;replace F:=pu_ F e;replace h26:=so_ e h26;replace h27:=so_ e h27;replace h28:=so_ e h28;clear e
 obtain ⟨w128,Y,hk,hB⟩:=ys4_ (o:=oq24_4_7) rfl h9 h26 B125
 replace K1:=kx_ hk K1 (Nat.not_lt.2 LK1_b125);replace KU:=kx_ hk KU (fun hx=>absurd hx.2 (Nat.not_lt.2 LKU_b125));replace B0:=bx_ hk B0 Nb0_b125;replace B1:=bx_ hk B1 Nb1_b125;replace B101:=bx_ hk B101 Nb101_b125;clear B125;have B125:=hB;clear hB hk
 refine st_skip gq24_4_7 rfl (wanted_free rfl) Y ?_;clear Y
 refine sv_ gq24_4_8 (ya_ rfl h27) fun a129 e=>?_
 clear h26 h27;replace F:=pu_ F e;replace h9:=so_ e h9;replace h28:=so_ e h28;clear e
 refine sv_ gq24_4_9 (ya_ rfl h28) fun a130 e=>?_
 clear h28;have h11:=pt_ F e;replace F:=pu_ F e;replace h9:=so_ e h9;clear e
 refine st_end ?_
 clear h5;replace h6:=F.of h6;replace h7:=F.of h7;clear h22;have R:=F.r;clear F
 change (cq24_14).wp _ _ _ _
 refine wp_seq (x:=cq24_15) (y:=cq24_29) ?_
 refine wp_block (id:=0) (c:=cq24_16) ?_
 refine wp_seq (x:=cq24_17) (y:=cq24_18) ?_
 change (Code.region 5 Oq24_5 false).wp _ _ _ _
 refine reg_in (l:=[0,1,2]) rfl ?_
 have F:FE_ _ [] a130 a130:=⟨R,Ag_.refl _⟩;clear R
 refine sv_ gq24_5_0 (ym_ rfl (F.of h11)) fun a131 e=>?_
 have h30:=pt_ F e;replace F:=pu_ F e;clear e
 have Y:(execOp a131.eval oq24_5_1).run Tryz.prog w128=.ok (.value (.bool false)) w128:=by unfold oq24_5_1;go_simp
 refine sv_ gq24_5_1 Y fun a132 e=>?_;clear Y
 clear h30;have h31:=pt_ F e;replace F:=pu_ F e;clear e
 refine sv_ gq24_5_2 (ya_ rfl h31) fun a133 e=>?_
 clear h31;have h29:=pt_ F e;replace F:=pu_ F e;clear e
 refine st_end ?_
 replace h6:=F.of h6;replace h7:=F.of h7;replace h9:=F.of h9;replace h11:=F.of h11;have R:=F.r;clear F
 change (cq24_18).wp _ _ _ _
 refine wp_cond_false (x:=cq24_19) (y:=cq24_22) (eval_slot h29) ?_
 refine wp_seq (x:=cq24_23) (y:=cq24_24) ?_
 change (Code.region 7 Oq24_7 true).wp _ _ _ _
 have D136:=B0
 have D137:=B1
 have D138:=B101
 have D139:=B125
 have K134:=(Keep.refl (fun g=>g < w128.heap.size) w128).drew
 have EK1:=K1
 have EKU:=KU
 refine dr_in (S:=(fun W=>Keep (fun g=>g < w128.heap.size) w128 W)) (n:=11) (l:=lb_ 11 0) (by kernel_rfl) K134 rfl (by kernel_rfl) ?_
 replace K1:=K1.drew
 replace KU:=KU.drew
 replace B0:=B0.drew
 replace B1:=B1.drew
 replace B101:=B101.drew
 replace B125:=B125.drew
 generalize w128.drew=w135 at K134 K1 KU B0 B1 B101 B125 ⊢
 have F:FE_ _ [] a133 a133:=⟨R,Ag_.refl _⟩;clear R
 refine dt_ (i:=0) (l':=(lb_ 11 1)) gq24_7_0 rfl nsq24_7 (wanted_free rfl) K134 (fun _ _=>(ym_ rfl (F.of h7))) fun a140 e=>?_
 have h34:=pt_ F e;replace F:=pu_ F e;clear e
 have Y:∀ W,Keep (fun g=>g < w128.heap.size) w128 W→(execOp a140.eval oq24_7_1).run Tryz.prog W=.ok (.value (.pointer (some ⟨b1,0,none⟩))) W:=by intro W7 hS;unfold oq24_7_1;go_simp
 refine dt_ (i:=1) (l':=(lb_ 11 3)) gq24_7_1 rfl nsq24_7 (wanted_free rfl) K134 Y fun a141 e=>?_;clear Y
 clear h34;have h35:=pt_ F e;replace F:=pu_ F e;clear e
 have Y:∀ W,Keep (fun g=>g < w128.heap.size) w128 W→(execOp a141.eval oq24_7_2).run Tryz.prog W=.ok (.value (.pointer (some ⟨b1,1,none⟩))) W:=by intro W7 hS;unfold oq24_7_2;go_simp
 refine dt_ (i:=2) (l':=(lb_ 11 7)) gq24_7_2 rfl nsq24_7 (wanted_free rfl) K134 Y fun a142 e=>?_;clear Y
 clear h35;have h36:=pt_ F e;replace F:=pu_ F e;clear e
 have Y:∀ W,Keep (fun g=>g < w128.heap.size) w128 W→(execOp a142.eval oq24_7_3).run Tryz.prog W=.ok (.value (.slice va ps.length vc)) W:=by intro W7 hS;have D:=D137.keep hS D137.lt;have qq0:W7.cell? ⟨b1,0,none⟩=some (.int .i64 m):=D.cell 0;have qq1:W7.cell? ⟨b1,1,none⟩=some (.slice va ps.length vc):=D.cell 1;unfold oq24_7_3;go_simp
 refine dt_ (i:=3) (l':=(lb_ 11 15)) gq24_7_3 rfl nsq24_7 (wanted_free rfl) K134 Y fun a143 e=>?_;clear Y
 clear h36;have h37:=pt_ F e;replace F:=pu_ F e;clear e
 have Y:∀ W,Keep (fun g=>g < w128.heap.size) w128 W→(execOp a143.eval oq24_7_4).run Tryz.prog W=.ok (.value (.int .i64 ps.length)) W:=by intro W7 hS;unfold oq24_7_4;go_simp
 refine dt_ (i:=4) (l':=(lb_ 11 31)) gq24_7_4 rfl nsq24_7 (wanted_free rfl) K134 Y fun a144 e=>?_;clear Y
 clear h37;have h38:=pt_ F e;replace F:=pu_ F e;clear e
 refine dt_ (i:=5) (l':=(lb_ 11 63)) gq24_7_5 rfl nsq24_7 (wanted_free rfl) K134 (fun _ _=>(ym_ rfl (F.of h7))) fun a145 e=>?_
 have h39:=pt_ F e;replace F:=pu_ F e;replace h38:=so_ e h38;clear e
 have Y:∀ W,Keep (fun g=>g < w128.heap.size) w128 W→(execOp a145.eval oq24_7_6).run Tryz.prog W=.ok (.value (.pointer (some ⟨b1,0,none⟩))) W:=by intro W7 hS;unfold oq24_7_6;go_simp
 refine dt_ (i:=6) (l':=(lb_ 11 127)) gq24_7_6 rfl nsq24_7 (wanted_free rfl) K134 Y fun a146 e=>?_;clear Y
 clear h39;have h40:=pt_ F e;replace F:=pu_ F e;replace h38:=so_ e h38;clear e
 have Y:∀ W,Keep (fun g=>g < w128.heap.size) w128 W→(execOp a146.eval oq24_7_7).run Tryz.prog W=.ok (.value (.pointer (some ⟨b1,0,none⟩))) W:=by intro W7 hS;unfold oq24_7_7;go_simp
 refine dt_ (i:=7) (l':=(lb_ 11 255)) gq24_7_7 rfl nsq24_7 (wanted_free rfl) K134 Y fun a147 e=>?_;clear Y
 clear h40;have h41:=pt_ F e;replace F:=pu_ F e;replace h38:=so_ e h38;clear e
 have Y:∀ W,Keep (fun g=>g < w128.heap.size) w128 W→(execOp a147.eval oq24_7_8).run Tryz.prog W=.ok (.value (.int .i64 m)) W:=by intro W7 hS;have D:=D137.keep hS D137.lt;have qq0:W7.cell? ⟨b1,0,none⟩=some (.int .i64 m):=D.cell 0;have qq1:W7.cell? ⟨b1,1,none⟩=some (.slice va ps.length vc):=D.cell 1;unfold oq24_7_8;go_simp
 refine dt_ (i:=8) (l':=(lb_ 11 511)) gq24_7_8 rfl nsq24_7 (wanted_free rfl) K134 Y fun a148 e=>?_;clear Y
 clear h41;have h42:=pt_ F e;replace F:=pu_ F e;replace h38:=so_ e h38;clear e
 have Y:∀ W,Keep (fun g=>g < w128.heap.size) w128 W→(execOp a148.eval oq24_7_9).run Tryz.prog W=.ok (.value (.bool true)) W:=by intro W7 hS;have hfl:m ≤ (ps.length:Int):=HFL.out;unfold oq24_7_9;go_simp
 refine dt_ (i:=9) (l':=(lb_ 11 1023)) gq24_7_9 rfl nsq24_7 (wanted_free rfl) K134 Y fun a149 e=>?_;clear Y
 clear h38 h42;have h43:=pt_ F e;replace F:=pu_ F e;clear e
 refine dt_ (i:=10) (l':=(lb_ 11 2047)) gq24_7_10 rfl nsq24_7 (wanted_free rfl) K134 (fun _ _=>(ya_ rfl h43)) fun a150 e=>?_
 clear h43;have h33:=pt_ F e;replace F:=pu_ F e;clear e
 refine dr_end (by kernel_rfl) ?_
 replace h6:=F.of h6;replace h7:=F.of h7;replace h9:=F.of h9;clear h11;clear h29;have R:=F.r;clear F
 clear K134 EK1 EKU D136 D137 D138 D139
 change (cq24_24).wp _ _ _ _
 refine wp_cond_true (x:=cq24_25) (y:=Code.skip) (eval_slot h33) ?_
 refine wp_seq (x:=cq24_26) (y:=Code.ret) ?_
 change (Code.region 8 Oq24_8 false).wp _ _ _ _
 refine reg_in (l:=[0]) rfl ?_
 have F:FE_ _ [] a150 a150:=⟨R,Ag_.refl _⟩;clear R
 have Y:(execOp a150.eval oq24_8_0).run Tryz.prog w135=.ok (.value (.int .i64 141)) w135:=by unfold oq24_8_0;go_simp
 refine sv_ gq24_8_0 Y fun a151 e=>?_;clear Y
 clear h6;have h6:=pt_ F e;replace F:=pu_ F e;clear e
 refine st_end ?_
 replace h7:=F.of h7;replace h9:=F.of h9;clear h33;have R:=F.r;clear F
 change (Code.ret).wp _ _ _ _
 refine wp_ret ?_
 change bodyPost Tryz.prog Tryz.f11 (fun e w'=>e=.returned (.int .i64 141)∧Keep (fun g=>g < W.heap.size) W w') .ret a151 w135
 refine ret_one rfl R h6 ?_
 exact ⟨rfl,K1⟩
theorem Blk.ne_' {w w':World} {X:Nat→Prop} {g g':Nat} {t t':TypeId} {cs cs':Array Value} (h:Blk w g t cs) (k:Keep X w w') (h':Blk w' g' t' cs') (hX:X g) (hne:t ≠ t'):g ≠ g':=(h.keep k hX).ne_ h' hne
set_option maxRecDepth 100000 in
set_option maxHeartbeats 4000000 in
theorem send_d {W:World} {B b0 mb n:Nat} {RR:Nat→Prop} {made k:Int} {f:Int→Option Qu} {b1 vc:Nat} {m:Int} {va:Option Addr} {ps:List TP} {t:Tm} {a:Option Addr} {c:Nat}  {f0:Act} {w0:World} (R:FrS 55 f0) (h0:f0.tmps[0]? = some (.pointer (some ⟨b0,0,none⟩))) (h1:f0.tmps[1]? = some (.int .i64 k)) (h2:f0.tmps[2]? = some (.agg #[.int .i64 t.k,.string (str t.nm),.int .i64 t.i,.slice a t.args.length c])) (K1:Keep (fun g=>g < W.heap.size) W w0)  (B0:Blk w0 b0 48 #[.int .i64 made,.map (some mb)]) (HP:Hid (PoAt B RR W b0 mb made f n)) (HK:Hid ((ik k).wf=true)) (B1:Blk w0 b1 72 #[.int .i64 m,.slice va ps.length vc]) (HF:Hid (f k=some ⟨b1,m,.slice va ps.length vc,ps⟩)) (HT:Hid (TmAt W.heap.size W t a c)) (HR:Hid (t.right=true)) (HFL:Hid ((ps.length:Int) < m)):cq24_0.wp Tryz.prog (bodyPost Tryz.prog Tryz.f11 (fun e w'=>e=.returned (.int .i64 0)∧∃ (g2 cap LO HI:Nat) (au:Option Addr) (cu:Nat) (cur':Array Value) (w2:World),Blk w' b1 72 #[.int .i64 m,.slice (some ⟨g2,0,none⟩) (ps.length + 1) cap]∧Blk w' g2 28 cur'∧B ≤ g2∧((Value.slice va ps.length vc).ownBlock=some g2∨HI ≤ g2)∧ps.length + 1 ≤ cap∧cap ≤ maxLen∧cur'.size=cap * 4∧cur'.toList.take ((ps.length + 1) * 4)=ps.flatMap TP.cells ++ Tm.cells (t.tree.ren 1).tm au cu∧Fr 0 (fun _=>False) w2 LO HI (t.tree.ren 1).tm au cu∧W.heap.size ≤ LO∧HI=w2.heap.size∧Keep (fun g=>LO ≤ g∧g < HI) w2 w'∧Keep (fun g=>g < W.heap.size∧g ≠ b1∧(Value.slice va ps.length vc).ownBlock ≠ some g) W w')) f0 w0:=by
 have HB1W:b1 < W.heap.size:=(HP.out.rb _ (HP.out.qs k _ HF.out).rg).2
 have HB0W:b0 < W.heap.size:=HP.out.head.lt
 have KX:Keep (fun g=>g < W.heap.size∧g ≠ b1∧(Value.slice va ps.length vc).ownBlock ≠ some g) W w0:=K1.less fun g hg=>hg.1
 refine wp_seq (x:=cq24_1) (y:=cq24_2) ?_
 change (Code.region 0 Oq24_0 false).wp _ _ _ _
 refine reg_in (l:=[0,1]) rfl ?_
 have F:FE_ _ [] f0 f0:=⟨R,Ag_.refl _⟩;clear R
 have Y:(execOp f0.eval oq24_0_0).run Tryz.prog w0=.ok (.value (.pointer (some ⟨w0.heap.size,0,none⟩))) (w0.alloc (.cells #[.int .i64 t.k,.string (str t.nm),.int .i64 t.i,.slice a t.args.length c] 28)):=by have r2:=F.of h2;unfold oq24_0_0;go_simp
 have B101:=Blk.new w0 28 #[.int .i64 t.k,.string (str t.nm),.int .i64 t.i,.slice a t.args.length c]
 obtain ⟨w102,hw⟩:∃ x,x=w0.alloc (.cells #[.int .i64 t.k,.string (str t.nm),.int .i64 t.i,.slice a t.args.length c] 28):=⟨_,rfl⟩;rw [← hw] at Y B101
 obtain ⟨b101,hb⟩:∃ x,x=w0.heap.size:=⟨_,rfl⟩;rw [← hb] at Y B101
 have Nb0_b101:=nb_ hb B0;replace B0:=ba_ hw B0;have Nb1_b101:=nb_ hb B1;replace B1:=ba_ hw B1;have LK1_b101:=lk_ hb K1;replace K1:=ka_ hw K1;have LKX_b101:=lk_ hb KX;replace KX:=ka_ hw KX;clear hw hb
 refine sv_ gq24_0_0 Y fun a103 e=>?_;clear Y
 have h5:=pt_ F e;replace F:=pu_ F e;clear e
 have Y:(execOp a103.eval oq24_0_1).run Tryz.prog w102=.ok (.value (.int .i64 0)) w102:=by unfold oq24_0_1;go_simp
 refine sv_ gq24_0_1 Y fun a104 e=>?_;clear Y
 have h6:=pt_ F e;replace F:=pu_ F e;replace h5:=so_ e h5;clear e
 refine st_end ?_
 replace h0:=F.of h0;replace h1:=F.of h1;clear h2;have R:=F.r;clear F
 change (cq24_2).wp _ _ _ _
 refine wp_seq (x:=cq24_3) (y:=cq24_4) ?_
 change (Code.region 1 Oq24_1 false).wp _ _ _ _
 refine reg_in (l:=[0,1,2,3,4,5,6,7,8,9,10]) rfl ?_
 have F:FE_ _ [] a104 a104:=⟨R,Ag_.refl _⟩;clear R
 refine sv_ gq24_1_0 (ym_ rfl (F.of h0)) fun a105 e=>?_
 have h13:=pt_ F e;replace F:=pu_ F e;clear e
 have Y:(execOp a105.eval oq24_1_1).run Tryz.prog w102=.ok (.value (.pointer (some ⟨b0,0,none⟩))) w102:=by unfold oq24_1_1;go_simp
 refine sv_ gq24_1_1 Y fun a106 e=>?_;clear Y
 clear h13;have h14:=pt_ F e;replace F:=pu_ F e;clear e
 have Y:(execOp a106.eval oq24_1_2).run Tryz.prog w102=.ok (.value (.pointer (some ⟨b0,1,none⟩))) w102:=by unfold oq24_1_2;go_simp
 refine sv_ gq24_1_2 Y fun a107 e=>?_;clear Y
 clear h14;have h15:=pt_ F e;replace F:=pu_ F e;clear e
 have Y:(execOp a107.eval oq24_1_3).run Tryz.prog w102=.ok (.value (.map (some mb))) w102:=by have qq0:w102.cell? ⟨b0,0,none⟩=some (.int .i64 made):=B0.cell 0;have qq1:w102.cell? ⟨b0,1,none⟩=some (.map (some mb)):=B0.cell 1;unfold oq24_1_3;go_simp
 refine sv_ gq24_1_3 Y fun a108 e=>?_;clear Y
 clear h15;have h16:=pt_ F e;replace F:=pu_ F e;clear e
 refine sv_ gq24_1_4 (ym_ rfl (F.of h1)) fun a109 e=>?_
 have h17:=pt_ F e;replace F:=pu_ F e;replace h16:=so_ e h16;clear e
 have Y:(execOp a109.eval oq24_1_5).run Tryz.prog w102=.ok (.value (.tuple #[.pointer (some ⟨b1,0,none⟩),.bool true])) w102:=by have hl:=PoAt.look1 (HP.out.on K1) HF.out HK.out;unfold oq24_1_5;go_simp
 refine sv_ gq24_1_5 Y fun a110 e=>?_;clear Y
 clear h16 h17;have h18:=pt_ F e;replace F:=pu_ F e;clear e
 refine sv_ gq24_1_6 (ym_ rfl h18) fun a111 e=>?_
 clear h18;have h12:=pt_ F e;replace F:=pu_ F e;clear e
 refine sv_ gq24_1_7 (ye20_ rfl h12) fun a112 e=>?_
 have h19:=pt_ F e;replace F:=pu_ F e;replace h12:=so_ e h12;clear e
 refine sv_ gq24_1_8 (ye21_ rfl h12) fun a113 e=>?_
 clear h12;have h20:=pt_ F e;replace F:=pu_ F e;replace h19:=so_ e h19;clear e
 refine sv_ gq24_1_9 (ya_ rfl h19) fun a114 e=>?_
 clear h19;have h7:=pt_ F e;replace F:=pu_ F e;replace h20:=so_ e h20;clear e
 refine sv_ gq24_1_10 (ya_ rfl h20) fun a115 e=>?_
 clear h20;have h8:=pt_ F e;replace F:=pu_ F e;replace h7:=so_ e h7;clear e
 refine st_end ?_
 clear h0;clear h1;replace h5:=F.of h5;replace h6:=F.of h6;have R:=F.r;clear F
 change (cq24_4).wp _ _ _ _
 refine wp_seq (x:=cq24_5) (y:=cq24_12) ?_
 refine wp_seq (x:=cq24_6) (y:=cq24_7) ?_
 change (Code.region 2 Oq24_2 false).wp _ _ _ _
 refine reg_in (l:=[0,1]) rfl ?_
 have F:FE_ _ [] a115 a115:=⟨R,Ag_.refl _⟩;clear R
 refine sv_ gq24_2_0 (ym_ rfl (F.of h8)) fun a116 e=>?_
 have h21:=pt_ F e;replace F:=pu_ F e;clear e
 have Y:(execOp a116.eval oq24_2_1).run Tryz.prog w102=.ok (.value (.bool false)) w102:=by unfold oq24_2_1;go_simp
 refine sv_ gq24_2_1 Y fun a117 e=>?_;clear Y
 clear h21;have h22:=pt_ F e;replace F:=pu_ F e;clear e
 refine st_end ?_
 replace h5:=F.of h5;replace h6:=F.of h6;replace h7:=F.of h7;clear h8;have R:=F.r;clear F
 change (cq24_7).wp _ _ _ _
 refine wp_cond_false (x:=cq24_8) (y:=Code.skip) (eval_slot h22) ?_
 refine wp_skip ?_
 change (cq24_12).wp _ _ _ _
 refine wp_seq (x:=cq24_13) (y:=cq24_14) ?_
 change (Code.region 4 Oq24_4 false).wp _ _ _ _
 refine reg_in (l:=[0,1,2,3,4,5,6,7,8,9]) rfl ?_
 have F:FE_ _ [] a117 a117:=⟨R,Ag_.refl _⟩;clear R
 refine sv_ gq24_4_0 (yl4_ rfl (F.of h5) B101) fun a118 e=>?_
 have h24:=pt_ F e;replace F:=pu_ F e;clear e
 have Y:(execOp a118.eval oq24_4_1).run Tryz.prog w102=.ok (.enter 30 #[.agg #[.int .i64 t.k,.string (str t.nm),.int .i64 t.i,.slice a t.args.length c],.int .i64 1]) w102:=by unfold oq24_4_1;go_simp
 obtain ⟨LO,hLO⟩:∃ q,q=w102.heap.size:=⟨_,rfl⟩
 have HWL:W.heap.size ≤ LO:=by rw [hLO];exact K1.size
 obtain ⟨u,hu⟩:∃ q,(t.tree.ren 1).tm=q:=⟨_,rfl⟩
 have hcall:=rename_fr' (m:=1) (HT.out.on K1) (ik_wf (by decide) (by decide)) (rnV_eq HR.out (by decide) (by decide))
 rw [hu,← hLO] at hcall;have HUE:=Lib.hid hu;clear hu
 have Eb101:b101 < LO:=by rw [hLO];exact B101.lt
 clear hLO
 refine st_call gq24_4_1 rfl (wanted_free rfl) Y ((hcall).mono ?_);clear Y
 rintro e9 w119 ⟨au,cu,rfl,hfr,kk⟩
 replace K1:=keep_onto' K1 kk
 replace KX:=KX.trans (kk.less fun g hg=>Nat.lt_of_lt_of_le hg.1 HWL)
 replace B0:=blk_on'' B0 kk (Nat.lt_of_lt_of_le HB0W HWL)
 replace B1:=blk_on'' B1 kk (Nat.lt_of_lt_of_le HB1W HWL)
 replace B101:=blk_on'' B101 kk Eb101
 clear kk
 have HFR:=Lib.hid hfr;clear hfr
 have KU:=Keep.refl (fun g=>LO ≤ g∧g < w119.heap.size) w119
 have HLU:LO ≤ w119.heap.size:=HFR.out.le
 refine ⟨_,rfl,fun a120 e=>?_⟩
 clear h24;have h25:=pt_ F e;replace F:=pu_ F e;clear e
 refine sv_ gq24_4_2 (ym_ rfl h25) fun a121 e=>?_
 clear h25;have h23:=pt_ F e;replace F:=pu_ F e;clear e
 refine sv_ gq24_4_3 (ye30_ rfl h23) fun a122 e=>?_
 have h26:=pt_ F e;replace F:=pu_ F e;replace h23:=so_ e h23;clear e
 refine sv_ gq24_4_4 (ye31_ rfl h23) fun a123 e=>?_
 have h27:=pt_ F e;replace F:=pu_ F e;replace h23:=so_ e h23;replace h26:=so_ e h26;clear e
 refine sv_ gq24_4_5 (ye32_ rfl h23) fun a124 e=>?_
 clear h23;have h28:=pt_ F e;replace F:=pu_ F e;replace h26:=so_ e h26;replace h27:=so_ e h27;clear e
 have Y:(execOp a124.eval oq24_4_6).run Tryz.prog w119=.ok (.value (.pointer (some ⟨w119.heap.size,0,none⟩))) (w119.alloc (.cells #[.int .i64 0,.string (⟨#[]⟩),.int .i64 0,.slice none 0 0] 28)):=by unfold oq24_4_6;go_simp
 have B125:=Blk.new w119 28 #[.int .i64 0,.string (⟨#[]⟩),.int .i64 0,.slice none 0 0]
 obtain ⟨w126,hw⟩:∃ x,x=w119.alloc (.cells #[.int .i64 0,.string (⟨#[]⟩),.int .i64 0,.slice none 0 0] 28):=⟨_,rfl⟩;rw [← hw] at Y B125
 obtain ⟨b125,hb⟩:∃ x,x=w119.heap.size:=⟨_,rfl⟩;rw [← hb] at Y B125
 have Nb0_b125:=nb_ hb B0;replace B0:=ba_ hw B0;have Nb1_b125:=nb_ hb B1;replace B1:=ba_ hw B1;have Nb101_b125:=nb_ hb B101;replace B101:=ba_ hw B101;have LK1_b125:=lk_ hb K1;replace K1:=ka_ hw K1;have LKX_b125:=lk_ hb KX;replace KX:=ka_ hw KX;have LKU_b125:=lk_ hb KU;replace KU:=ka_ hw KU;clear hw hb
 refine sv_ gq24_4_6 Y fun a127 e=>?_;clear Y
 have h9:=pt_ F e;replace F:=pu_ F e;replace h26:=so_ e h26;replace h27:=so_ e h27;replace h28:=so_ e h28;clear e
 obtain ⟨w128,Y,hk,hB⟩:=ys4_ (o:=oq24_4_7) rfl h9 h26 B125
 replace K1:=kx_ hk K1 (Nat.not_lt.2 LK1_b125);replace KX:=kx_ hk KX (fun hx=>absurd hx.1 (Nat.not_lt.2 LKX_b125));replace KU:=kx_ hk KU (fun hx=>absurd hx.2 (Nat.not_lt.2 LKU_b125));replace B0:=bx_ hk B0 Nb0_b125;replace B1:=bx_ hk B1 Nb1_b125;replace B101:=bx_ hk B101 Nb101_b125;clear B125;have B125:=hB;clear hB hk
 refine st_skip gq24_4_7 rfl (wanted_free rfl) Y ?_;clear Y
 refine sv_ gq24_4_8 (ya_ rfl h27) fun a129 e=>?_
 clear h26 h27;replace F:=pu_ F e;replace h9:=so_ e h9;replace h28:=so_ e h28;clear e
 refine sv_ gq24_4_9 (ya_ rfl h28) fun a130 e=>?_
 clear h28;have h11:=pt_ F e;replace F:=pu_ F e;replace h9:=so_ e h9;clear e
 refine st_end ?_
 clear h5;replace h6:=F.of h6;replace h7:=F.of h7;clear h22;have R:=F.r;clear F
 change (cq24_14).wp _ _ _ _
 refine wp_seq (x:=cq24_15) (y:=cq24_29) ?_
 refine wp_block (id:=0) (c:=cq24_16) ?_
 refine wp_seq (x:=cq24_17) (y:=cq24_18) ?_
 change (Code.region 5 Oq24_5 false).wp _ _ _ _
 refine reg_in (l:=[0,1,2]) rfl ?_
 have F:FE_ _ [] a130 a130:=⟨R,Ag_.refl _⟩;clear R
 refine sv_ gq24_5_0 (ym_ rfl (F.of h11)) fun a131 e=>?_
 have h30:=pt_ F e;replace F:=pu_ F e;clear e
 have Y:(execOp a131.eval oq24_5_1).run Tryz.prog w128=.ok (.value (.bool false)) w128:=by unfold oq24_5_1;go_simp
 refine sv_ gq24_5_1 Y fun a132 e=>?_;clear Y
 clear h30;have h31:=pt_ F e;replace F:=pu_ F e;clear e
 refine sv_ gq24_5_2 (ya_ rfl h31) fun a133 e=>?_
 clear h31;have h29:=pt_ F e;replace F:=pu_ F e;clear e
 refine st_end ?_
 replace h6:=F.of h6;replace h7:=F.of h7;replace h9:=F.of h9;replace h11:=F.of h11;have R:=F.r;clear F
 change (cq24_18).wp _ _ _ _
 refine wp_cond_false (x:=cq24_19) (y:=cq24_22) (eval_slot h29) ?_
 refine wp_seq (x:=cq24_23) (y:=cq24_24) ?_
 change (Code.region 7 Oq24_7 true).wp _ _ _ _
 have D136:=B0
 have D137:=B1
 have D138:=B101
 have D139:=B125
 have K134:=(Keep.refl (fun g=>g < w128.heap.size) w128).drew
 have EK1:=K1
 have EKX:=KX
 have EKU:=KU
 refine dr_in (S:=(fun W=>Keep (fun g=>g < w128.heap.size) w128 W)) (n:=11) (l:=lb_ 11 0) (by kernel_rfl) K134 rfl (by kernel_rfl) ?_
 replace K1:=K1.drew
 replace KX:=KX.drew
 replace KU:=KU.drew
 replace B0:=B0.drew
 replace B1:=B1.drew
 replace B101:=B101.drew
 replace B125:=B125.drew
 generalize w128.drew=w135 at K134 K1 KX KU B0 B1 B101 B125 ⊢
 have F:FE_ _ [] a133 a133:=⟨R,Ag_.refl _⟩;clear R
 refine dt_ (i:=0) (l':=(lb_ 11 1)) gq24_7_0 rfl nsq24_7 (wanted_free rfl) K134 (fun _ _=>(ym_ rfl (F.of h7))) fun a140 e=>?_
 have h34:=pt_ F e;replace F:=pu_ F e;clear e
 have Y:∀ W,Keep (fun g=>g < w128.heap.size) w128 W→(execOp a140.eval oq24_7_1).run Tryz.prog W=.ok (.value (.pointer (some ⟨b1,0,none⟩))) W:=by intro W7 hS;unfold oq24_7_1;go_simp
 refine dt_ (i:=1) (l':=(lb_ 11 3)) gq24_7_1 rfl nsq24_7 (wanted_free rfl) K134 Y fun a141 e=>?_;clear Y
 clear h34;have h35:=pt_ F e;replace F:=pu_ F e;clear e
 have Y:∀ W,Keep (fun g=>g < w128.heap.size) w128 W→(execOp a141.eval oq24_7_2).run Tryz.prog W=.ok (.value (.pointer (some ⟨b1,1,none⟩))) W:=by intro W7 hS;unfold oq24_7_2;go_simp
 refine dt_ (i:=2) (l':=(lb_ 11 7)) gq24_7_2 rfl nsq24_7 (wanted_free rfl) K134 Y fun a142 e=>?_;clear Y
 clear h35;have h36:=pt_ F e;replace F:=pu_ F e;clear e
 have Y:∀ W,Keep (fun g=>g < w128.heap.size) w128 W→(execOp a142.eval oq24_7_3).run Tryz.prog W=.ok (.value (.slice va ps.length vc)) W:=by intro W7 hS;have D:=D137.keep hS D137.lt;have qq0:W7.cell? ⟨b1,0,none⟩=some (.int .i64 m):=D.cell 0;have qq1:W7.cell? ⟨b1,1,none⟩=some (.slice va ps.length vc):=D.cell 1;unfold oq24_7_3;go_simp
 refine dt_ (i:=3) (l':=(lb_ 11 15)) gq24_7_3 rfl nsq24_7 (wanted_free rfl) K134 Y fun a143 e=>?_;clear Y
 clear h36;have h37:=pt_ F e;replace F:=pu_ F e;clear e
 have Y:∀ W,Keep (fun g=>g < w128.heap.size) w128 W→(execOp a143.eval oq24_7_4).run Tryz.prog W=.ok (.value (.int .i64 ps.length)) W:=by intro W7 hS;unfold oq24_7_4;go_simp
 refine dt_ (i:=4) (l':=(lb_ 11 31)) gq24_7_4 rfl nsq24_7 (wanted_free rfl) K134 Y fun a144 e=>?_;clear Y
 clear h37;have h38:=pt_ F e;replace F:=pu_ F e;clear e
 refine dt_ (i:=5) (l':=(lb_ 11 63)) gq24_7_5 rfl nsq24_7 (wanted_free rfl) K134 (fun _ _=>(ym_ rfl (F.of h7))) fun a145 e=>?_
 have h39:=pt_ F e;replace F:=pu_ F e;replace h38:=so_ e h38;clear e
 have Y:∀ W,Keep (fun g=>g < w128.heap.size) w128 W→(execOp a145.eval oq24_7_6).run Tryz.prog W=.ok (.value (.pointer (some ⟨b1,0,none⟩))) W:=by intro W7 hS;unfold oq24_7_6;go_simp
 refine dt_ (i:=6) (l':=(lb_ 11 127)) gq24_7_6 rfl nsq24_7 (wanted_free rfl) K134 Y fun a146 e=>?_;clear Y
 clear h39;have h40:=pt_ F e;replace F:=pu_ F e;replace h38:=so_ e h38;clear e
 have Y:∀ W,Keep (fun g=>g < w128.heap.size) w128 W→(execOp a146.eval oq24_7_7).run Tryz.prog W=.ok (.value (.pointer (some ⟨b1,0,none⟩))) W:=by intro W7 hS;unfold oq24_7_7;go_simp
 refine dt_ (i:=7) (l':=(lb_ 11 255)) gq24_7_7 rfl nsq24_7 (wanted_free rfl) K134 Y fun a147 e=>?_;clear Y
 clear h40;have h41:=pt_ F e;replace F:=pu_ F e;replace h38:=so_ e h38;clear e
 have Y:∀ W,Keep (fun g=>g < w128.heap.size) w128 W→(execOp a147.eval oq24_7_8).run Tryz.prog W=.ok (.value (.int .i64 m)) W:=by intro W7 hS;have D:=D137.keep hS D137.lt;have qq0:W7.cell? ⟨b1,0,none⟩=some (.int .i64 m):=D.cell 0;have qq1:W7.cell? ⟨b1,1,none⟩=some (.slice va ps.length vc):=D.cell 1;unfold oq24_7_8;go_simp
 refine dt_ (i:=8) (l':=(lb_ 11 511)) gq24_7_8 rfl nsq24_7 (wanted_free rfl) K134 Y fun a148 e=>?_;clear Y
 clear h41;have h42:=pt_ F e;replace F:=pu_ F e;replace h38:=so_ e h38;clear e
 have Y:∀ W,Keep (fun g=>g < w128.heap.size) w128 W→(execOp a148.eval oq24_7_9).run Tryz.prog W=.ok (.value (.bool false)) W:=by intro W7 hS;have hfl:¬ m ≤ (ps.length:Int):=(by have:=HFL.out;omega);unfold oq24_7_9;go_simp
 refine dt_ (i:=9) (l':=(lb_ 11 1023)) gq24_7_9 rfl nsq24_7 (wanted_free rfl) K134 Y fun a149 e=>?_;clear Y
 clear h38 h42;have h43:=pt_ F e;replace F:=pu_ F e;clear e
 refine dt_ (i:=10) (l':=(lb_ 11 2047)) gq24_7_10 rfl nsq24_7 (wanted_free rfl) K134 (fun _ _=>(ya_ rfl h43)) fun a150 e=>?_
 clear h43;have h33:=pt_ F e;replace F:=pu_ F e;clear e
 refine dr_end (by kernel_rfl) ?_
 replace h6:=F.of h6;replace h7:=F.of h7;replace h9:=F.of h9;clear h11;clear h29;have R:=F.r;clear F
 clear K134 EK1 EKX EKU D136 D137 D138 D139
 change (cq24_24).wp _ _ _ _
 refine wp_cond_false (x:=cq24_25) (y:=Code.skip) (eval_slot h33) ?_
 refine wp_skip ?_
 change (cq24_29).wp _ _ _ _
 refine wp_seq (x:=cq24_30) (y:=cq24_31) ?_
 change (Code.region 9 Oq24_9 true).wp _ _ _ _
 clear B0
 clear B101
 have HPW:=Lib.hid (HP.out.on K1);clear K1
 have HVW:w119.heap.size ≤ w135.heap.size:=KU.size
 obtain ⟨V9,hV9⟩:∃ q,q=w135:=⟨_,rfl⟩
 clear hV9 V9
 have K9:=Keep.refl (fun g=>g < w135.heap.size) w135
 have E9:b125 < w135.heap.size:=B125.lt
 have N9:b1 ≠ b125:=Nb1_b125
 have HOW:∀ g,(Value.slice va ps.length vc).ownBlock=some g→g < W.heap.size:=fun g hg=>(HP.out.rb _ ((HP.out.qs k _ HF.out).rv g hg)).2
 have O9:(Value.slice va ps.length vc).ownBlock ≠ some b125:=fun e=>absurd (HOW _ e) (Nat.not_lt.2 LKX_b125)
 have D153:=B1
 have D154:=B125
 have K151:=(Keep.refl (fun g=>g < w135.heap.size∧g ≠ b1∧(Value.slice va ps.length vc).ownBlock ≠ some g) w135).drew
 have EKX:=KX
 have EKU:=KU
 have EK9:=K9
 refine dr_in (S:=(fun W=>Keep (fun g=>g < w135.heap.size∧g ≠ b1∧(Value.slice va ps.length vc).ownBlock ≠ some g) w135 W)) (n:=13) (l:=lb_ 13 0) (by kernel_rfl) K151 rfl (by kernel_rfl) ?_
 replace KX:=KX.drew
 replace KU:=KU.drew
 replace K9:=K9.drew
 replace B1:=B1.drew
 replace B125:=B125.drew
 generalize w135.drew=w152 at K151 KX KU K9 B1 B125 ⊢
 have F:FE_ _ [] a150 a150:=⟨R,Ag_.refl _⟩;clear R
 refine dt_ (i:=0) (l':=(lb_ 13 1)) gq24_9_0 rfl nsq24_9 (wanted_free rfl) K151 (fun _ _=>(ym_ rfl (F.of h7))) fun a155 e=>?_
 have h44:=pt_ F e;replace F:=pu_ F e;clear e
 have Y:∀ W,Keep (fun g=>g < w135.heap.size∧g ≠ b1∧(Value.slice va ps.length vc).ownBlock ≠ some g) w135 W→(execOp a155.eval oq24_9_1).run Tryz.prog W=.ok (.value (.pointer (some ⟨b1,0,none⟩))) W:=by intro W7 hS;unfold oq24_9_1;go_simp
 refine dt_ (i:=1) (l':=(lb_ 13 3)) gq24_9_1 rfl nsq24_9 (wanted_free rfl) K151 Y fun a156 e=>?_;clear Y
 have h45:=pt_ F e;replace F:=pu_ F e;replace h44:=so_ e h44;clear e
 have Y:∀ W,Keep (fun g=>g < w135.heap.size∧g ≠ b1∧(Value.slice va ps.length vc).ownBlock ≠ some g) w135 W→(execOp a156.eval oq24_9_2).run Tryz.prog W=.ok (.value (.pointer (some ⟨b1,1,none⟩))) W:=by intro W7 hS;unfold oq24_9_2;go_simp
 refine dt_ (i:=2) (l':=(lb_ 13 7)) gq24_9_2 rfl nsq24_9 (wanted_free rfl) K151 Y fun a157 e=>?_;clear Y
 clear h45;have h46:=pt_ F e;replace F:=pu_ F e;replace h44:=so_ e h44;clear e
 refine dt_ (i:=4) (l':=(lb_ 13 23)) gq24_9_4 rfl nsq24_9 (wanted_free rfl) K151 (fun W7 hS=>(yl4_ rfl (F.of h9) (D154.keep hS ⟨E9,fun e=>N9 e.symm,O9⟩))) fun a158 e=>?_
 have h48:=pt_ F e;replace F:=pu_ F e;replace h44:=so_ e h44;replace h46:=so_ e h46;clear e
 refine dr_two (i:=3) (k:=6) (fuel:=8) (by kernel_rfl) ?_ ?_
 ·
  have Y:(execOp a158.eval oq24_9_3).run Tryz.prog w152=.ok (.value (.slice va ps.length vc)) w152:=by have qq0:w152.cell? ⟨b1,0,none⟩=some (.int .i64 m):=B1.cell 0;have qq1:w152.cell? ⟨b1,1,none⟩=some (.slice va ps.length vc):=B1.cell 1;unfold oq24_9_3;go_simp
  refine dr_val (l':=(lb_ 13 31)) gq24_9_3 rfl (by kernel_rfl) (wanted_free rfl) Y K151 fun a159 e=>?_;clear Y
  clear h46;have h47:=pt_ F e;replace F:=pu_ F e;replace h44:=so_ e h44;replace h48:=so_ e h48;clear e
  have Y:∀ W,Keep (fun g=>g < w135.heap.size∧g ≠ b1∧(Value.slice va ps.length vc).ownBlock ≠ some g) w135 W→(execOp a159.eval oq24_9_5).run Tryz.prog W=.ok (.value (.int .i64 ps.length)) W:=by intro W7 hS;unfold oq24_9_5;go_simp
  refine dt_ (i:=5) (l':=(lb_ 13 63)) gq24_9_5 rfl nsq24_9 (wanted_free rfl) K151 Y fun a160 e=>?_;clear Y
  have h49:=pt_ F e;replace F:=pu_ F e;replace h44:=so_ e h44;replace h47:=so_ e h47;replace h48:=so_ e h48;clear e
  refine dr_only (i:=6) (fuel:=6) (by kernel_rfl) ?_
  have Y:(execOp a160.eval oq24_9_6).run Tryz.prog w152=.ok (.value (.slice (some ⟨w152.heap.size,0,none⟩) 1 1)) (w152.alloc (.cells #[.int .i64 0,.string (⟨#[]⟩),.int .i64 0,.slice none 0 0] 28)):=by unfold oq24_9_6;go_simp
  have B161:=Blk.new w152 28 #[.int .i64 0,.string (⟨#[]⟩),.int .i64 0,.slice none 0 0]
  obtain ⟨w162,hw⟩:∃ x,x=w152.alloc (.cells #[.int .i64 0,.string (⟨#[]⟩),.int .i64 0,.slice none 0 0] 28):=⟨_,rfl⟩;rw [← hw] at Y B161
  obtain ⟨b161,hb⟩:∃ x,x=w152.heap.size:=⟨_,rfl⟩;rw [← hb] at Y B161
  have Nb1_b161:=nb_ hb B1;replace B1:=ba_ hw B1;have Nb125_b161:=nb_ hb B125;replace B125:=ba_ hw B125;have LKX_b161:=lk_ hb KX;replace KX:=ka_ hw KX;have LKU_b161:=lk_ hb KU;replace KU:=ka_ hw KU;have LK9_b161:=lk_ hb K9;replace K9:=ka_ hw K9;have LK151_b161:=lk_ hb K151;replace K151:=ka_ hw K151;clear hw hb
  refine dr_val (l':=(lb_ 13 127)) gq24_9_6 rfl (by kernel_rfl) (wanted_free rfl) Y K151 fun a163 e=>?_;clear Y
  have h50:=pt_ F e;replace F:=pu_ F e;replace h44:=so_ e h44;replace h47:=so_ e h47;replace h48:=so_ e h48;replace h49:=so_ e h49;clear e
  refine dr_only (i:=7) (fuel:=5) (by kernel_rfl) ?_
  obtain ⟨g2,cap,cur8,w8,hap,hB2,hat,hb8,hc1,hc2,hs8,ht8,kap⟩:=push_zero (ty:=oq24_9_7.type) (c2:=1) ((HPW.out.on K9).qs k _ HF.out).row (HPW.out.on K9).le B161 (by have h:=(HP.out.qs k _ HF.out).le;have h2:=(HP.out.qs k _ HF.out).m1;simp only at h h2;show ps.length < 8192;omega)
  have Y:(execOp a163.eval oq24_9_7).run Tryz.prog w162=.ok (.value (.slice (some ⟨g2,0,none⟩) (ps.length + 1) cap)) w8:=by
   unfold oq24_9_7 at hap ⊢;unfold execOp;simp only [resolve,invoke,builtin,Sem.run_bind,Sem.run_pure,Result.andThen_ok,List.map_toArray,List.map_cons,List.map_nil,eval_slot h47,eval_slot h50];rw [hap];rfl
  have HAT:Hid ((Value.slice va ps.length vc).ownBlock=some g2∨w119.heap.size ≤ g2):=Lib.hid (hat.imp id fun h=>Nat.le_trans (Nat.le_trans HVW K9.size) h)
  have HNB:b1 ≠ g2:=B1.ne_' kap hb8 (HPW.out.pa_ne (HPW.out.qs k _ HF.out)).2.2.2.2 (by decide)
  have HG2:¬ (g2 < W.heap.size∧g2 ≠ b1∧(Value.slice va ps.length vc).ownBlock ≠ some g2):=fun hx=>HAT.out.elim hx.2.2 fun h=>absurd hx.1 (Nat.not_lt.2 (Nat.le_trans (Nat.le_trans HWL HLU) h))
  replace KX:=KX.trans (kap.less fun g hg=>hg.2.2)
  replace KU:=KU.trans (kap.less fun g hg e=>absurd (Nat.lt_of_lt_of_le (HOW g e) HWL) (Nat.not_lt.2 hg.1))
  replace K151:=K151.trans (kap.less fun g hg=>hg.2.2)
  replace B1:=B1.keep kap (HPW.out.pa_ne (HPW.out.qs k _ HF.out)).2.2.2.2
  have HDR:¬ (g2 < w135.heap.size∧g2 ≠ b1∧(Value.slice va ps.length vc).ownBlock ≠ some g2):=fun hx=>hat.elim hx.2.2 fun h=>absurd hx.1 (Nat.not_lt.2 (Nat.le_trans K9.size h))
  clear B125
  clear B161
  clear hap kap hat K9
  have HC1:Hid (ps.length + 1 ≤ cap):=Lib.hid hc1;clear hc1;have HS8:=Lib.hid hs8;clear hs8;have HT8:Hid (cur8.toList.take (ps.length * 4)=ps.flatMap TP.cells):=Lib.hid ht8;clear ht8;have HC2:=Lib.hid hc2;clear hc2;have HB2:=Lib.hid hB2;clear hB2;have BG:=hb8;clear hb8
  refine dr_val (l':=(lb_ 13 255)) gq24_9_7 rfl (by kernel_rfl) (wanted_free rfl) Y K151 fun a164 e=>?_;clear Y
  clear h47 h50;have h51:=pt_ F e;replace F:=pu_ F e;replace h44:=so_ e h44;replace h48:=so_ e h48;replace h49:=so_ e h49;clear e
  have Y:∀ W,Keep (fun g=>g < w135.heap.size∧g ≠ b1∧(Value.slice va ps.length vc).ownBlock ≠ some g) w135 W→(execOp a164.eval oq24_9_8).run Tryz.prog W=.ok (.value (.pointer (some ⟨g2,ps.length * 4,none⟩))) W:=by intro W7 hS;have hlt9:(ps.length:Int) < ((ps.length + 1:Nat):Int):=(by omega);have hlt8:(ps.length:Int) < (ps.length:Int) + 1:=(by omega);unfold oq24_9_8;go_simp
  refine dt_ (i:=8) (l':=(lb_ 13 511)) gq24_9_8 rfl nsq24_9 (wanted_free rfl) K151 Y fun a165 e=>?_;clear Y
  clear h49;have h52:=pt_ F e;replace F:=pu_ F e;replace h44:=so_ e h44;replace h48:=so_ e h48;replace h51:=so_ e h51;clear e
  have Y:∀ W,Keep (fun g=>g < w135.heap.size∧g ≠ b1∧(Value.slice va ps.length vc).ownBlock ≠ some g) w135 W→(execOp a165.eval oq24_9_10).run Tryz.prog W=.ok (.value (.pointer (some ⟨b1,0,none⟩))) W:=by intro W7 hS;unfold oq24_9_10;go_simp
  refine dt_ (i:=10) (l':=(lb_ 13 1535)) gq24_9_10 rfl nsq24_9 (wanted_free rfl) K151 Y fun a166 e=>?_;clear Y
  clear h44;have h53:=pt_ F e;replace F:=pu_ F e;replace h48:=so_ e h48;replace h51:=so_ e h51;replace h52:=so_ e h52;clear e
  have Y:∀ W,Keep (fun g=>g < w135.heap.size∧g ≠ b1∧(Value.slice va ps.length vc).ownBlock ≠ some g) w135 W→(execOp a166.eval oq24_9_11).run Tryz.prog W=.ok (.value (.pointer (some ⟨b1,1,none⟩))) W:=by intro W7 hS;unfold oq24_9_11;go_simp
  refine dt_ (i:=11) (l':=(lb_ 13 3583)) gq24_9_11 rfl nsq24_9 (wanted_free rfl) K151 Y fun a167 e=>?_;clear Y
  clear h53;have h54:=pt_ F e;replace F:=pu_ F e;replace h48:=so_ e h48;replace h51:=so_ e h51;replace h52:=so_ e h52;clear e
  refine dr_two (i:=9) (k:=12) (fuel:=1) (by kernel_rfl) ?_ ?_
  ·
   obtain ⟨w168,Y,ks,hb9⟩:=ysr_ (o:=oq24_9_9) (k:=ps.length * 4) rfl h52 h48 BG (by rw [HS8.out];have:=HC1.out;omega)
   obtain ⟨hs9,ht9⟩:=row_set HS8.out HC1.out HT8.out (c0:=.int .i64 u.k) (c1:=.string (str u.nm)) (c2:=.int .i64 u.i) (c3:=.slice au u.args.length cu)
   replace KX:=KX.trans (ks.less fun g hg e=>HG2 (e ▸ hg));replace KU:=KU.trans (ks.less fun g hg e=>HAT.out.elim (fun h=>absurd (Nat.lt_of_lt_of_le (HOW g (e ▸ h)) HWL) (Nat.not_lt.2 hg.1)) (fun h=>absurd hg.2 (Nat.not_lt.2 (e ▸ h))))
   replace K151:=K151.trans (ks.less fun g hg e=>HDR (e ▸ hg));replace B1:=B1.keep ks HNB
   clear BG ks;have BG:=hb9;clear hb9;have HS9:=Lib.hid hs9;clear hs9;have HT9:=Lib.hid ht9;clear ht9
   refine dr_skip (l':=(lb_ 13 4095)) gq24_9_9 rfl (by kernel_rfl) (wanted_free rfl) Y K151 ?_;clear Y
   refine dr_only (i:=12) (fuel:=0) (by kernel_rfl) ?_
   have qq1:w168.cell? ⟨b1,1,none⟩=some (.slice va ps.length vc):=B1.cell 1;have z1:=B1.frozen 1
   have Y:(execOp a167.eval oq24_9_12).run Tryz.prog w168=.ok .skip (w168.setCell ⟨b1,1,none⟩ (.slice (some ⟨g2,0,none⟩) (ps.length + 1) cap)):=by unfold oq24_9_12;go_simp
   clear qq1 z1
   obtain ⟨w169,hw⟩:∃ x,x=w168.setCell ⟨b1,1,none⟩ (.slice (some ⟨g2,0,none⟩) (ps.length + 1) cap):=⟨_,rfl⟩;rw [← hw] at Y
   have hk:Keep (fun g=>g ≠ b1) w168 w169:=by rw [hw];exact (Keep.refl _ _).setCell (fun h=>h rfl) _
   replace B1:Blk w169 b1 72 #[.int .i64 m,.slice (some ⟨g2,0,none⟩) (ps.length + 1) cap]:=by rw [hw];exact B1.set_ 1 _
   replace KX:=KX.trans (hk.less fun g hg=>hg.2.1);replace KU:=KU.trans (hk.less fun g hg e=>absurd (Nat.lt_of_lt_of_le HB1W HWL) (Nat.not_lt.2 (e ▸ hg.1)));replace K151:=K151.trans (hk.less fun g hg=>hg.2.1);replace BG:=BG.keep hk HNB.symm;clear hw hk
   refine dr_skip (l':=(lb_ 13 8191)) gq24_9_12 rfl (by kernel_rfl) (wanted_free rfl) Y K151 ?_;clear Y
   refine dr_end (by kernel_rfl) ?_
   replace h6:=F.of h6;clear h7;clear h9;clear h33;clear h48;clear h51;clear h52;clear h54;have R:=F.r;clear F
   clear K151 EKX EKU EK9 D153 D154
   change (cq24_31).wp _ _ _ _
   refine wp_seq (x:=cq24_32) (y:=Code.ret) ?_
   change (Code.region 10 Oq24_10 false).wp _ _ _ _
   refine reg_in (l:=[0]) rfl ?_
   have F:FE_ _ [] a167 a167:=⟨R,Ag_.refl _⟩;clear R
   have Y:(execOp a167.eval oq24_10_0).run Tryz.prog w169=.ok (.value (.int .i64 0)) w169:=by unfold oq24_10_0;go_simp
   refine sv_ gq24_10_0 Y fun a170 e=>?_;clear Y
   clear h6;have h6:=pt_ F e;replace F:=pu_ F e;clear e
   refine st_end ?_
   have R:=F.r;clear F
   change (Code.ret).wp _ _ _ _
   refine wp_ret ?_
   change bodyPost Tryz.prog Tryz.f11 (fun e w'=>e=.returned (.int .i64 0)∧∃ (g2 cap LO HI:Nat) (au:Option Addr) (cu:Nat) (cur':Array Value) (w2:World),Blk w' b1 72 #[.int .i64 m,.slice (some ⟨g2,0,none⟩) (ps.length + 1) cap]∧Blk w' g2 28 cur'∧B ≤ g2∧((Value.slice va ps.length vc).ownBlock=some g2∨HI ≤ g2)∧ps.length + 1 ≤ cap∧cap ≤ maxLen∧cur'.size=cap * 4∧cur'.toList.take ((ps.length + 1) * 4)=ps.flatMap TP.cells ++ Tm.cells (t.tree.ren 1).tm au cu∧Fr 0 (fun _=>False) w2 LO HI (t.tree.ren 1).tm au cu∧W.heap.size ≤ LO∧HI=w2.heap.size∧Keep (fun g=>LO ≤ g∧g < HI) w2 w'∧Keep (fun g=>g < W.heap.size∧g ≠ b1∧(Value.slice va ps.length vc).ownBlock ≠ some g) W w') .ret a170 w169
   refine ret_one rfl R h6 ?_
   exact ⟨rfl,g2,cap,LO,w119.heap.size,au,cu,_,w119,B1,BG,HB2.out,HAT.out,HC1.out,HC2.out,HS9.out,by rw [HUE.out];exact HT9.out,by rw [HUE.out];exact HFR.out,HWL,rfl,KU,KX⟩
  ·
   have qq1:w8.cell? ⟨b1,1,none⟩=some (.slice va ps.length vc):=B1.cell 1;have z1:=B1.frozen 1
   have Y:(execOp a167.eval oq24_9_12).run Tryz.prog w8=.ok .skip (w8.setCell ⟨b1,1,none⟩ (.slice (some ⟨g2,0,none⟩) (ps.length + 1) cap)):=by unfold oq24_9_12;go_simp
   clear qq1 z1
   obtain ⟨w171,hw⟩:∃ x,x=w8.setCell ⟨b1,1,none⟩ (.slice (some ⟨g2,0,none⟩) (ps.length + 1) cap):=⟨_,rfl⟩;rw [← hw] at Y
   have hk:Keep (fun g=>g ≠ b1) w8 w171:=by rw [hw];exact (Keep.refl _ _).setCell (fun h=>h rfl) _
   replace B1:Blk w171 b1 72 #[.int .i64 m,.slice (some ⟨g2,0,none⟩) (ps.length + 1) cap]:=by rw [hw];exact B1.set_ 1 _
   replace KX:=KX.trans (hk.less fun g hg=>hg.2.1);replace KU:=KU.trans (hk.less fun g hg e=>absurd (Nat.lt_of_lt_of_le HB1W HWL) (Nat.not_lt.2 (e ▸ hg.1)));replace K151:=K151.trans (hk.less fun g hg=>hg.2.1);replace BG:=BG.keep hk HNB.symm;clear hw hk
   refine dr_skip (l':=(lb_ 13 7679)) gq24_9_12 rfl (by kernel_rfl) (wanted_free rfl) Y K151 ?_;clear Y
   refine dr_only (i:=9) (fuel:=0) (by kernel_rfl) ?_
   obtain ⟨w172,Y,ks,hb9⟩:=ysr_ (o:=oq24_9_9) (k:=ps.length * 4) rfl h52 h48 BG (by rw [HS8.out];have:=HC1.out;omega)
   obtain ⟨hs9,ht9⟩:=row_set HS8.out HC1.out HT8.out (c0:=.int .i64 u.k) (c1:=.string (str u.nm)) (c2:=.int .i64 u.i) (c3:=.slice au u.args.length cu)
   replace KX:=KX.trans (ks.less fun g hg e=>HG2 (e ▸ hg));replace KU:=KU.trans (ks.less fun g hg e=>HAT.out.elim (fun h=>absurd (Nat.lt_of_lt_of_le (HOW g (e ▸ h)) HWL) (Nat.not_lt.2 hg.1)) (fun h=>absurd hg.2 (Nat.not_lt.2 (e ▸ h))))
   replace K151:=K151.trans (ks.less fun g hg e=>HDR (e ▸ hg));replace B1:=B1.keep ks HNB
   clear BG ks;have BG:=hb9;clear hb9;have HS9:=Lib.hid hs9;clear hs9;have HT9:=Lib.hid ht9;clear ht9
   refine dr_skip (l':=(lb_ 13 8191)) gq24_9_9 rfl (by kernel_rfl) (wanted_free rfl) Y K151 ?_;clear Y
   refine dr_end (by kernel_rfl) ?_
   replace h6:=F.of h6;clear h7;clear h9;clear h33;clear h48;clear h51;clear h52;clear h54;have R:=F.r;clear F
   clear K151 EKX EKU EK9 D153 D154
   change (cq24_31).wp _ _ _ _
   refine wp_seq (x:=cq24_32) (y:=Code.ret) ?_
   change (Code.region 10 Oq24_10 false).wp _ _ _ _
   refine reg_in (l:=[0]) rfl ?_
   have F:FE_ _ [] a167 a167:=⟨R,Ag_.refl _⟩;clear R
   have Y:(execOp a167.eval oq24_10_0).run Tryz.prog w172=.ok (.value (.int .i64 0)) w172:=by unfold oq24_10_0;go_simp
   refine sv_ gq24_10_0 Y fun a173 e=>?_;clear Y
   clear h6;have h6:=pt_ F e;replace F:=pu_ F e;clear e
   refine st_end ?_
   have R:=F.r;clear F
   change (Code.ret).wp _ _ _ _
   refine wp_ret ?_
   change bodyPost Tryz.prog Tryz.f11 (fun e w'=>e=.returned (.int .i64 0)∧∃ (g2 cap LO HI:Nat) (au:Option Addr) (cu:Nat) (cur':Array Value) (w2:World),Blk w' b1 72 #[.int .i64 m,.slice (some ⟨g2,0,none⟩) (ps.length + 1) cap]∧Blk w' g2 28 cur'∧B ≤ g2∧((Value.slice va ps.length vc).ownBlock=some g2∨HI ≤ g2)∧ps.length + 1 ≤ cap∧cap ≤ maxLen∧cur'.size=cap * 4∧cur'.toList.take ((ps.length + 1) * 4)=ps.flatMap TP.cells ++ Tm.cells (t.tree.ren 1).tm au cu∧Fr 0 (fun _=>False) w2 LO HI (t.tree.ren 1).tm au cu∧W.heap.size ≤ LO∧HI=w2.heap.size∧Keep (fun g=>LO ≤ g∧g < HI) w2 w'∧Keep (fun g=>g < W.heap.size∧g ≠ b1∧(Value.slice va ps.length vc).ownBlock ≠ some g) W w') .ret a173 w172
   refine ret_one rfl R h6 ?_
   exact ⟨rfl,g2,cap,LO,w119.heap.size,au,cu,_,w119,B1,BG,HB2.out,HAT.out,HC1.out,HC2.out,HS9.out,by rw [HUE.out];exact HT9.out,by rw [HUE.out];exact HFR.out,HWL,rfl,KU,KX⟩
 ·
  have Y:(execOp a158.eval oq24_9_6).run Tryz.prog w152=.ok (.value (.slice (some ⟨w152.heap.size,0,none⟩) 1 1)) (w152.alloc (.cells #[.int .i64 0,.string (⟨#[]⟩),.int .i64 0,.slice none 0 0] 28)):=by unfold oq24_9_6;go_simp
  have B174:=Blk.new w152 28 #[.int .i64 0,.string (⟨#[]⟩),.int .i64 0,.slice none 0 0]
  obtain ⟨w175,hw⟩:∃ x,x=w152.alloc (.cells #[.int .i64 0,.string (⟨#[]⟩),.int .i64 0,.slice none 0 0] 28):=⟨_,rfl⟩;rw [← hw] at Y B174
  obtain ⟨b174,hb⟩:∃ x,x=w152.heap.size:=⟨_,rfl⟩;rw [← hb] at Y B174
  have Nb1_b174:=nb_ hb B1;replace B1:=ba_ hw B1;have Nb125_b174:=nb_ hb B125;replace B125:=ba_ hw B125;have LKX_b174:=lk_ hb KX;replace KX:=ka_ hw KX;have LKU_b174:=lk_ hb KU;replace KU:=ka_ hw KU;have LK9_b174:=lk_ hb K9;replace K9:=ka_ hw K9;have LK151_b174:=lk_ hb K151;replace K151:=ka_ hw K151;clear hw hb
  refine dr_val (l':=(lb_ 13 87)) gq24_9_6 rfl (by kernel_rfl) (wanted_free rfl) Y K151 fun a176 e=>?_;clear Y
  have h50:=pt_ F e;replace F:=pu_ F e;replace h44:=so_ e h44;replace h46:=so_ e h46;replace h48:=so_ e h48;clear e
  refine dr_only (i:=3) (fuel:=7) (by kernel_rfl) ?_
  have Y:(execOp a176.eval oq24_9_3).run Tryz.prog w175=.ok (.value (.slice va ps.length vc)) w175:=by have qq0:w175.cell? ⟨b1,0,none⟩=some (.int .i64 m):=B1.cell 0;have qq1:w175.cell? ⟨b1,1,none⟩=some (.slice va ps.length vc):=B1.cell 1;unfold oq24_9_3;go_simp
  refine dr_val (l':=(lb_ 13 95)) gq24_9_3 rfl (by kernel_rfl) (wanted_free rfl) Y K151 fun a177 e=>?_;clear Y
  clear h46;have h47:=pt_ F e;replace F:=pu_ F e;replace h44:=so_ e h44;replace h48:=so_ e h48;replace h50:=so_ e h50;clear e
  have Y:∀ W,Keep (fun g=>g < w135.heap.size∧g ≠ b1∧(Value.slice va ps.length vc).ownBlock ≠ some g) w135 W→(execOp a177.eval oq24_9_5).run Tryz.prog W=.ok (.value (.int .i64 ps.length)) W:=by intro W7 hS;unfold oq24_9_5;go_simp
  refine dt_ (i:=5) (l':=(lb_ 13 127)) gq24_9_5 rfl nsq24_9 (wanted_free rfl) K151 Y fun a178 e=>?_;clear Y
  have h49:=pt_ F e;replace F:=pu_ F e;replace h44:=so_ e h44;replace h47:=so_ e h47;replace h48:=so_ e h48;replace h50:=so_ e h50;clear e
  refine dr_only (i:=7) (fuel:=5) (by kernel_rfl) ?_
  obtain ⟨g2,cap,cur8,w8,hap,hB2,hat,hb8,hc1,hc2,hs8,ht8,kap⟩:=push_zero (ty:=oq24_9_7.type) (c2:=1) ((HPW.out.on K9).qs k _ HF.out).row (HPW.out.on K9).le B174 (by have h:=(HP.out.qs k _ HF.out).le;have h2:=(HP.out.qs k _ HF.out).m1;simp only at h h2;show ps.length < 8192;omega)
  have Y:(execOp a178.eval oq24_9_7).run Tryz.prog w175=.ok (.value (.slice (some ⟨g2,0,none⟩) (ps.length + 1) cap)) w8:=by
   unfold oq24_9_7 at hap ⊢;unfold execOp;simp only [resolve,invoke,builtin,Sem.run_bind,Sem.run_pure,Result.andThen_ok,List.map_toArray,List.map_cons,List.map_nil,eval_slot h47,eval_slot h50];rw [hap];rfl
  have HAT:Hid ((Value.slice va ps.length vc).ownBlock=some g2∨w119.heap.size ≤ g2):=Lib.hid (hat.imp id fun h=>Nat.le_trans (Nat.le_trans HVW K9.size) h)
  have HNB:b1 ≠ g2:=B1.ne_' kap hb8 (HPW.out.pa_ne (HPW.out.qs k _ HF.out)).2.2.2.2 (by decide)
  have HG2:¬ (g2 < W.heap.size∧g2 ≠ b1∧(Value.slice va ps.length vc).ownBlock ≠ some g2):=fun hx=>HAT.out.elim hx.2.2 fun h=>absurd hx.1 (Nat.not_lt.2 (Nat.le_trans (Nat.le_trans HWL HLU) h))
  replace KX:=KX.trans (kap.less fun g hg=>hg.2.2)
  replace KU:=KU.trans (kap.less fun g hg e=>absurd (Nat.lt_of_lt_of_le (HOW g e) HWL) (Nat.not_lt.2 hg.1))
  replace K151:=K151.trans (kap.less fun g hg=>hg.2.2)
  replace B1:=B1.keep kap (HPW.out.pa_ne (HPW.out.qs k _ HF.out)).2.2.2.2
  have HDR:¬ (g2 < w135.heap.size∧g2 ≠ b1∧(Value.slice va ps.length vc).ownBlock ≠ some g2):=fun hx=>hat.elim hx.2.2 fun h=>absurd hx.1 (Nat.not_lt.2 (Nat.le_trans K9.size h))
  clear B125
  clear B174
  clear hap kap hat K9
  have HC1:Hid (ps.length + 1 ≤ cap):=Lib.hid hc1;clear hc1;have HS8:=Lib.hid hs8;clear hs8;have HT8:Hid (cur8.toList.take (ps.length * 4)=ps.flatMap TP.cells):=Lib.hid ht8;clear ht8;have HC2:=Lib.hid hc2;clear hc2;have HB2:=Lib.hid hB2;clear hB2;have BG:=hb8;clear hb8
  refine dr_val (l':=(lb_ 13 255)) gq24_9_7 rfl (by kernel_rfl) (wanted_free rfl) Y K151 fun a179 e=>?_;clear Y
  clear h47 h50;have h51:=pt_ F e;replace F:=pu_ F e;replace h44:=so_ e h44;replace h48:=so_ e h48;replace h49:=so_ e h49;clear e
  have Y:∀ W,Keep (fun g=>g < w135.heap.size∧g ≠ b1∧(Value.slice va ps.length vc).ownBlock ≠ some g) w135 W→(execOp a179.eval oq24_9_8).run Tryz.prog W=.ok (.value (.pointer (some ⟨g2,ps.length * 4,none⟩))) W:=by intro W7 hS;have hlt9:(ps.length:Int) < ((ps.length + 1:Nat):Int):=(by omega);have hlt8:(ps.length:Int) < (ps.length:Int) + 1:=(by omega);unfold oq24_9_8;go_simp
  refine dt_ (i:=8) (l':=(lb_ 13 511)) gq24_9_8 rfl nsq24_9 (wanted_free rfl) K151 Y fun a180 e=>?_;clear Y
  clear h49;have h52:=pt_ F e;replace F:=pu_ F e;replace h44:=so_ e h44;replace h48:=so_ e h48;replace h51:=so_ e h51;clear e
  have Y:∀ W,Keep (fun g=>g < w135.heap.size∧g ≠ b1∧(Value.slice va ps.length vc).ownBlock ≠ some g) w135 W→(execOp a180.eval oq24_9_10).run Tryz.prog W=.ok (.value (.pointer (some ⟨b1,0,none⟩))) W:=by intro W7 hS;unfold oq24_9_10;go_simp
  refine dt_ (i:=10) (l':=(lb_ 13 1535)) gq24_9_10 rfl nsq24_9 (wanted_free rfl) K151 Y fun a181 e=>?_;clear Y
  clear h44;have h53:=pt_ F e;replace F:=pu_ F e;replace h48:=so_ e h48;replace h51:=so_ e h51;replace h52:=so_ e h52;clear e
  have Y:∀ W,Keep (fun g=>g < w135.heap.size∧g ≠ b1∧(Value.slice va ps.length vc).ownBlock ≠ some g) w135 W→(execOp a181.eval oq24_9_11).run Tryz.prog W=.ok (.value (.pointer (some ⟨b1,1,none⟩))) W:=by intro W7 hS;unfold oq24_9_11;go_simp
  refine dt_ (i:=11) (l':=(lb_ 13 3583)) gq24_9_11 rfl nsq24_9 (wanted_free rfl) K151 Y fun a182 e=>?_;clear Y
  clear h53;have h54:=pt_ F e;replace F:=pu_ F e;replace h48:=so_ e h48;replace h51:=so_ e h51;replace h52:=so_ e h52;clear e
  refine dr_two (i:=9) (k:=12) (fuel:=1) (by kernel_rfl) ?_ ?_
  ·
   obtain ⟨w183,Y,ks,hb9⟩:=ysr_ (o:=oq24_9_9) (k:=ps.length * 4) rfl h52 h48 BG (by rw [HS8.out];have:=HC1.out;omega)
   obtain ⟨hs9,ht9⟩:=row_set HS8.out HC1.out HT8.out (c0:=.int .i64 u.k) (c1:=.string (str u.nm)) (c2:=.int .i64 u.i) (c3:=.slice au u.args.length cu)
   replace KX:=KX.trans (ks.less fun g hg e=>HG2 (e ▸ hg));replace KU:=KU.trans (ks.less fun g hg e=>HAT.out.elim (fun h=>absurd (Nat.lt_of_lt_of_le (HOW g (e ▸ h)) HWL) (Nat.not_lt.2 hg.1)) (fun h=>absurd hg.2 (Nat.not_lt.2 (e ▸ h))))
   replace K151:=K151.trans (ks.less fun g hg e=>HDR (e ▸ hg));replace B1:=B1.keep ks HNB
   clear BG ks;have BG:=hb9;clear hb9;have HS9:=Lib.hid hs9;clear hs9;have HT9:=Lib.hid ht9;clear ht9
   refine dr_skip (l':=(lb_ 13 4095)) gq24_9_9 rfl (by kernel_rfl) (wanted_free rfl) Y K151 ?_;clear Y
   refine dr_only (i:=12) (fuel:=0) (by kernel_rfl) ?_
   have qq1:w183.cell? ⟨b1,1,none⟩=some (.slice va ps.length vc):=B1.cell 1;have z1:=B1.frozen 1
   have Y:(execOp a182.eval oq24_9_12).run Tryz.prog w183=.ok .skip (w183.setCell ⟨b1,1,none⟩ (.slice (some ⟨g2,0,none⟩) (ps.length + 1) cap)):=by unfold oq24_9_12;go_simp
   clear qq1 z1
   obtain ⟨w184,hw⟩:∃ x,x=w183.setCell ⟨b1,1,none⟩ (.slice (some ⟨g2,0,none⟩) (ps.length + 1) cap):=⟨_,rfl⟩;rw [← hw] at Y
   have hk:Keep (fun g=>g ≠ b1) w183 w184:=by rw [hw];exact (Keep.refl _ _).setCell (fun h=>h rfl) _
   replace B1:Blk w184 b1 72 #[.int .i64 m,.slice (some ⟨g2,0,none⟩) (ps.length + 1) cap]:=by rw [hw];exact B1.set_ 1 _
   replace KX:=KX.trans (hk.less fun g hg=>hg.2.1);replace KU:=KU.trans (hk.less fun g hg e=>absurd (Nat.lt_of_lt_of_le HB1W HWL) (Nat.not_lt.2 (e ▸ hg.1)));replace K151:=K151.trans (hk.less fun g hg=>hg.2.1);replace BG:=BG.keep hk HNB.symm;clear hw hk
   refine dr_skip (l':=(lb_ 13 8191)) gq24_9_12 rfl (by kernel_rfl) (wanted_free rfl) Y K151 ?_;clear Y
   refine dr_end (by kernel_rfl) ?_
   replace h6:=F.of h6;clear h7;clear h9;clear h33;clear h48;clear h51;clear h52;clear h54;have R:=F.r;clear F
   clear K151 EKX EKU EK9 D153 D154
   change (cq24_31).wp _ _ _ _
   refine wp_seq (x:=cq24_32) (y:=Code.ret) ?_
   change (Code.region 10 Oq24_10 false).wp _ _ _ _
   refine reg_in (l:=[0]) rfl ?_
   have F:FE_ _ [] a182 a182:=⟨R,Ag_.refl _⟩;clear R
   have Y:(execOp a182.eval oq24_10_0).run Tryz.prog w184=.ok (.value (.int .i64 0)) w184:=by unfold oq24_10_0;go_simp
   refine sv_ gq24_10_0 Y fun a185 e=>?_;clear Y
   clear h6;have h6:=pt_ F e;replace F:=pu_ F e;clear e
   refine st_end ?_
   have R:=F.r;clear F
   change (Code.ret).wp _ _ _ _
   refine wp_ret ?_
   change bodyPost Tryz.prog Tryz.f11 (fun e w'=>e=.returned (.int .i64 0)∧∃ (g2 cap LO HI:Nat) (au:Option Addr) (cu:Nat) (cur':Array Value) (w2:World),Blk w' b1 72 #[.int .i64 m,.slice (some ⟨g2,0,none⟩) (ps.length + 1) cap]∧Blk w' g2 28 cur'∧B ≤ g2∧((Value.slice va ps.length vc).ownBlock=some g2∨HI ≤ g2)∧ps.length + 1 ≤ cap∧cap ≤ maxLen∧cur'.size=cap * 4∧cur'.toList.take ((ps.length + 1) * 4)=ps.flatMap TP.cells ++ Tm.cells (t.tree.ren 1).tm au cu∧Fr 0 (fun _=>False) w2 LO HI (t.tree.ren 1).tm au cu∧W.heap.size ≤ LO∧HI=w2.heap.size∧Keep (fun g=>LO ≤ g∧g < HI) w2 w'∧Keep (fun g=>g < W.heap.size∧g ≠ b1∧(Value.slice va ps.length vc).ownBlock ≠ some g) W w') .ret a185 w184
   refine ret_one rfl R h6 ?_
   exact ⟨rfl,g2,cap,LO,w119.heap.size,au,cu,_,w119,B1,BG,HB2.out,HAT.out,HC1.out,HC2.out,HS9.out,by rw [HUE.out];exact HT9.out,by rw [HUE.out];exact HFR.out,HWL,rfl,KU,KX⟩
  ·
   have qq1:w8.cell? ⟨b1,1,none⟩=some (.slice va ps.length vc):=B1.cell 1;have z1:=B1.frozen 1
   have Y:(execOp a182.eval oq24_9_12).run Tryz.prog w8=.ok .skip (w8.setCell ⟨b1,1,none⟩ (.slice (some ⟨g2,0,none⟩) (ps.length + 1) cap)):=by unfold oq24_9_12;go_simp
   clear qq1 z1
   obtain ⟨w186,hw⟩:∃ x,x=w8.setCell ⟨b1,1,none⟩ (.slice (some ⟨g2,0,none⟩) (ps.length + 1) cap):=⟨_,rfl⟩;rw [← hw] at Y
   have hk:Keep (fun g=>g ≠ b1) w8 w186:=by rw [hw];exact (Keep.refl _ _).setCell (fun h=>h rfl) _
   replace B1:Blk w186 b1 72 #[.int .i64 m,.slice (some ⟨g2,0,none⟩) (ps.length + 1) cap]:=by rw [hw];exact B1.set_ 1 _
   replace KX:=KX.trans (hk.less fun g hg=>hg.2.1);replace KU:=KU.trans (hk.less fun g hg e=>absurd (Nat.lt_of_lt_of_le HB1W HWL) (Nat.not_lt.2 (e ▸ hg.1)));replace K151:=K151.trans (hk.less fun g hg=>hg.2.1);replace BG:=BG.keep hk HNB.symm;clear hw hk
   refine dr_skip (l':=(lb_ 13 7679)) gq24_9_12 rfl (by kernel_rfl) (wanted_free rfl) Y K151 ?_;clear Y
   refine dr_only (i:=9) (fuel:=0) (by kernel_rfl) ?_
   obtain ⟨w187,Y,ks,hb9⟩:=ysr_ (o:=oq24_9_9) (k:=ps.length * 4) rfl h52 h48 BG (by rw [HS8.out];have:=HC1.out;omega)
   obtain ⟨hs9,ht9⟩:=row_set HS8.out HC1.out HT8.out (c0:=.int .i64 u.k) (c1:=.string (str u.nm)) (c2:=.int .i64 u.i) (c3:=.slice au u.args.length cu)
   replace KX:=KX.trans (ks.less fun g hg e=>HG2 (e ▸ hg));replace KU:=KU.trans (ks.less fun g hg e=>HAT.out.elim (fun h=>absurd (Nat.lt_of_lt_of_le (HOW g (e ▸ h)) HWL) (Nat.not_lt.2 hg.1)) (fun h=>absurd hg.2 (Nat.not_lt.2 (e ▸ h))))
   replace K151:=K151.trans (ks.less fun g hg e=>HDR (e ▸ hg));replace B1:=B1.keep ks HNB
   clear BG ks;have BG:=hb9;clear hb9;have HS9:=Lib.hid hs9;clear hs9;have HT9:=Lib.hid ht9;clear ht9
   refine dr_skip (l':=(lb_ 13 8191)) gq24_9_9 rfl (by kernel_rfl) (wanted_free rfl) Y K151 ?_;clear Y
   refine dr_end (by kernel_rfl) ?_
   replace h6:=F.of h6;clear h7;clear h9;clear h33;clear h48;clear h51;clear h52;clear h54;have R:=F.r;clear F
   clear K151 EKX EKU EK9 D153 D154
   change (cq24_31).wp _ _ _ _
   refine wp_seq (x:=cq24_32) (y:=Code.ret) ?_
   change (Code.region 10 Oq24_10 false).wp _ _ _ _
   refine reg_in (l:=[0]) rfl ?_
   have F:FE_ _ [] a182 a182:=⟨R,Ag_.refl _⟩;clear R
   have Y:(execOp a182.eval oq24_10_0).run Tryz.prog w187=.ok (.value (.int .i64 0)) w187:=by unfold oq24_10_0;go_simp
   refine sv_ gq24_10_0 Y fun a188 e=>?_;clear Y
   clear h6;have h6:=pt_ F e;replace F:=pu_ F e;clear e
   refine st_end ?_
   have R:=F.r;clear F
   change (Code.ret).wp _ _ _ _
   refine wp_ret ?_
   change bodyPost Tryz.prog Tryz.f11 (fun e w'=>e=.returned (.int .i64 0)∧∃ (g2 cap LO HI:Nat) (au:Option Addr) (cu:Nat) (cur':Array Value) (w2:World),Blk w' b1 72 #[.int .i64 m,.slice (some ⟨g2,0,none⟩) (ps.length + 1) cap]∧Blk w' g2 28 cur'∧B ≤ g2∧((Value.slice va ps.length vc).ownBlock=some g2∨HI ≤ g2)∧ps.length + 1 ≤ cap∧cap ≤ maxLen∧cur'.size=cap * 4∧cur'.toList.take ((ps.length + 1) * 4)=ps.flatMap TP.cells ++ Tm.cells (t.tree.ren 1).tm au cu∧Fr 0 (fun _=>False) w2 LO HI (t.tree.ren 1).tm au cu∧W.heap.size ≤ LO∧HI=w2.heap.size∧Keep (fun g=>LO ≤ g∧g < HI) w2 w'∧Keep (fun g=>g < W.heap.size∧g ≠ b1∧(Value.slice va ps.length vc).ownBlock ≠ some g) W w') .ret a188 w187
   refine ret_one rfl R h6 ?_
   exact ⟨rfl,g2,cap,LO,w119.heap.size,au,cu,_,w119,B1,BG,HB2.out,HAT.out,HC1.out,HC2.out,HS9.out,by rw [HUE.out];exact HT9.out,by rw [HUE.out];exact HFR.out,HWL,rfl,KU,KX⟩
section
variable {W:World} {B b0 mb n:Nat} {R:Nat→Prop} {made k er:Int} {f:Int→Option Qu} {t:Tm} {a:Option Addr} {c:Nat} {q:Qu}
def NoSend (f:Int→Option Qu) (k:Int) (t:Tm) (er:Int):Prop:=(f k=none∧er=140)∨∃ q,f k=some q∧((t.right=false∧er=70)∨(t.right=true∧er=141∧q.m ≤ (q.ps.length:Int)))
theorem send_no (h:PoAt B R W b0 mb made f n) (hk:(ik k).wf=true) (hT:TmAt W.heap.size W t a c) (hc:NoSend f k t er):Calls Tryz.prog 11 #[.pointer (some ⟨b0,0,none⟩),.int .i64 k,tv t a c] W fun e w'=>e=.returned (.int .i64 er)∧Keep (fun g=>g < W.heap.size) W w':=by
  refine enter_sx Tryz.func11 bodyq24 rfl (by show (3:Nat) ≤ 55;decide) fun f0 R0 hs=>?_
  rcases hc with ⟨hf,rfl⟩ | ⟨q,hf,hr⟩
  · exact send_a R0 (hs 0 _ rfl) (hs 1 _ rfl) (hs 2 _ rfl) (Keep.refl _ W) h.head (Lib.hid h) (Lib.hid hk) (Lib.hid hT) (Lib.hid hf)
  · obtain ⟨va,vc,e⟩:=h.cut hf
    rw [e] at hf hr
    have hq:=h.qs k _ hf
    rcases hr with ⟨hr,rfl⟩ | ⟨hr,rfl,hn⟩
    · exact send_b R0 (hs 0 _ rfl) (hs 1 _ rfl) (hs 2 _ rfl) (Keep.refl _ W) h.head (Lib.hid h) (Lib.hid hk) hq.box (Lib.hid hf) (Lib.hid hT) (Lib.hid hr)
    · exact send_c R0 (hs 0 _ rfl) (hs 1 _ rfl) (hs 2 _ rfl) (Keep.refl _ W) h.head (Lib.hid h) (Lib.hid hk) hq.box (Lib.hid hf) (Lib.hid hT) (Lib.hid hr) (Lib.hid hn)
theorem send_yes (h:PoAt B R W b0 mb made f n) (hk:(ik k).wf=true) (hT:TmAt W.heap.size W t a c) (hf:f k=some q) (hr:t.right=true) (hm:(q.ps.length:Int) < q.m):Calls Tryz.prog 11 #[.pointer (some ⟨b0,0,none⟩),.int .i64 k,tv t a c] W fun e w'=>∃ (R':Nat→Prop) (v':Value) (au:Option Addr) (cu:Nat),e=.returned (.int .i64 0)∧PoAt B R' w' b0 mb made (fun x=>if x=k then some ⟨q.g,q.m,v',q.ps ++ [((t.tree.ren 1).tm,au,cu)]⟩ else f x) n∧(∀ g,(R' g→R g∨W.heap.size ≤ g)∧(R g→R' g))∧(∀ b,v'.ownBlock=some b→q.v.ownBlock=some b∨W.heap.size ≤ b)∧Keep (fun g=>g < W.heap.size∧g ≠ q.g∧q.v.ownBlock ≠ some g) W w':=by
  obtain ⟨va,vc,e⟩:=h.cut hf
  have hq0:=h.qs k q hf
  rcases q with ⟨b1,m,v,ps⟩
  simp only at e
  injection e with _ _ e2
  subst e2
  refine Calls.mono (enter_sx Tryz.func11 bodyq24 rfl (by show (3:Nat) ≤ 55;decide) fun f0 R0 hs=>send_d R0 (hs 0 _ rfl) (hs 1 _ rfl) (hs 2 _ rfl) (Keep.refl _ W) h.head (Lib.hid h) (Lib.hid hk) hq0.box (Lib.hid hf) (Lib.hid hT) (Lib.hid hr) (Lib.hid hm)) ?_
  rintro e9 w' ⟨rfl,g2,cap,LO,HI,au,cu,cur',w2,hbx,hbg,hB2,hat,hc1,hc2,hs9,ht9,hfr,hlo,rfl,ku,kx⟩
  have hown:∀ b,(Value.slice va ps.length vc).ownBlock=some b→b < W.heap.size:=fun b hb=>(h.rb b (hq0.rv b hb)).2
  have hLH:LO ≤ w2.heap.size:=hfr.le
  have hat2:(Value.slice va ps.length vc).ownBlock=some g2∨W.heap.size ≤ g2:=hat.imp id fun h=>Nat.le_trans (Nat.le_trans hlo hLH) h
  have hR:∀ b,(R b∨b=g2)→R b∨W.heap.size ≤ b:=fun b hb=>hb.elim .inl fun e=>hat2.elim (fun h=>.inl (e ▸ hq0.rv g2 h)) (fun h=>.inr (e ▸ h))
  have kR:Keep (fun g=>¬ R g) W w':=kx.at_ fun g hl hg=>⟨hl,fun e=>hg (e ▸ hq0.rg),fun e=>hg (hq0.rv g e)⟩
  refine ⟨fun b=>R b∨b=g2,.slice (some ⟨g2,0,none⟩) (ps ++ [((t.tree.ren 1).tm,au,cu)]).length cap,au,cu,rfl,h.put hf (kx.at_ fun g hl hg=>⟨hl,hg.1,hg.2⟩) rfl (fun _ h=>.inl h) hR ?_ ?_ ⟨?_,?_,?_,.inl hq0.rg,?_,hq0.m1,?_,?_⟩,fun g=>⟨hR g,fun h=>.inl h⟩,fun b hb=>by cases hb;exact hat2,kx.less fun g hg=>⟨hg.1,hg.2.1,hg.2.2⟩⟩
  · exact fun b hb=>hb.elim (fun h1=>Nat.lt_of_lt_of_le (h.rb b h1).2 kx.size) fun e=>e ▸ hbg.lt
  · intro b hb;cases hb;exact hat2
  · show Blk w' b1 72 #[.int .i64 m,.slice (some ⟨g2,0,none⟩) (ps ++ [((t.tree.ren 1).tm,au,cu)]).length cap]
    rw [List.length_append];exact hbx
  · refine cur_row hbg hB2 (by rw [List.length_append];exact hc1) hc2 hs9 ?_
    rw [List.length_append,List.flatMap_append]
    simpa [TP.cells] using ht9
  · intro p hp
    rcases List.mem_append.1 hp with hp | hp
    · have h1:=(hq0.fr p hp).keepR kR fun g hg=>by rcases hg with hg | hg;omega;exact hg.2
      exact (h1.growR (Nat.le_refl _) fun g _ hg=>hR g hg).up kx.size (Nat.le_refl _)
    · rw [List.mem_singleton.1 hp]
      have h1:=hfr.keepR (ku.at_ (Y:=fun g=>LO ≤ g) fun g h1 h2=>⟨h2,h1⟩) fun g hg=>by rcases hg with hg | hg;omega;exact hg.1
      refine (h1.growR (Nat.le_refl _) fun g hg hx=>.inr ?_).up ku.size (Nat.le_trans h.le hlo)
      rcases hx with hx | hx
      · have:=(h.rb g hx).2;omega
      · subst hx;exact hat.elim (fun e=>by have:=hown _ e;omega) id
  · intro b hb;cases hb;exact .inr rfl
  · show ((ps ++ [((t.tree.ren 1).tm,au,cu)]).length:Int) ≤ m
    rw [List.length_append];simp only at hm;simp only [List.length_cons,List.length_nil];omega
  · intro p hp
    rcases List.mem_append.1 hp with hp | hp
    · exact hq0.ren p hp
    · rw [List.mem_singleton.1 hp];exact msg_of hr
end
end Go.Proofs.YtnfcbalppecnfaaGreat
