/-
  The law of terms put in: walked with letter frames. No condition but where the terms lie.
-/
import Derived.Test.YtjinmnekfhekpaaQTp11
import Derived.Test.YtjinmnekfhekpaaQMO
namespace Go.Proofs.Ytjinmnekfhekpaa
open Go.RowKit Go.Maps
set_option linter.unusedVariables false
set_option linter.unusedSimpArgs false
theorem tame_more {bs:List BP} {i:Nat} {q:BP} (h:∀ r ∈ bs.take i,r.2.1.ns ≤ 100) (hq:bs[i]? = some q) (hx:q.2.1.ns ≤ 100):∀ r ∈ bs.take (i + 1),r.2.1.ns ≤ 100:=fun r hr=>by
  obtain ⟨hi,hg⟩:=List.getElem?_eq_some_iff.1 hq;rw [List.take_succ_eq_append_getElem hi] at hr;rcases List.mem_append.1 hr with hr | hr
  · exact h r hr
  · rw [List.mem_singleton.1 hr,hg];exact hx
theorem cp_right9 {t:Tm} (h:t.right=true):(mapT cpL t).right=true∧(mapT cpL t).tree=t.tree:=by
  have hR:=right_of.1 h;rw [cp_tree9 t hR.1];exact ⟨right_of.2 (t.tree.tm_right.2 (Tm.tree_right hR)),t.tree.tm_tree⟩
theorem it_eq {l u:Tm} (hl:l.right=true) (hu:u.right=true) (he:l.tree=u.tree):(itV l).1=(itF u.nd u.tree).1.map T.tm∧(itV l).2=(itF u.nd u.tree).2.tm:=by
  unfold itV;rw [if_pos hl];unfold T.items;rw [he,(Tm.tree_ns (right_of.1 hu).1).2.1];exact ⟨rfl,rfl⟩
theorem it_end {l u:Tm} (hl:l.right=true) (hu:u.right=true) (he:l.tree=u.tree):(itV l).2.right=true∧(itV l).2.tree=(itF u.nd u.tree).2:=by
  rw [(it_eq hl hu he).2];have h:=(itF_right u.nd u.tree (Tm.tree_right (right_of.1 hu))).2;exact ⟨right_of.2 ((T.tm_right _).2 h),T.tm_tree _⟩
theorem it_len {l u:Tm} {qs rs:List TP} (hl:l.right=true) (hu:u.right=true) (he:l.tree=u.tree) (h1:qs.map (·.1)=(itV l).1) (h2:rs.map (fun p=>p.1.tree)=(itF u.nd u.tree).1):qs.length=rs.length:=by
  rw [(it_eq hl hu he).1,← h2] at h1;have:=congrArg List.length h1;simpa using this
theorem it_same {l u:Tm} {qs rs:List TP} (hl:l.right=true) (hu:u.right=true) (he:l.tree=u.tree) (h1:qs.map (·.1)=(itV l).1) (h2:rs.map (fun p=>p.1.tree)=(itF u.nd u.tree).1) (h3:∀ p ∈ rs,p.1.right=true):∀ (j:Nat) (p q:TP),qs[j]? = some p→rs[j]? = some q→p.1.right=true∧q.1.right=true∧p.1.tree=q.1.tree:=fun j p q hp hq=>by
  rw [(it_eq hl hu he).1,← h2] at h1;have hj:=congrArg (fun z=>z[j]?) h1;simp only [List.getElem?_map,hp,hq,Option.map_some,Option.some.injEq] at hj;have hr:=h3 q (List.mem_of_getElem? hq);refine ⟨?_,hr,?_⟩
  · rw [hj];exact right_of.2 ((T.tm_right _).2 (Tm.tree_right (right_of.1 hr)))
  · rw [hj,T.tm_tree]
def o6_0_0:Oper:=⟨some 4,.box 24 (.tmp 0),0, "law.go:174",#[],none⟩
def o6_0_1:Oper:=⟨some 8,.assign (.const (.bool false)),4, "law.go:174",#[],none⟩
def O6_0:Array Oper:=#[o6_0_0,o6_0_1]
def c6_1:Code:=.region 0 O6_0 false
def o6_1_0:Oper:=⟨some 30,.call { callee:=.value (.func 6),args:=#[],argTypes:=#[] },4, "law.go:175",#[],none⟩
def o6_1_1:Oper:=⟨some 31,.unOp .not 4 (.tmp 30),4, "law.go:175",#[ed_ 0],none⟩
def O6_1:Array Oper:=#[o6_1_0,o6_1_1]
def c6_4:Code:=.region 1 O6_1 false
def o6_2_0:Oper:=⟨some 8,.assign (.const (.bool false)),4, "law.go:176",#[],none⟩
def O6_2:Array Oper:=#[o6_2_0]
def c6_7:Code:=.region 2 O6_2 false
def c6_6:Code:=.seq c6_7 Code.ret
def c6_5:Code:=.cond (Operand.tmp 31) c6_6 Code.skip
def c6_3:Code:=.seq c6_4 c6_5
def o6_3_0:Oper:=⟨some 32,.load 24 (.tmp 4),24, "law.go:178",#[],none⟩
def o6_3_1:Oper:=⟨some 33,.buildSlice 22 1 #[(0,.tmp 32)],22, "law.go:178",#[ed_ 0],none⟩
def o6_3_2:Oper:=⟨some 34,.call { callee:=.value (.func 7),args:=#[.tmp 33],argTypes:=#[22] },4, "law.go:178",#[ed_ 1],none⟩
def o6_3_3:Oper:=⟨some 35,.unOp .not 4 (.tmp 34),4, "law.go:178",#[ed_ 2],none⟩
def o6_3_4:Oper:=⟨some 36,.move (.tmp 35),4, "law.go:178",#[ed_ 3,ec_ 2],none⟩
def o6_3_5:Oper:=⟨some 37,.move (.tmp 1),25, "law.go:178",#[eg_ 4],some (4,false)⟩
def o6_3_6:Oper:=⟨some 38,.call { callee:=.builtin .len,args:=#[.tmp 37],argTypes:=#[25] },3, "law.go:178",#[ed_ 5,eg_ 4],some (4,false)⟩
def o6_3_7:Oper:=⟨some 39,.binOp .gtr 3 (.tmp 38) (.const (.int .i64 40)) 3,4, "law.go:178",#[ed_ 6,eg_ 4],some (4,false)⟩
def o6_3_8:Oper:=⟨some 40,.pick (.tmp 36) (.const (.bool true)) (.tmp 39),4, "law.go:178",#[ed_ 4,ed_ 7],none⟩
def o6_3_9:Oper:=⟨some 41,.move (.tmp 40),4, "law.go:178",#[ed_ 8,ec_ 4],none⟩
def o6_3_10:Oper:=⟨some 42,.move (.tmp 3),22, "law.go:178",#[eg_ 9],some (9,false)⟩
def o6_3_11:Oper:=⟨some 43,.call { callee:=.builtin .len,args:=#[.tmp 42],argTypes:=#[22] },3, "law.go:178",#[ed_ 10,eg_ 9],some (9,false)⟩
def o6_3_12:Oper:=⟨some 44,.binOp .gtr 3 (.tmp 43) (.const (.int .i64 120)) 3,4, "law.go:178",#[ed_ 11,eg_ 9],some (9,false)⟩
def o6_3_13:Oper:=⟨some 45,.pick (.tmp 41) (.const (.bool true)) (.tmp 44),4, "law.go:178",#[ed_ 9,ed_ 12],none⟩
def O6_3:Array Oper:=#[o6_3_0,o6_3_1,o6_3_2,o6_3_3,o6_3_4,o6_3_5,o6_3_6,o6_3_7,o6_3_8,o6_3_9,o6_3_10,o6_3_11,o6_3_12,o6_3_13]
def c6_12:Code:=.region 3 O6_3 false
def o6_4_0:Oper:=⟨some 8,.assign (.const (.bool true)),4, "law.go:179",#[],none⟩
def O6_4:Array Oper:=#[o6_4_0]
def c6_15:Code:=.region 4 O6_4 false
def c6_14:Code:=.seq c6_15 Code.ret
def c6_13:Code:=.cond (Operand.tmp 45) c6_14 Code.skip
def c6_11:Code:=.seq c6_12 c6_13
def o6_5_0:Oper:=⟨some 46,.move (.tmp 1),25, "law.go:181",#[],none⟩
def o6_5_1:Oper:=⟨some 47,.call { callee:=.builtin .len,args:=#[.tmp 46],argTypes:=#[25] },3, "law.go:181",#[ed_ 0],none⟩
def o6_5_2:Oper:=⟨some 48,.move (.const (.int .i64 0)),3, "law.go:181",#[],none⟩
def O6_5:Array Oper:=#[o6_5_0,o6_5_1,o6_5_2]
def c6_20:Code:=.region 5 O6_5 false
def o6_6_0:Oper:=⟨some 49,.binOp .lss 3 (.tmp 48) (.tmp 47) 3,0, "law.go:181",#[],none⟩
def O6_6:Array Oper:=#[o6_6_0]
def c6_24:Code:=.region 6 O6_6 false
def c6_28:Code:=.exit 0
def c6_26:Code:=.cond (Operand.tmp 49) Code.skip c6_28
def o6_7_0:Oper:=⟨some 50,.indexAddr 25 (.tmp 46) (.tmp 48),0, "law.go:181",#[],none⟩
def o6_7_1:Oper:=⟨some 51,.load 29 (.tmp 50),29, "law.go:181",#[ed_ 0],none⟩
def o6_7_2:Oper:=⟨some 10,.alloc 29,0, "law.go:181",#[],none⟩
def o6_7_3:Oper:=⟨none,.store 29 (.tmp 10) (.tmp 51),0, "law.go:181",#[ed_ 2,ed_ 1,ep_ 0,ep_ 1,ep_ 2],none⟩
def O6_7:Array Oper:=#[o6_7_0,o6_7_1,o6_7_2,o6_7_3]
def c6_32:Code:=.region 7 O6_7 false
def o6_8_0:Oper:=⟨some 52,.fieldAddr 29 (.tmp 10) 1,0, "law.go:182",#[],none⟩
def o6_8_1:Oper:=⟨some 53,.load 24 (.tmp 52),24, "law.go:182",#[ed_ 0],none⟩
def o6_8_2:Oper:=⟨some 54,.buildSlice 22 1 #[(0,.tmp 53)],22, "law.go:182",#[ed_ 1],none⟩
def o6_8_3:Oper:=⟨some 55,.call { callee:=.value (.func 7),args:=#[.tmp 54],argTypes:=#[22] },4, "law.go:182",#[ed_ 2],none⟩
def o6_8_4:Oper:=⟨some 56,.unOp .not 4 (.tmp 55),4, "law.go:182",#[ed_ 3],none⟩
def O6_8:Array Oper:=#[o6_8_0,o6_8_1,o6_8_2,o6_8_3,o6_8_4]
def c6_34:Code:=.region 8 O6_8 false
def o6_9_0:Oper:=⟨some 8,.assign (.const (.bool true)),4, "law.go:183",#[],none⟩
def O6_9:Array Oper:=#[o6_9_0]
def c6_37:Code:=.region 9 O6_9 false
def c6_36:Code:=.seq c6_37 Code.ret
def c6_35:Code:=.cond (Operand.tmp 56) c6_36 Code.skip
def c6_33:Code:=.seq c6_34 c6_35
def c6_31:Code:=.seq c6_32 c6_33
def c6_30:Code:=.block 1 c6_31
def o6_10_0:Oper:=⟨some 57,.binOp .add 3 (.tmp 48) (.const (.int .i64 1)) 3,3, "law.go:181",#[],none⟩
def o6_10_1:Oper:=⟨some 48,.move (.tmp 57),3, "law.go:181",#[ed_ 0],none⟩
def O6_10:Array Oper:=#[o6_10_0,o6_10_1]
def c6_40:Code:=.region 10 O6_10 false
def c6_29:Code:=.seq c6_30 c6_40
def c6_25:Code:=.seq c6_26 c6_29
def c6_23:Code:=.seq c6_24 c6_25
def c6_22:Code:=.loop c6_23
def c6_21:Code:=.block 0 c6_22
def c6_19:Code:=.seq c6_20 c6_21
def o6_11_0:Oper:=⟨some 58,.load 24 (.tmp 4),24, "law.go:186",#[],none⟩
def o6_11_1:Oper:=⟨some 59,.call { callee:=.value (.func 8),args:=#[.tmp 58],argTypes:=#[24] },24, "law.go:186",#[ed_ 0],none⟩
def o6_11_2:Oper:=⟨some 11,.alloc 24,0, "law.go:186",#[],none⟩
def o6_11_3:Oper:=⟨none,.store 24 (.tmp 11) (.tmp 59),0, "law.go:186",#[ed_ 2,ed_ 1,ec_ 1,ep_ 0,ep_ 1,ep_ 2],none⟩
def O6_11:Array Oper:=#[o6_11_0,o6_11_1,o6_11_2,o6_11_3]
def c6_42:Code:=.region 11 O6_11 false
def o6_12_0:Oper:=⟨some 61,.load 24 (.tmp 4),24, "law.go:187",#[],none⟩
def o6_12_1:Oper:=⟨some 62,.move (.tmp 1),25, "law.go:187",#[],none⟩
def o6_12_2:Oper:=⟨some 63,.call { callee:=.value (.func 9),args:=#[.tmp 61,.tmp 62],argTypes:=#[24,25] },32, "law.go:187",#[ed_ 0,ed_ 1],none⟩
def o6_12_3:Oper:=⟨some 60,.move (.tmp 63),32, "law.go:187",#[ed_ 2],none⟩
def o6_12_4:Oper:=⟨some 64,.extract (.tmp 60) 0,24, "law.go:187",#[ed_ 3],none⟩
def o6_12_5:Oper:=⟨some 65,.extract (.tmp 60) 1,31, "law.go:187",#[ed_ 3,{ on:=7,ground:=Go.Ground.gcOnly Go.Departure.lateStores }],none⟩
def o6_12_6:Oper:=⟨some 12,.alloc 24,0, "law.go:187",#[],none⟩
def o6_12_7:Oper:=⟨none,.store 24 (.tmp 12) (.tmp 64),0, "law.go:187",#[ed_ 6,ed_ 4,ec_ 2,ep_ 0,ep_ 1,ep_ 2,ep_ 3,ep_ 4,{ on:=5,ground:=Go.Ground.textOnly Go.Departure.lateStores },ep_ 6],none⟩
def o6_12_8:Oper:=⟨some 13,.assign (.tmp 65),31, "law.go:187",#[ed_ 5,ec_ 7,ep_ 0,ep_ 1,ep_ 2,ep_ 3,ep_ 4,ep_ 5,ep_ 6,ep_ 7],none⟩
def O6_12:Array Oper:=#[o6_12_0,o6_12_1,o6_12_2,o6_12_3,o6_12_4,o6_12_5,o6_12_6,o6_12_7,o6_12_8]
def c6_44:Code:=.region 12 O6_12 false
def o6_13_0:Oper:=⟨some 67,.load 24 (.tmp 4),24, "law.go:188",#[],none⟩
def o6_13_1:Oper:=⟨some 68,.move (.tmp 1),25, "law.go:188",#[],none⟩
def o6_13_2:Oper:=⟨some 69,.call { callee:=.value (.func 10),args:=#[.tmp 67,.tmp 68],argTypes:=#[24,25] },34, "law.go:188",#[ed_ 0,ed_ 1],none⟩
def o6_13_3:Oper:=⟨some 66,.move (.tmp 69),34, "law.go:188",#[ed_ 2],none⟩
def o6_13_4:Oper:=⟨some 70,.extract (.tmp 66) 0,24, "law.go:188",#[ed_ 3],none⟩
def o6_13_5:Oper:=⟨some 71,.extract (.tmp 66) 1,3, "law.go:188",#[ed_ 3,{ on:=7,ground:=Go.Ground.gcOnly Go.Departure.lateStores }],none⟩
def o6_13_6:Oper:=⟨some 14,.alloc 24,0, "law.go:188",#[],none⟩
def o6_13_7:Oper:=⟨none,.store 24 (.tmp 14) (.tmp 70),0, "law.go:188",#[ed_ 6,ed_ 4,ec_ 2,ep_ 0,ep_ 1,ep_ 2,ep_ 3,ep_ 4,{ on:=5,ground:=Go.Ground.textOnly Go.Departure.lateStores },ep_ 6],none⟩
def o6_13_8:Oper:=⟨some 15,.assign (.tmp 71),3, "law.go:188",#[ed_ 5,ec_ 7,ep_ 0,ep_ 1,ep_ 2,ep_ 3,ep_ 4,ep_ 5,ep_ 6,ep_ 7],none⟩
def O6_13:Array Oper:=#[o6_13_0,o6_13_1,o6_13_2,o6_13_3,o6_13_4,o6_13_5,o6_13_6,o6_13_7,o6_13_8]
def c6_46:Code:=.region 13 O6_13 false
def o6_14_0:Oper:=⟨some 72,.move (.tmp 13),31, "law.go:189",#[],none⟩
def o6_14_1:Oper:=⟨some 73,.move (.tmp 15),3, "law.go:189",#[],none⟩
def o6_14_2:Oper:=⟨some 74,.binOp .neq 3 (.tmp 72) (.tmp 73) 3,4, "law.go:189",#[ed_ 0,ed_ 1],none⟩
def o6_14_3:Oper:=⟨some 75,.move (.tmp 74),4, "law.go:189",#[ed_ 2],none⟩
def o6_14_4:Oper:=⟨some 76,.load 24 (.tmp 12),24, "law.go:189",#[eg_ 3],some (3,false)⟩
def o6_14_5:Oper:=⟨some 77,.load 24 (.tmp 14),24, "law.go:189",#[eg_ 3],some (3,false)⟩
def o6_14_6:Oper:=⟨some 78,.call { callee:=.value (.func 11),args:=#[.tmp 76,.tmp 77],argTypes:=#[24,24] },4, "law.go:189",#[ed_ 4,ed_ 5,ec_ 3,eg_ 3],some (3,false)⟩
def o6_14_7:Oper:=⟨some 79,.unOp .not 4 (.tmp 78),4, "law.go:189",#[ed_ 6,eg_ 3],some (3,false)⟩
def o6_14_8:Oper:=⟨some 80,.pick (.tmp 75) (.const (.bool true)) (.tmp 79),4, "law.go:189",#[ed_ 3,ed_ 7],none⟩
def O6_14:Array Oper:=#[o6_14_0,o6_14_1,o6_14_2,o6_14_3,o6_14_4,o6_14_5,o6_14_6,o6_14_7,o6_14_8]
def c6_49:Code:=.region 14 O6_14 false
def o6_15_0:Oper:=⟨some 8,.assign (.const (.bool false)),4, "law.go:190",#[],none⟩
def O6_15:Array Oper:=#[o6_15_0]
def c6_52:Code:=.region 15 O6_15 false
def c6_51:Code:=.seq c6_52 Code.ret
def c6_50:Code:=.cond (Operand.tmp 80) c6_51 Code.skip
def c6_48:Code:=.seq c6_49 c6_50
def o6_16_0:Oper:=⟨some 82,.load 24 (.tmp 4),24, "law.go:192",#[],none⟩
def o6_16_1:Oper:=⟨some 83,.move (.tmp 2),2, "law.go:192",#[],none⟩
def o6_16_2:Oper:=⟨some 84,.call { callee:=.value (.func 12),args:=#[.tmp 82,.tmp 83],argTypes:=#[24,2] },37, "law.go:192",#[ed_ 0,ed_ 1],none⟩
def o6_16_3:Oper:=⟨some 81,.move (.tmp 84),37, "law.go:192",#[ed_ 2],none⟩
def o6_16_4:Oper:=⟨some 85,.extract (.tmp 81) 0,24, "law.go:192",#[ed_ 3],none⟩
def o6_16_5:Oper:=⟨some 86,.extract (.tmp 81) 1,2, "law.go:192",#[ed_ 3,{ on:=8,ground:=Go.Ground.gcOnly Go.Departure.lateStores }],none⟩
def o6_16_6:Oper:=⟨some 87,.extract (.tmp 81) 2,31, "law.go:192",#[ed_ 3,{ on:=9,ground:=Go.Ground.gcOnly Go.Departure.lateStores }],none⟩
def o6_16_7:Oper:=⟨some 16,.alloc 24,0, "law.go:192",#[],none⟩
def o6_16_8:Oper:=⟨none,.store 24 (.tmp 16) (.tmp 85),0, "law.go:192",#[ed_ 7,ed_ 4,ec_ 2,ep_ 0,ep_ 1,ep_ 2,ep_ 3,ep_ 4,{ on:=5,ground:=Go.Ground.textOnly Go.Departure.lateStores },{ on:=6,ground:=Go.Ground.textOnly Go.Departure.lateStores },ep_ 7],none⟩
def o6_16_9:Oper:=⟨some 17,.assign (.tmp 86),2, "law.go:192",#[ed_ 5,ec_ 8,ep_ 0,ep_ 1,ep_ 2,ep_ 3,ep_ 4,ep_ 5,{ on:=6,ground:=Go.Ground.textOnly Go.Departure.lateStores },ep_ 7,ep_ 8],none⟩
def o6_16_10:Oper:=⟨some 18,.assign (.tmp 87),31, "law.go:192",#[ed_ 6,ec_ 9,ep_ 0,ep_ 1,ep_ 2,ep_ 3,ep_ 4,ep_ 5,ep_ 6,ep_ 7,ep_ 8,ep_ 9],none⟩
def O6_16:Array Oper:=#[o6_16_0,o6_16_1,o6_16_2,o6_16_3,o6_16_4,o6_16_5,o6_16_6,o6_16_7,o6_16_8,o6_16_9,o6_16_10]
def c6_56:Code:=.region 16 O6_16 false
def o6_20_0:Oper:=⟨some 114,.load 24 (.tmp 4),24, "law.go:194",#[],none⟩
def o6_20_1:Oper:=⟨some 115,.call { callee:=.value (.func 13),args:=#[.tmp 114],argTypes:=#[24] },4, "law.go:194",#[ed_ 0],none⟩
def o6_20_2:Oper:=⟨some 116,.unOp .not 4 (.tmp 115),4, "law.go:194",#[ed_ 1],none⟩
def o6_20_3:Oper:=⟨some 113,.assign (.tmp 116),4, "law.go:194",#[ed_ 2,ec_ 1],none⟩
def O6_20:Array Oper:=#[o6_20_0,o6_20_1,o6_20_2,o6_20_3]
def c6_60:Code:=.region 20 O6_20 false
def o6_21_0:Oper:=⟨some 117,.move (.tmp 18),31, "law.go:195",#[],none⟩
def o6_21_1:Oper:=⟨some 118,.binOp .neq 31 (.tmp 117) (.const (.int .i64 70)) 31,4, "law.go:195",#[ed_ 0],none⟩
def o6_21_2:Oper:=⟨some 119,.move (.tmp 118),4, "law.go:195",#[ed_ 1],none⟩
def o6_21_3:Oper:=⟨some 120,.move (.tmp 17),2, "law.go:195",#[eg_ 2],some (2,false)⟩
def o6_21_4:Oper:=⟨some 121,.binOp .neq 2 (.tmp 120) (.const (.int .i64 0)) 2,4, "law.go:195",#[ed_ 3,eg_ 2],some (2,false)⟩
def o6_21_5:Oper:=⟨some 122,.pick (.tmp 119) (.const (.bool true)) (.tmp 121),4, "law.go:195",#[ed_ 2,ed_ 4],none⟩
def o6_21_6:Oper:=⟨some 123,.move (.tmp 122),4, "law.go:195",#[ed_ 5,ec_ 2],none⟩
def o6_21_7:Oper:=⟨some 124,.fieldAddr 24 (.tmp 16) 0,0, "law.go:195",#[eg_ 6],some (6,false)⟩
def o6_21_8:Oper:=⟨some 125,.load 3 (.tmp 124),3, "law.go:195",#[ed_ 7,eg_ 6],some (6,false)⟩
def o6_21_9:Oper:=⟨some 126,.binOp .neq 3 (.tmp 125) (.const (.int .i64 0)) 3,4, "law.go:195",#[ed_ 8,eg_ 6],some (6,false)⟩
def o6_21_10:Oper:=⟨some 127,.pick (.tmp 123) (.const (.bool true)) (.tmp 126),4, "law.go:195",#[ed_ 6,ed_ 9],none⟩
def O6_21:Array Oper:=#[o6_21_0,o6_21_1,o6_21_2,o6_21_3,o6_21_4,o6_21_5,o6_21_6,o6_21_7,o6_21_8,o6_21_9,o6_21_10]
def c6_63:Code:=.region 21 O6_21 false
def o6_22_0:Oper:=⟨some 8,.assign (.const (.bool false)),4, "law.go:196",#[],none⟩
def O6_22:Array Oper:=#[o6_22_0]
def c6_66:Code:=.region 22 O6_22 false
def c6_65:Code:=.seq c6_66 Code.ret
def c6_64:Code:=.cond (Operand.tmp 127) c6_65 Code.skip
def c6_62:Code:=.seq c6_63 c6_64
def o6_23_0:Oper:=⟨some 129,.move (.tmp 2),2, "law.go:198",#[],none⟩
def o6_23_1:Oper:=⟨some 130,.binOp .lss 2 (.tmp 129) (.const (.int .i64 1)) 2,4, "law.go:198",#[ed_ 0],none⟩
def o6_23_2:Oper:=⟨some 131,.move (.tmp 130),4, "law.go:198",#[ed_ 1],none⟩
def o6_23_3:Oper:=⟨some 132,.move (.tmp 2),2, "law.go:198",#[eg_ 2],some (2,false)⟩
def o6_23_4:Oper:=⟨some 133,.binOp .gtr 2 (.tmp 132) (.const (.int .i64 4611686018427387904)) 2,4, "law.go:198",#[ed_ 3,eg_ 2],some (2,false)⟩
def o6_23_5:Oper:=⟨some 134,.pick (.tmp 131) (.const (.bool true)) (.tmp 133),4, "law.go:198",#[ed_ 2,ed_ 4],none⟩
def o6_23_6:Oper:=⟨some 128,.assign (.tmp 134),4, "law.go:198",#[ed_ 5,ec_ 2],none⟩
def O6_23:Array Oper:=#[o6_23_0,o6_23_1,o6_23_2,o6_23_3,o6_23_4,o6_23_5,o6_23_6]
def c6_70:Code:=.region 23 O6_23 false
def o6_24_0:Oper:=⟨some 135,.move (.tmp 18),31, "law.go:199",#[],none⟩
def o6_24_1:Oper:=⟨some 136,.binOp .neq 31 (.tmp 135) (.const (.int .i64 1)) 31,4, "law.go:199",#[ed_ 0],none⟩
def o6_24_2:Oper:=⟨some 137,.move (.tmp 136),4, "law.go:199",#[ed_ 1],none⟩
def o6_24_3:Oper:=⟨some 138,.move (.tmp 17),2, "law.go:199",#[eg_ 2],some (2,false)⟩
def o6_24_4:Oper:=⟨some 139,.binOp .neq 2 (.tmp 138) (.const (.int .i64 0)) 2,4, "law.go:199",#[ed_ 3,eg_ 2],some (2,false)⟩
def o6_24_5:Oper:=⟨some 140,.pick (.tmp 137) (.const (.bool true)) (.tmp 139),4, "law.go:199",#[ed_ 2,ed_ 4],none⟩
def o6_24_6:Oper:=⟨some 141,.move (.tmp 140),4, "law.go:199",#[ed_ 5,ec_ 2],none⟩
def o6_24_7:Oper:=⟨some 142,.fieldAddr 24 (.tmp 16) 0,0, "law.go:199",#[eg_ 6],some (6,false)⟩
def o6_24_8:Oper:=⟨some 143,.load 3 (.tmp 142),3, "law.go:199",#[ed_ 7,eg_ 6],some (6,false)⟩
def o6_24_9:Oper:=⟨some 144,.binOp .neq 3 (.tmp 143) (.const (.int .i64 0)) 3,4, "law.go:199",#[ed_ 8,eg_ 6],some (6,false)⟩
def o6_24_10:Oper:=⟨some 145,.pick (.tmp 141) (.const (.bool true)) (.tmp 144),4, "law.go:199",#[ed_ 6,ed_ 9],none⟩
def O6_24:Array Oper:=#[o6_24_0,o6_24_1,o6_24_2,o6_24_3,o6_24_4,o6_24_5,o6_24_6,o6_24_7,o6_24_8,o6_24_9,o6_24_10]
def c6_73:Code:=.region 24 O6_24 false
def o6_25_0:Oper:=⟨some 8,.assign (.const (.bool false)),4, "law.go:200",#[],none⟩
def O6_25:Array Oper:=#[o6_25_0]
def c6_76:Code:=.region 25 O6_25 false
def c6_75:Code:=.seq c6_76 Code.ret
def c6_74:Code:=.cond (Operand.tmp 145) c6_75 Code.skip
def c6_72:Code:=.seq c6_73 c6_74
def o6_17_0:Oper:=⟨some 89,.load 24 (.tmp 4),24, "law.go:203",#[],none⟩
def o6_17_1:Oper:=⟨some 90,.move (.tmp 2),2, "law.go:203",#[],none⟩
def o6_17_2:Oper:=⟨some 91,.call { callee:=.value (.func 14),args:=#[.tmp 89,.tmp 90],argTypes:=#[24,2] },40, "law.go:203",#[ed_ 0,ed_ 1],none⟩
def o6_17_3:Oper:=⟨some 88,.move (.tmp 91),40, "law.go:203",#[ed_ 2],none⟩
def o6_17_4:Oper:=⟨some 92,.extract (.tmp 88) 0,24, "law.go:203",#[ed_ 3],none⟩
def o6_17_5:Oper:=⟨some 93,.extract (.tmp 88) 1,2, "law.go:203",#[ed_ 3,{ on:=7,ground:=Go.Ground.gcOnly Go.Departure.lateStores }],none⟩
def o6_17_6:Oper:=⟨some 19,.alloc 24,0, "law.go:203",#[],none⟩
def o6_17_7:Oper:=⟨none,.store 24 (.tmp 19) (.tmp 92),0, "law.go:203",#[ed_ 6,ed_ 4,ec_ 2,ep_ 0,ep_ 1,ep_ 2,ep_ 3,ep_ 4,{ on:=5,ground:=Go.Ground.textOnly Go.Departure.lateStores },ep_ 6],none⟩
def o6_17_8:Oper:=⟨some 20,.assign (.tmp 93),2, "law.go:203",#[ed_ 5,ec_ 7,ep_ 0,ep_ 1,ep_ 2,ep_ 3,ep_ 4,ep_ 5,ep_ 6,ep_ 7],none⟩
def O6_17:Array Oper:=#[o6_17_0,o6_17_1,o6_17_2,o6_17_3,o6_17_4,o6_17_5,o6_17_6,o6_17_7,o6_17_8]
def c6_80:Code:=.region 17 O6_17 false
def o6_18_0:Oper:=⟨some 94,.move (.tmp 18),31, "law.go:204",#[],none⟩
def o6_18_1:Oper:=⟨some 95,.binOp .neq 31 (.tmp 94) (.const (.int .i64 0)) 31,4, "law.go:204",#[ed_ 0],none⟩
def o6_18_2:Oper:=⟨some 96,.move (.tmp 95),4, "law.go:204",#[ed_ 1],none⟩
def o6_18_3:Oper:=⟨some 97,.move (.tmp 17),2, "law.go:204",#[eg_ 2],some (2,false)⟩
def o6_18_4:Oper:=⟨some 98,.move (.tmp 20),2, "law.go:204",#[eg_ 2],some (2,false)⟩
def o6_18_5:Oper:=⟨some 99,.binOp .neq 2 (.tmp 97) (.tmp 98) 2,4, "law.go:204",#[ed_ 3,ed_ 4,eg_ 2],some (2,false)⟩
def o6_18_6:Oper:=⟨some 100,.pick (.tmp 96) (.const (.bool true)) (.tmp 99),4, "law.go:204",#[ed_ 2,ed_ 5],none⟩
def o6_18_7:Oper:=⟨some 101,.move (.tmp 100),4, "law.go:204",#[ed_ 6,ec_ 2],none⟩
def o6_18_8:Oper:=⟨some 102,.load 24 (.tmp 16),24, "law.go:204",#[eg_ 7],some (7,false)⟩
def o6_18_9:Oper:=⟨some 103,.load 24 (.tmp 19),24, "law.go:204",#[eg_ 7],some (7,false)⟩
def o6_18_10:Oper:=⟨some 104,.call { callee:=.value (.func 15),args:=#[.tmp 102,.tmp 103],argTypes:=#[24,24] },4, "law.go:204",#[ed_ 8,ed_ 9,ec_ 7,eg_ 7],some (7,false)⟩
def o6_18_11:Oper:=⟨some 105,.unOp .not 4 (.tmp 104),4, "law.go:204",#[ed_ 10,eg_ 7],some (7,false)⟩
def o6_18_12:Oper:=⟨some 106,.pick (.tmp 101) (.const (.bool true)) (.tmp 105),4, "law.go:204",#[ed_ 7,ed_ 11],none⟩
def o6_18_13:Oper:=⟨some 107,.move (.tmp 106),4, "law.go:204",#[ed_ 12,ec_ 10],none⟩
def o6_18_14:Oper:=⟨some 108,.load 24 (.tmp 4),24, "law.go:204",#[eg_ 13],some (13,false)⟩
def o6_18_15:Oper:=⟨some 109,.load 24 (.tmp 11),24, "law.go:204",#[eg_ 13],some (13,false)⟩
def o6_18_16:Oper:=⟨some 110,.call { callee:=.value (.func 15),args:=#[.tmp 108,.tmp 109],argTypes:=#[24,24] },4, "law.go:204",#[ed_ 14,ed_ 15,ec_ 13,eg_ 13],some (13,false)⟩
def o6_18_17:Oper:=⟨some 111,.unOp .not 4 (.tmp 110),4, "law.go:204",#[ed_ 16,eg_ 13],some (13,false)⟩
def o6_18_18:Oper:=⟨some 112,.pick (.tmp 107) (.const (.bool true)) (.tmp 111),4, "law.go:204",#[ed_ 13,ed_ 17],none⟩
def O6_18:Array Oper:=#[o6_18_0,o6_18_1,o6_18_2,o6_18_3,o6_18_4,o6_18_5,o6_18_6,o6_18_7,o6_18_8,o6_18_9,o6_18_10,o6_18_11,o6_18_12,o6_18_13,o6_18_14,o6_18_15,o6_18_16,o6_18_17,o6_18_18]
def c6_82:Code:=.region 18 O6_18 false
def o6_19_0:Oper:=⟨some 8,.assign (.const (.bool false)),4, "law.go:205",#[],none⟩
def O6_19:Array Oper:=#[o6_19_0]
def c6_85:Code:=.region 19 O6_19 false
def c6_84:Code:=.seq c6_85 Code.ret
def c6_83:Code:=.cond (Operand.tmp 112) c6_84 Code.skip
def c6_81:Code:=.seq c6_82 c6_83
def c6_79:Code:=.seq c6_80 c6_81
def c6_71:Code:=.cond (Operand.tmp 128) c6_72 c6_79
def c6_69:Code:=.seq c6_70 c6_71
def c6_61:Code:=.cond (Operand.tmp 113) c6_62 c6_69
def c6_59:Code:=.seq c6_60 c6_61
def c6_58:Code:=.block 2 c6_59
def o6_26_0:Oper:=⟨some 147,.move (.tmp 3),22, "law.go:208",#[],none⟩
def o6_26_1:Oper:=⟨some 148,.load 24 (.tmp 4),24, "law.go:208",#[],none⟩
def o6_26_2:Oper:=⟨some 149,.call { callee:=.value (.func 16),args:=#[.tmp 147,.tmp 148],argTypes:=#[22,24] },32, "law.go:208",#[ed_ 0,ed_ 1],none⟩
def o6_26_3:Oper:=⟨some 146,.move (.tmp 149),32, "law.go:208",#[ed_ 2],none⟩
def o6_26_4:Oper:=⟨some 150,.extract (.tmp 146) 0,24, "law.go:208",#[ed_ 3],none⟩
def o6_26_5:Oper:=⟨some 151,.extract (.tmp 146) 1,31, "law.go:208",#[ed_ 3,{ on:=7,ground:=Go.Ground.gcOnly Go.Departure.lateStores }],none⟩
def o6_26_6:Oper:=⟨some 21,.alloc 24,0, "law.go:208",#[],none⟩
def o6_26_7:Oper:=⟨none,.store 24 (.tmp 21) (.tmp 150),0, "law.go:208",#[ed_ 6,ed_ 4,ec_ 2,ep_ 0,ep_ 1,ep_ 2,ep_ 3,ep_ 4,{ on:=5,ground:=Go.Ground.textOnly Go.Departure.lateStores },ep_ 6],none⟩
def o6_26_8:Oper:=⟨some 22,.assign (.tmp 151),31, "law.go:208",#[ed_ 5,ec_ 7,ep_ 0,ep_ 1,ep_ 2,ep_ 3,ep_ 4,ep_ 5,ep_ 6,ep_ 7],none⟩
def O6_26:Array Oper:=#[o6_26_0,o6_26_1,o6_26_2,o6_26_3,o6_26_4,o6_26_5,o6_26_6,o6_26_7,o6_26_8]
def c6_89:Code:=.region 26 O6_26 false
def o6_27_0:Oper:=⟨some 152,.move (.tmp 3),22, "law.go:209",#[],none⟩
def o6_27_1:Oper:=⟨some 153,.call { callee:=.builtin .len,args:=#[.tmp 152],argTypes:=#[22] },3, "law.go:209",#[ed_ 0],none⟩
def o6_27_2:Oper:=⟨some 154,.move (.const (.int .i64 0)),3, "law.go:209",#[],none⟩
def O6_27:Array Oper:=#[o6_27_0,o6_27_1,o6_27_2]
def c6_92:Code:=.region 27 O6_27 false
def o6_28_0:Oper:=⟨some 155,.binOp .lss 3 (.tmp 154) (.tmp 153) 3,0, "law.go:209",#[],none⟩
def O6_28:Array Oper:=#[o6_28_0]
def c6_96:Code:=.region 28 O6_28 false
def c6_100:Code:=.exit 3
def c6_98:Code:=.cond (Operand.tmp 155) Code.skip c6_100
def o6_29_0:Oper:=⟨some 156,.indexAddr 22 (.tmp 152) (.tmp 154),0, "law.go:209",#[],none⟩
def o6_29_1:Oper:=⟨some 157,.load 24 (.tmp 156),24, "law.go:209",#[ed_ 0],none⟩
def o6_29_2:Oper:=⟨some 24,.alloc 24,0, "law.go:209",#[],none⟩
def o6_29_3:Oper:=⟨none,.store 24 (.tmp 24) (.tmp 157),0, "law.go:209",#[ed_ 2,ed_ 1,ep_ 0,ep_ 1,ep_ 2],none⟩
def O6_29:Array Oper:=#[o6_29_0,o6_29_1,o6_29_2,o6_29_3]
def c6_104:Code:=.region 29 O6_29 false
def o6_30_0:Oper:=⟨some 158,.load 24 (.tmp 24),24, "law.go:210",#[],none⟩
def o6_30_1:Oper:=⟨some 159,.buildSlice 22 1 #[(0,.tmp 158)],22, "law.go:210",#[ed_ 0],none⟩
def o6_30_2:Oper:=⟨some 160,.call { callee:=.value (.func 7),args:=#[.tmp 159],argTypes:=#[22] },4, "law.go:210",#[ed_ 1],none⟩
def o6_30_3:Oper:=⟨some 161,.unOp .not 4 (.tmp 160),4, "law.go:210",#[ed_ 2],none⟩
def O6_30:Array Oper:=#[o6_30_0,o6_30_1,o6_30_2,o6_30_3]
def c6_106:Code:=.region 30 O6_30 false
def o6_31_0:Oper:=⟨some 8,.assign (.const (.bool true)),4, "law.go:211",#[],none⟩
def O6_31:Array Oper:=#[o6_31_0]
def c6_109:Code:=.region 31 O6_31 false
def c6_108:Code:=.seq c6_109 Code.ret
def c6_107:Code:=.cond (Operand.tmp 161) c6_108 Code.skip
def c6_105:Code:=.seq c6_106 c6_107
def c6_103:Code:=.seq c6_104 c6_105
def c6_102:Code:=.block 4 c6_103
def o6_32_0:Oper:=⟨some 162,.binOp .add 3 (.tmp 154) (.const (.int .i64 1)) 3,3, "law.go:209",#[],none⟩
def o6_32_1:Oper:=⟨some 154,.move (.tmp 162),3, "law.go:209",#[ed_ 0],none⟩
def O6_32:Array Oper:=#[o6_32_0,o6_32_1]
def c6_112:Code:=.region 32 O6_32 false
def c6_101:Code:=.seq c6_102 c6_112
def c6_97:Code:=.seq c6_98 c6_101
def c6_95:Code:=.seq c6_96 c6_97
def c6_94:Code:=.loop c6_95
def c6_93:Code:=.block 3 c6_94
def c6_91:Code:=.seq c6_92 c6_93
def o6_33_0:Oper:=⟨some 163,.move (.tmp 3),22, "law.go:214",#[],none⟩
def o6_33_1:Oper:=⟨some 164,.load 24 (.tmp 4),24, "law.go:214",#[],none⟩
def o6_33_2:Oper:=⟨some 165,.call { callee:=.value (.func 17),args:=#[.tmp 163,.tmp 164],argTypes:=#[22,24] },24, "law.go:214",#[ed_ 0,ed_ 1],none⟩
def o6_33_3:Oper:=⟨some 25,.alloc 24,0, "law.go:214",#[],none⟩
def o6_33_4:Oper:=⟨none,.store 24 (.tmp 25) (.tmp 165),0, "law.go:214",#[ed_ 3,ed_ 2,ec_ 2,ep_ 0,ep_ 1,ep_ 2,ep_ 3],none⟩
def O6_33:Array Oper:=#[o6_33_0,o6_33_1,o6_33_2,o6_33_3,o6_33_4]
def c6_114:Code:=.region 33 O6_33 false
def o6_34_0:Oper:=⟨some 166,.move (.tmp 3),22, "law.go:215",#[],none⟩
def o6_34_1:Oper:=⟨some 167,.call { callee:=.builtin .len,args:=#[.tmp 166],argTypes:=#[22] },3, "law.go:215",#[ed_ 0],none⟩
def o6_34_2:Oper:=⟨some 168,.binOp .gtr 3 (.tmp 167) (.const (.int .i64 100)) 3,4, "law.go:215",#[ed_ 1],none⟩
def o6_34_3:Oper:=⟨some 169,.move (.tmp 168),4, "law.go:215",#[ed_ 2],none⟩
def o6_34_4:Oper:=⟨some 170,.load 24 (.tmp 25),24, "law.go:215",#[eg_ 3],some (3,false)⟩
def o6_34_5:Oper:=⟨some 171,.call { callee:=.value (.func 13),args:=#[.tmp 170],argTypes:=#[24] },4, "law.go:215",#[ed_ 4,ec_ 3,eg_ 3],some (3,false)⟩
def o6_34_6:Oper:=⟨some 172,.unOp .not 4 (.tmp 171),4, "law.go:215",#[ed_ 5,eg_ 3],some (3,false)⟩
def o6_34_7:Oper:=⟨some 173,.pick (.tmp 169) (.const (.bool true)) (.tmp 172),4, "law.go:215",#[ed_ 3,ed_ 6],none⟩
def O6_34:Array Oper:=#[o6_34_0,o6_34_1,o6_34_2,o6_34_3,o6_34_4,o6_34_5,o6_34_6,o6_34_7]
def c6_117:Code:=.region 34 O6_34 false
def o6_35_0:Oper:=⟨some 174,.move (.tmp 22),31, "law.go:216",#[],none⟩
def o6_35_1:Oper:=⟨some 175,.binOp .eql 31 (.tmp 174) (.const (.int .i64 70)) 31,4, "law.go:216",#[ed_ 0],none⟩
def o6_35_2:Oper:=⟨some 176,.move (.tmp 175),4, "law.go:216",#[ed_ 1],none⟩
def o6_35_3:Oper:=⟨some 177,.fieldAddr 24 (.tmp 21) 0,0, "law.go:216",#[eg_ 2],some (2,true)⟩
def o6_35_4:Oper:=⟨some 178,.load 3 (.tmp 177),3, "law.go:216",#[ed_ 3,eg_ 2],some (2,true)⟩
def o6_35_5:Oper:=⟨some 179,.binOp .eql 3 (.tmp 178) (.const (.int .i64 0)) 3,4, "law.go:216",#[ed_ 4,eg_ 2],some (2,true)⟩
def o6_35_6:Oper:=⟨some 180,.pick (.tmp 176) (.tmp 179) (.const (.bool false)),4, "law.go:216",#[ed_ 2,ed_ 5],none⟩
def o6_35_7:Oper:=⟨some 8,.assign (.tmp 180),4, "law.go:216",#[ed_ 6,ec_ 2,ep_ 0,ep_ 1,ep_ 2,ep_ 3,ep_ 4,ep_ 5,ep_ 6],none⟩
def O6_35:Array Oper:=#[o6_35_0,o6_35_1,o6_35_2,o6_35_3,o6_35_4,o6_35_5,o6_35_6,o6_35_7]
def c6_120:Code:=.region 35 O6_35 false
def c6_119:Code:=.seq c6_120 Code.ret
def c6_118:Code:=.cond (Operand.tmp 173) c6_119 Code.skip
def c6_116:Code:=.seq c6_117 c6_118
def o6_36_0:Oper:=⟨some 182,.load 24 (.tmp 21),24, "law.go:218",#[],none⟩
def o6_36_1:Oper:=⟨some 183,.call { callee:=.value (.func 18),args:=#[.tmp 182],argTypes:=#[24] },44, "law.go:218",#[ed_ 0],none⟩
def o6_36_2:Oper:=⟨some 181,.move (.tmp 183),44, "law.go:218",#[ed_ 1],none⟩
def o6_36_3:Oper:=⟨some 184,.extract (.tmp 181) 0,22, "law.go:218",#[ed_ 2],none⟩
def o6_36_4:Oper:=⟨some 185,.extract (.tmp 181) 1,24, "law.go:218",#[ed_ 2,{ on:=6,ground:=Go.Ground.gcOnly Go.Departure.lateStores }],none⟩
def o6_36_5:Oper:=⟨some 27,.alloc 24,0, "law.go:218",#[],none⟩
def o6_36_6:Oper:=⟨some 26,.assign (.tmp 184),22, "law.go:218",#[ed_ 3,ec_ 1,ep_ 0,ep_ 1,ep_ 2,ep_ 3,{ on:=4,ground:=Go.Ground.textOnly Go.Departure.lateStores },ep_ 5],none⟩
def o6_36_7:Oper:=⟨none,.store 24 (.tmp 27) (.tmp 185),0, "law.go:218",#[ed_ 5,ed_ 4,ec_ 6,ep_ 0,ep_ 1,ep_ 2,ep_ 3,ep_ 4,ep_ 5,ep_ 6],none⟩
def O6_36:Array Oper:=#[o6_36_0,o6_36_1,o6_36_2,o6_36_3,o6_36_4,o6_36_5,o6_36_6,o6_36_7]
def c6_124:Code:=.region 36 O6_36 false
def o6_37_0:Oper:=⟨some 187,.load 24 (.tmp 25),24, "law.go:219",#[],none⟩
def o6_37_1:Oper:=⟨some 188,.call { callee:=.value (.func 19),args:=#[.tmp 187],argTypes:=#[24] },44, "law.go:219",#[ed_ 0],none⟩
def o6_37_2:Oper:=⟨some 186,.move (.tmp 188),44, "law.go:219",#[ed_ 1],none⟩
def o6_37_3:Oper:=⟨some 189,.extract (.tmp 186) 0,22, "law.go:219",#[ed_ 2],none⟩
def o6_37_4:Oper:=⟨some 190,.extract (.tmp 186) 1,24, "law.go:219",#[ed_ 2,{ on:=6,ground:=Go.Ground.gcOnly Go.Departure.lateStores }],none⟩
def o6_37_5:Oper:=⟨some 29,.alloc 24,0, "law.go:219",#[],none⟩
def o6_37_6:Oper:=⟨some 28,.assign (.tmp 189),22, "law.go:219",#[ed_ 3,ec_ 1,ep_ 0,ep_ 1,ep_ 2,ep_ 3,{ on:=4,ground:=Go.Ground.textOnly Go.Departure.lateStores },ep_ 5],none⟩
def o6_37_7:Oper:=⟨none,.store 24 (.tmp 29) (.tmp 190),0, "law.go:219",#[ed_ 5,ed_ 4,ec_ 6,ep_ 0,ep_ 1,ep_ 2,ep_ 3,ep_ 4,ep_ 5,ep_ 6],none⟩
def O6_37:Array Oper:=#[o6_37_0,o6_37_1,o6_37_2,o6_37_3,o6_37_4,o6_37_5,o6_37_6,o6_37_7]
def c6_126:Code:=.region 37 O6_37 false
def o6_38_0:Oper:=⟨some 191,.move (.tmp 22),31, "law.go:220",#[],none⟩
def o6_38_1:Oper:=⟨some 192,.binOp .eql 31 (.tmp 191) (.const (.int .i64 0)) 31,4, "law.go:220",#[ed_ 0],none⟩
def o6_38_2:Oper:=⟨some 193,.move (.tmp 192),4, "law.go:220",#[ed_ 1],none⟩
def o6_38_3:Oper:=⟨some 194,.load 24 (.tmp 21),24, "law.go:220",#[eg_ 2],some (2,true)⟩
def o6_38_4:Oper:=⟨some 195,.load 24 (.tmp 25),24, "law.go:220",#[eg_ 2],some (2,true)⟩
def o6_38_5:Oper:=⟨some 196,.call { callee:=.value (.func 15),args:=#[.tmp 194,.tmp 195],argTypes:=#[24,24] },4, "law.go:220",#[ed_ 3,ed_ 4,ec_ 2,eg_ 2],some (2,true)⟩
def o6_38_6:Oper:=⟨some 197,.pick (.tmp 193) (.tmp 196) (.const (.bool false)),4, "law.go:220",#[ed_ 2,ed_ 5],none⟩
def o6_38_7:Oper:=⟨some 198,.move (.tmp 197),4, "law.go:220",#[ed_ 6,ec_ 5],none⟩
def o6_38_8:Oper:=⟨some 199,.move (.tmp 26),22, "law.go:220",#[eg_ 7],some (7,true)⟩
def o6_38_9:Oper:=⟨some 200,.move (.tmp 28),22, "law.go:220",#[eg_ 7],some (7,true)⟩
def o6_38_10:Oper:=⟨some 201,.call { callee:=.value (.func 20),args:=#[.tmp 199,.tmp 200],argTypes:=#[22,22] },4, "law.go:220",#[ed_ 8,ed_ 9,ec_ 7,eg_ 7],some (7,true)⟩
def o6_38_11:Oper:=⟨some 202,.pick (.tmp 198) (.tmp 201) (.const (.bool false)),4, "law.go:220",#[ed_ 7,ed_ 10],none⟩
def o6_38_12:Oper:=⟨some 203,.move (.tmp 202),4, "law.go:220",#[ed_ 11,ec_ 10],none⟩
def o6_38_13:Oper:=⟨some 204,.load 24 (.tmp 27),24, "law.go:220",#[eg_ 12],some (12,true)⟩
def o6_38_14:Oper:=⟨some 205,.load 24 (.tmp 29),24, "law.go:220",#[eg_ 12],some (12,true)⟩
def o6_38_15:Oper:=⟨some 206,.call { callee:=.value (.func 15),args:=#[.tmp 204,.tmp 205],argTypes:=#[24,24] },4, "law.go:220",#[ed_ 13,ed_ 14,ec_ 12,eg_ 12],some (12,true)⟩
def o6_38_16:Oper:=⟨some 207,.pick (.tmp 203) (.tmp 206) (.const (.bool false)),4, "law.go:220",#[ed_ 12,ed_ 15],none⟩
def o6_38_17:Oper:=⟨some 8,.assign (.tmp 207),4, "law.go:220",#[ed_ 16,ec_ 15,ep_ 0,ep_ 1,ep_ 2,ep_ 3,ep_ 4,ep_ 5,ep_ 6,ep_ 7,ep_ 8,ep_ 9,ep_ 10,ep_ 11,ep_ 12,ep_ 13,ep_ 14,ep_ 15,ep_ 16],none⟩
def O6_38:Array Oper:=#[o6_38_0,o6_38_1,o6_38_2,o6_38_3,o6_38_4,o6_38_5,o6_38_6,o6_38_7,o6_38_8,o6_38_9,o6_38_10,o6_38_11,o6_38_12,o6_38_13,o6_38_14,o6_38_15,o6_38_16,o6_38_17]
def c6_128:Code:=.region 38 O6_38 false
def c6_127:Code:=.seq c6_128 Code.ret
def c6_125:Code:=.seq c6_126 c6_127
def c6_123:Code:=.seq c6_124 c6_125
def c6_115:Code:=.seq c6_116 c6_123
def c6_113:Code:=.seq c6_114 c6_115
def c6_90:Code:=.seq c6_91 c6_113
def c6_88:Code:=.seq c6_89 c6_90
def c6_57:Code:=.seq c6_58 c6_88
def c6_55:Code:=.seq c6_56 c6_57
def c6_47:Code:=.seq c6_48 c6_55
def c6_45:Code:=.seq c6_46 c6_47
def c6_43:Code:=.seq c6_44 c6_45
def c6_41:Code:=.seq c6_42 c6_43
def c6_18:Code:=.seq c6_19 c6_41
def c6_10:Code:=.seq c6_11 c6_18
def c6_2:Code:=.seq c6_3 c6_10
def c6_0:Code:=.seq c6_1 c6_2
theorem en6_14:Enters Try.prog 13:=enters_of Try.func13 (by kernel_rfl) rfl
theorem en6_30:Enters Try.prog 9:=enters_of Try.func9 (by kernel_rfl) rfl
theorem en6_32:Enters Try.prog 12:=enters_of Try.func12 (by kernel_rfl) rfl
theorem en6_33:Enters Try.prog 7:=enters_of Try.func7 (by kernel_rfl) rfl
theorem en6_34:Enters Try.prog 8:=enters_of Try.func8 (by kernel_rfl) rfl
theorem en6_35:Enters Try.prog 10:=enters_of Try.func10 (by kernel_rfl) rfl
theorem en6_36:Enters Try.prog 11:=enters_of Try.func11 (by kernel_rfl) rfl
theorem en6_37:Enters Try.prog 14:=enters_of Try.func14 (by kernel_rfl) rfl
theorem en6_38:Enters Try.prog 15:=enters_of Try.func15 (by kernel_rfl) rfl
theorem en6_39:Enters Try.prog 16:=enters_of Try.func16 (by kernel_rfl) rfl
theorem en6_40:Enters Try.prog 17:=enters_of Try.func17 (by kernel_rfl) rfl
theorem en6_41:Enters Try.prog 18:=enters_of Try.func18 (by kernel_rfl) rfl
theorem en6_42:Enters Try.prog 19:=enters_of Try.func19 (by kernel_rfl) rfl
theorem en6_43:Enters Try.prog 20:=enters_of Try.func20 (by kernel_rfl) rfl
theorem body6:Try.f3.body=some c6_0:=by kernel_rfl
set_option maxRecDepth 100000 in
set_option maxHeartbeats 4000000 in
theorem ap_tail {W:World} {t:Tm} {ta ea:Option Addr} {tc ec:Nat} {ps:List TP} {f0:Act} {w0:World} {b1:Nat} (R:FrS 208 f0) (h3:f0.tmps[3]? = some (.slice ea ps.length ec)) (h4:f0.tmps[4]? = some (.pointer (some ⟨b1,0,none⟩))) (K1:Keep (fun g=>g < W.heap.size) W w0) (B1:Blk w0 b1 24 #[.int .i64 t.k,.string (str t.nm),.int .i64 t.i,.slice ta t.args.length tc]) (HT:Hid (TmAt W.heap.size W t ta tc)) (HE:Hid (TmSl W.heap.size W ea ps)) (HEL:Hid (ps.length ≤ 120)) (HEA:Hid (∀ g off,ea=some ⟨g,off,none⟩→g < W.heap.size)):c6_88.wp Try.prog (bodyPost Try.prog Try.f3 (fun e w'=>e=.returned (.bool true)∧Keep (fun g=>g < W.heap.size) W w')) f0 w0:=by
 refine wp_seq (x:=c6_89) (y:=c6_90) ?_;refine reg_in (l:=[0,1,2,3,4,5,6,7,8]) rfl ?_;have F:=fe_ R;clear R;refine sw_ rfl (ym_ rfl (F.of h3)) F fun a214 F h147=>?_;refine swe_ rfl (yl4_ rfl (F.of h4) B1) F fun a215 e F h148=>?_;replace h147:=so_ e h147;clear e;obtain ⟨lr,e4,hls⟩:∃ q e,lsV (ps.map (·.1)) t=(q,e):=⟨_,_,rfl⟩;have hcall:=list_sx (cap:=ec) (tmsl_on HE.out K1) (HT.out.on K1) (by have:=HEL.out;omega) (fun g off h=>Nat.lt_of_lt_of_le (HEA.out g off h) K1.size) hls;have HLS:=Lib.hid hls;clear hls;refine st_call rfl rfl (wanted_free rfl) (yc2_ en6_39 rfl h147 h148) ((hcall).mono ?_);rintro e9 w216 ⟨al,cl,rfl,hf,kk⟩;replace K1:=keep_onto K1 kk;replace B1:=blk_on B1 kk;clear kk;clear hcall;have HL:=Lib.hid hf;clear hf;have KL:=Keep.refl (fun g=>g < w216.heap.size) w216;refine ⟨_,rfl,fun a217 e=>?_⟩;clear h147 h148;have h149:=pt_ F e;replace F:=pu_ F e;clear e;refine sw_ rfl (ym_ rfl h149) F fun a218 F h146=>?_;clear h149;refine swe_ rfl (ye20_ rfl h146) F fun a219 e F h150=>?_;replace h146:=so_ e h146;clear e;refine swe_ rfl (ye21_ rfl h146) F fun a220 e F h151=>?_;clear h146;replace h150:=so_ e h150;clear e;have Y:(execOp a220.eval o6_26_6).run Try.prog w216=.ok (.value (.pointer (some ⟨w216.heap.size,0,none⟩))) (w216.alloc (.cells #[.int .i64 0,.string (⟨#[]⟩),.int .i64 0,.slice none 0 0] 24)):=by unfold o6_26_6;go_simp
 have B221:=Blk.new w216 24 #[.int .i64 0,.string (⟨#[]⟩),.int .i64 0,.slice none 0 0];obtain ⟨w222,hw⟩:∃ x,x=w216.alloc (.cells #[.int .i64 0,.string (⟨#[]⟩),.int .i64 0,.slice none 0 0] 24):=⟨_,rfl⟩;rw [← hw] at Y B221;obtain ⟨b221,hb⟩:∃ x,x=w216.heap.size:=⟨_,rfl⟩;rw [← hb] at Y B221;have Nb1_b221:=nb_ hb B1;replace B1:=ba_ hw B1;have LK1_b221:=lk_ hb K1;replace K1:=ka_ hw K1;have LKL_b221:=lk_ hb KL;replace KL:=ka_ hw KL;clear hw hb;refine swe_ rfl Y F fun a223 e F h21=>?_;clear Y;have⟨h150,h151⟩:=s2_ e h150 h151;clear e;obtain ⟨w224,Y,hk,hB⟩:=ys4_ (o:=o6_26_7) rfl h21 h150 B221;replace K1:=kx_ hk K1 (Nat.not_lt.2 LK1_b221);replace KL:=kx_ hk KL (Nat.not_lt.2 LKL_b221);replace B1:=bx_ hk B1 Nb1_b221;clear B221;have B221:=hB;clear hB hk;refine st_skip rfl rfl (wanted_free rfl) Y ?_;clear Y;refine swe_ rfl (ya_ rfl h151) F fun a225 e F h22=>?_;clear h150 h151;replace h21:=so_ e h21;clear e;refine st_end ?_;have⟨h3,h4⟩:=F.o2 h3 h4;have R:=F.r;clear F;refine wp_seq (x:=c6_91) (y:=c6_113) ?_;refine wp_seq (x:=c6_92) (y:=c6_93) ?_;refine reg_in (l:=[0,1,2]) rfl ?_;have F:=fe_ R;clear R;refine sw_ rfl (ym_ rfl (F.of h3)) F fun a226 F h152=>?_;have Y:Yv a226 o6_27_1 w224 (.int .i64 ps.length):=by unfold Yv o6_27_1;go_simp
 refine swe_ rfl Y F fun a227 e F h153=>?_;clear Y;replace h152:=so_ e h152;clear e;have Y:Yv a227 o6_27_2 w224 (.int .i64 0):=by unfold Yv o6_27_2;go_simp
 refine swe_ rfl Y F fun a228 e F h154=>?_;clear Y;have⟨h152,h153⟩:=s2_ e h152 h153;clear e;refine st_end ?_;have⟨h3,h4,h21,h22⟩:=F.o4 h3 h4 h21 h22;have R:=F.r;clear F;refine wp_block (id:=3) (c:=c6_94) ?_;refine wp_loop_ghost (c:=c6_95) (fun n fX wX=>∃ j:Nat,n=ps.length - j∧FrS 208 fX∧fX.tmps[3]? = some (.slice ea ps.length ec)∧fX.tmps[4]? = some (.pointer (some ⟨b1,0,none⟩))∧fX.tmps[21]? = some (.pointer (some ⟨b221,0,none⟩))∧fX.tmps[22]? = some (.int .i64 e4)∧fX.tmps[152]? = some (.slice ea ps.length ec)∧fX.tmps[153]? = some (.int .i64 ps.length)∧fX.tmps[154]? = some (.int .i64 (j:Int))∧Keep (fun g=>g < W.heap.size) W wX∧Keep (fun g=>g < w216.heap.size) w216 wX∧Blk wX b1 24 #[.int .i64 t.k,.string (str t.nm),.int .i64 t.i,.slice ta t.args.length tc]∧Blk wX b221 24 #[.int .i64 lr.k,.string (str lr.nm),.int .i64 lr.i,.slice al lr.args.length cl]∧j ≤ ps.length) (ps.length - 0) ⟨0,rfl,R,h3,h4,h21,h22,h152,h153,h154,K1,KL,B1,B221,Nat.zero_le _⟩ ?_;clear R h3 h4 h21 h22 h152 h153 h154 K1 KL B1 B221;rintro n231 a229 w230 ⟨j,rfl,R,h3,h4,h21,h22,h152,h153,h154,K1,KL,B1,B221,hj⟩;have hl8:=HEL.out;refine wp_seq (x:=c6_96) (y:=c6_97) ?_;refine reg_in (l:=[0]) rfl ?_;have F:=fe_ R;clear R;obtain ⟨b232,hb232⟩:∃ x,(decide ((j:Int) < (ps.length:Int)))=x:=⟨_,rfl⟩;have Y:Yv a229 o6_28_0 w230 (.bool b232):=by have r153:=F.of h153;have r154:=F.of h154;rw [← hb232];unfold Yv o6_28_0;go_simp
 refine sw_ rfl Y F fun a233 F h155=>?_;clear Y;refine st_end ?_;have⟨h3,h4,h21,h22,h152,h153⟩:=F.o6 h3 h4 h21 h22 h152 h153;replace h154:=F.of h154;have R:=F.r;clear F;refine wp_seq (x:=c6_98) (y:=c6_101) ?_;cases b232 with
 | false =>
  have fb232:=hb232;clear hb232;simp only [dd_] at fb232;refine wp_cond_false (x:=Code.skip) (y:=c6_100) (eval_slot h155) ?_;refine wp_exit ?_;refine wp_seq (x:=c6_114) (y:=c6_115) ?_;refine reg_in (l:=[0,1,2,3,4]) rfl ?_;have F:=fe_ R;clear R;refine sw_ rfl (ym_ rfl (F.of h3)) F fun a234 F h163=>?_;refine swe_ rfl (yl4_ rfl (F.of h4) B1) F fun a235 e F h164=>?_;replace h163:=so_ e h163;clear e;refine st_call rfl rfl (wanted_free rfl) (yc2_ en6_40 rfl h163 h164) ((refList_any (sc:=ec) (tmsl_on HE.out K1) (HT.out.on K1) (by omega)).mono ?_);rintro e9 w236 ⟨aw,cw,rfl,hf,kk⟩;replace K1:=keep_onto K1 kk;replace KL:=keep_onto KL kk;replace B1:=blk_on B1 kk;replace B221:=blk_on B221 kk;clear kk;have HW:=Lib.hid hf;clear hf;have KW:=Keep.refl (fun g=>g < w236.heap.size) w236;refine ⟨_,rfl,fun a237 e=>?_⟩;clear h163 h164;have h165:=pt_ F e;replace F:=pu_ F e;clear e;have Y:(execOp a237.eval o6_33_3).run Try.prog w236=.ok (.value (.pointer (some ⟨w236.heap.size,0,none⟩))) (w236.alloc (.cells #[.int .i64 0,.string (⟨#[]⟩),.int .i64 0,.slice none 0 0] 24)):=by unfold o6_33_3;go_simp
  have B238:=Blk.new w236 24 #[.int .i64 0,.string (⟨#[]⟩),.int .i64 0,.slice none 0 0];obtain ⟨w239,hw⟩:∃ x,x=w236.alloc (.cells #[.int .i64 0,.string (⟨#[]⟩),.int .i64 0,.slice none 0 0] 24):=⟨_,rfl⟩;rw [← hw] at Y B238;obtain ⟨b238,hb⟩:∃ x,x=w236.heap.size:=⟨_,rfl⟩;rw [← hb] at Y B238;have Nb1_b238:=nb_ hb B1;replace B1:=ba_ hw B1;have Nb221_b238:=nb_ hb B221;replace B221:=ba_ hw B221;have LK1_b238:=lk_ hb K1;replace K1:=ka_ hw K1;have LKL_b238:=lk_ hb KL;replace KL:=ka_ hw KL;have LKW_b238:=lk_ hb KW;replace KW:=ka_ hw KW;clear hw hb;refine swe_ rfl Y F fun a240 e F h25=>?_;clear Y;replace h165:=so_ e h165;clear e;obtain ⟨w241,Y,hk,hB⟩:=ys4_ (o:=o6_33_4) rfl h25 h165 B238;replace K1:=kx_ hk K1 (Nat.not_lt.2 LK1_b238);replace KL:=kx_ hk KL (Nat.not_lt.2 LKL_b238);replace KW:=kx_ hk KW (Nat.not_lt.2 LKW_b238);replace B1:=bx_ hk B1 Nb1_b238;replace B221:=bx_ hk B221 Nb221_b238;clear B238;have B238:=hB;clear hB hk;refine st_skip rfl rfl (wanted_free rfl) Y ?_;clear Y;refine st_end ?_;replace h3:=F.of h3;clear h4;have⟨h21,h22,h152,h153,h154,h155⟩:=F.o6 h21 h22 h152 h153 h154 h155;clear h165;have R:=F.r;clear F;refine wp_seq (x:=c6_116) (y:=c6_123) ?_;refine wp_seq (x:=c6_117) (y:=c6_118) ?_;refine reg_in (l:=[0,1,2,3,4,5,6,7]) rfl ?_;have F:=fe_ R;clear R;refine sw_ rfl (ym_ rfl (F.of h3)) F fun a242 F h166=>?_;have Y:Yv a242 o6_34_1 w241 (.int .i64 ps.length):=by unfold Yv o6_34_1;go_simp
  refine sw_ rfl Y F fun a243 F h167=>?_;clear Y h166;obtain ⟨b244,hb244⟩:∃ x,(decide ((100:Int) < (ps.length:Int)))=x:=⟨_,rfl⟩;have Y:Yv a243 o6_34_2 w241 (.bool b244):=by rw [← hb244];unfold Yv o6_34_2;go_simp
  refine sw_ rfl Y F fun a245 F h168=>?_;clear Y h167;refine sw_ rfl (ym_ rfl h168) F fun a246 F h169=>?_;clear h168;cases b244 with
  | false =>
   have fb244:=hb244;clear hb244;simp only [dd_] at fb244;refine st_val rfl rfl (wanted_is (j:=3) (d:=169) rfl rfl h169 rfl) (yl4_ rfl (F.of h25) B238) fun a247 e=>?_;have h170:=pt_ F e;replace F:=pu_ F e;replace h169:=so_ e h169;clear e;have hcall:=refRight_any (HW.out.on KW);obtain ⟨rw9,hr⟩:∃ q,(lsT (ps.map (·.1)) t).right=q:=⟨_,rfl⟩;rw [hr] at hcall;have HRW:=Lib.hid hr;clear hr;refine st_call rfl rfl (wanted_is (j:=3) (d:=169) rfl rfl h169 rfl) (yc1_ en6_14 rfl h170) ((hcall).mono ?_);rintro e9 w248 ⟨rfl,kk⟩;replace K1:=keep_onto K1 kk;replace KL:=keep_onto KL kk;replace KW:=keep_onto KW kk;replace B1:=blk_on B1 kk;replace B221:=blk_on B221 kk;replace B238:=blk_on B238 kk;clear kk;clear hcall;refine ⟨_,rfl,fun a249 e=>?_⟩;clear h170;have h171:=pt_ F e;replace F:=pu_ F e;replace h169:=so_ e h169;clear e;cases rw9 with
   | false =>
    have Y:Yv a249 o6_34_6 w248 (.bool true):=by unfold Yv o6_34_6;go_simp
    refine st_val rfl rfl (wanted_is (j:=3) (d:=169) rfl rfl h169 rfl) Y fun a250 e=>?_;clear Y;clear h171;have h172:=pt_ F e;replace F:=pu_ F e;replace h169:=so_ e h169;clear e;have Y:Yv a250 o6_34_7 w248 (.bool true):=by unfold Yv o6_34_7;go_simp
    refine sw_ rfl Y F fun a251 F h173=>?_;clear Y h169 h172;refine st_end ?_;clear h3;have⟨h21,h22,h25,h152,h153,h154⟩:=F.o6 h21 h22 h25 h152 h153 h154;replace h155:=F.of h155;have R:=F.r;clear F;refine wp_cond_true (x:=c6_119) (y:=Code.skip) (eval_slot h173) ?_;refine wp_seq (x:=c6_120) (y:=Code.ret) ?_;refine reg_in (l:=[0,1,2,3,4,5,6,7]) rfl ?_;have F:=fe_ R;clear R;refine sw_ rfl (ym_ rfl (F.of h22)) F fun a252 F h174=>?_;have Y:Yv a252 o6_35_1 w248 (.bool true):=by have hq1:=ls_bad HLS.out (by rw [List.length_map];first | exact .inl (by omega) | exact .inr HRW.out);have hq2:=hq1.1;have hq3:=hq1.2;clear hq1;unfold Yv o6_35_1;go_simp
    refine sw_ rfl Y F fun a253 F h175=>?_;clear Y h174;refine sw_ rfl (ym_ rfl h175) F fun a254 F h176=>?_;clear h175;refine st_val rfl rfl (wanted_is (j:=2) (d:=176) rfl rfl h176 rfl) (yf0_ rfl (F.of h21)) fun a255 e=>?_;have h177:=pt_ F e;replace F:=pu_ F e;replace h176:=so_ e h176;clear e;refine st_val rfl rfl (wanted_is (j:=2) (d:=176) rfl rfl h176 rfl) (yk0_ rfl h177 B221) fun a256 e=>?_;clear h177;have h178:=pt_ F e;replace F:=pu_ F e;replace h176:=so_ e h176;clear e;have Y:Yv a256 o6_35_5 w248 (.bool true):=by have hq1:=ls_bad HLS.out (by rw [List.length_map];first | exact .inl (by omega) | exact .inr HRW.out);have hq2:=hq1.1;have hq3:=hq1.2;clear hq1;unfold Yv o6_35_5;go_simp
    refine st_val rfl rfl (wanted_is (j:=2) (d:=176) rfl rfl h176 rfl) Y fun a257 e=>?_;clear Y;clear h178;have h179:=pt_ F e;replace F:=pu_ F e;replace h176:=so_ e h176;clear e;have Y:Yv a257 o6_35_6 w248 (.bool true):=by unfold Yv o6_35_6;go_simp
    refine sw_ rfl Y F fun a258 F h180=>?_;clear Y h176 h179;refine sw_ rfl (ya_ rfl h180) F fun a259 F h8=>?_;clear h180;refine st_end ?_;have⟨h21,h22,h25,h152,h153,h154⟩:=F.o6 h21 h22 h25 h152 h153 h154;replace h155:=F.of h155;clear h173;have R:=F.r;clear F;refine wp_ret ?_;change bodyPost Try.prog Try.f3 (fun e w'=>e=.returned (.bool true)∧Keep (fun g=>g < W.heap.size) W w') .ret a259 w248;refine ret_one rfl R h8 ?_;exact ⟨rfl,K1⟩
   | true =>
    have Y:Yv a249 o6_34_6 w248 (.bool false):=by unfold Yv o6_34_6;go_simp
    refine st_val rfl rfl (wanted_is (j:=3) (d:=169) rfl rfl h169 rfl) Y fun a260 e=>?_;clear Y;clear h171;have h172:=pt_ F e;replace F:=pu_ F e;replace h169:=so_ e h169;clear e;have Y:Yv a260 o6_34_7 w248 (.bool false):=by unfold Yv o6_34_7;go_simp
    refine sw_ rfl Y F fun a261 F h173=>?_;clear Y h169 h172;refine st_end ?_;clear h3;have⟨h21,h22,h25,h152,h153,h154⟩:=F.o6 h21 h22 h25 h152 h153 h154;replace h155:=F.of h155;have R:=F.r;clear F;refine wp_cond_false (x:=c6_119) (y:=Code.skip) (eval_slot h173) ?_;refine wp_skip ?_;refine wp_seq (x:=c6_124) (y:=c6_125) ?_;refine reg_in (l:=[0,1,2,3,4,5,6,7]) rfl ?_;have F:=fe_ R;clear R;refine sw_ rfl (yl4_ rfl (F.of h21) B221) F fun a262 F h182=>?_;have HLG:=Lib.hid (ls_good HLS.out HRW.out);refine st_call rfl rfl (wanted_free rfl) (yc1_ en6_41 rfl h182) ((items_sx (HL.out.on KL)).mono ?_);rintro e9 w263 ⟨ia,ic,qs,a1,c1,rfl,hf,kk⟩;replace K1:=keep_onto K1 kk;replace KL:=keep_onto KL kk;replace KW:=keep_onto KW kk;replace B1:=blk_on B1 kk;replace B221:=blk_on B221 kk;replace B238:=blk_on B238 kk;clear kk;have HI1:=Lib.hid hf;clear hf;have KI:=Keep.refl (fun g=>g < w263.heap.size) w263;refine ⟨_,rfl,fun a264 e=>?_⟩;clear h182;have h183:=pt_ F e;replace F:=pu_ F e;clear e;refine sw_ rfl (ym_ rfl h183) F fun a265 F h181=>?_;clear h183;refine swe_ rfl (ye20_ rfl h181) F fun a266 e F h184=>?_;replace h181:=so_ e h181;clear e;refine swe_ rfl (ye21_ rfl h181) F fun a267 e F h185=>?_;clear h181;replace h184:=so_ e h184;clear e;have Y:(execOp a267.eval o6_36_5).run Try.prog w263=.ok (.value (.pointer (some ⟨w263.heap.size,0,none⟩))) (w263.alloc (.cells #[.int .i64 0,.string (⟨#[]⟩),.int .i64 0,.slice none 0 0] 24)):=by unfold o6_36_5;go_simp
    have B268:=Blk.new w263 24 #[.int .i64 0,.string (⟨#[]⟩),.int .i64 0,.slice none 0 0];obtain ⟨w269,hw⟩:∃ x,x=w263.alloc (.cells #[.int .i64 0,.string (⟨#[]⟩),.int .i64 0,.slice none 0 0] 24):=⟨_,rfl⟩;rw [← hw] at Y B268;obtain ⟨b268,hb⟩:∃ x,x=w263.heap.size:=⟨_,rfl⟩;rw [← hb] at Y B268;have Nb1_b268:=nb_ hb B1;replace B1:=ba_ hw B1;have Nb221_b268:=nb_ hb B221;replace B221:=ba_ hw B221;have Nb238_b268:=nb_ hb B238;replace B238:=ba_ hw B238;have LK1_b268:=lk_ hb K1;replace K1:=ka_ hw K1;have LKL_b268:=lk_ hb KL;replace KL:=ka_ hw KL;have LKW_b268:=lk_ hb KW;replace KW:=ka_ hw KW;have LKI_b268:=lk_ hb KI;replace KI:=ka_ hw KI;clear hw hb;refine swe_ rfl Y F fun a270 e F h27=>?_;clear Y;have⟨h184,h185⟩:=s2_ e h184 h185;clear e;refine swe_ rfl (ya_ rfl h184) F fun a271 e F h26=>?_;clear h184;have⟨h27,h185⟩:=s2_ e h27 h185;clear e;obtain ⟨w272,Y,hk,hB⟩:=ys4_ (o:=o6_36_7) rfl h27 h185 B268;replace K1:=kx_ hk K1 (Nat.not_lt.2 LK1_b268);replace KL:=kx_ hk KL (Nat.not_lt.2 LKL_b268);replace KW:=kx_ hk KW (Nat.not_lt.2 LKW_b268);replace KI:=kx_ hk KI (Nat.not_lt.2 LKI_b268);replace B1:=bx_ hk B1 Nb1_b268;replace B221:=bx_ hk B221 Nb221_b268;replace B238:=bx_ hk B238 Nb238_b268;clear B268;have B268:=hB;clear hB hk;refine st_skip rfl rfl (wanted_free rfl) Y ?_;clear Y;refine st_end ?_;have⟨h21,h22,h25,h152,h153,h154⟩:=F.o6 h21 h22 h25 h152 h153 h154;replace h155:=F.of h155;clear h173;clear h185;have R:=F.r;clear F;refine wp_seq (x:=c6_126) (y:=c6_127) ?_;refine reg_in (l:=[0,1,2,3,4,5,6,7]) rfl ?_;have F:=fe_ R;clear R;refine sw_ rfl (yl4_ rfl (F.of h25) B238) F fun a273 F h187=>?_;refine st_call rfl rfl (wanted_free rfl) (yc1_ en6_42 rfl h187) ((refItems_any (HW.out.on KW) HRW.out).mono ?_);rintro e9 w274 ⟨ja,jc,rs,te,a2,c2,rfl,hf,kk⟩;replace K1:=keep_onto K1 kk;replace KL:=keep_onto KL kk;replace KW:=keep_onto KW kk;replace KI:=keep_onto KI kk;replace B1:=blk_on B1 kk;replace B221:=blk_on B221 kk;replace B238:=blk_on B238 kk;replace B268:=blk_on B268 kk;clear kk;have HI2:=Lib.hid hf;clear hf;have KJ:=Keep.refl (fun g=>g < w274.heap.size) w274;refine ⟨_,rfl,fun a275 e=>?_⟩;clear h187;have h188:=pt_ F e;replace F:=pu_ F e;clear e;refine sw_ rfl (ym_ rfl h188) F fun a276 F h186=>?_;clear h188;refine swe_ rfl (ye20_ rfl h186) F fun a277 e F h189=>?_;replace h186:=so_ e h186;clear e;refine swe_ rfl (ye21_ rfl h186) F fun a278 e F h190=>?_;clear h186;replace h189:=so_ e h189;clear e;have Y:(execOp a278.eval o6_37_5).run Try.prog w274=.ok (.value (.pointer (some ⟨w274.heap.size,0,none⟩))) (w274.alloc (.cells #[.int .i64 0,.string (⟨#[]⟩),.int .i64 0,.slice none 0 0] 24)):=by unfold o6_37_5;go_simp
    have B279:=Blk.new w274 24 #[.int .i64 0,.string (⟨#[]⟩),.int .i64 0,.slice none 0 0];obtain ⟨w280,hw⟩:∃ x,x=w274.alloc (.cells #[.int .i64 0,.string (⟨#[]⟩),.int .i64 0,.slice none 0 0] 24):=⟨_,rfl⟩;rw [← hw] at Y B279;obtain ⟨b279,hb⟩:∃ x,x=w274.heap.size:=⟨_,rfl⟩;rw [← hb] at Y B279;have Nb1_b279:=nb_ hb B1;replace B1:=ba_ hw B1;have Nb221_b279:=nb_ hb B221;replace B221:=ba_ hw B221;have Nb238_b279:=nb_ hb B238;replace B238:=ba_ hw B238;have Nb268_b279:=nb_ hb B268;replace B268:=ba_ hw B268;have LK1_b279:=lk_ hb K1;replace K1:=ka_ hw K1;have LKL_b279:=lk_ hb KL;replace KL:=ka_ hw KL;have LKW_b279:=lk_ hb KW;replace KW:=ka_ hw KW;have LKI_b279:=lk_ hb KI;replace KI:=ka_ hw KI;have LKJ_b279:=lk_ hb KJ;replace KJ:=ka_ hw KJ;clear hw hb;refine swe_ rfl Y F fun a281 e F h29=>?_;clear Y;have⟨h189,h190⟩:=s2_ e h189 h190;clear e;refine swe_ rfl (ya_ rfl h189) F fun a282 e F h28=>?_;clear h189;have⟨h29,h190⟩:=s2_ e h29 h190;clear e;obtain ⟨w283,Y,hk,hB⟩:=ys4_ (o:=o6_37_7) rfl h29 h190 B279;replace K1:=kx_ hk K1 (Nat.not_lt.2 LK1_b279);replace KL:=kx_ hk KL (Nat.not_lt.2 LKL_b279);replace KW:=kx_ hk KW (Nat.not_lt.2 LKW_b279);replace KI:=kx_ hk KI (Nat.not_lt.2 LKI_b279);replace KJ:=kx_ hk KJ (Nat.not_lt.2 LKJ_b279);replace B1:=bx_ hk B1 Nb1_b279;replace B221:=bx_ hk B221 Nb221_b279;replace B238:=bx_ hk B238 Nb238_b279;replace B268:=bx_ hk B268 Nb268_b279;clear B279;have B279:=hB;clear hB hk;refine st_skip rfl rfl (wanted_free rfl) Y ?_;clear Y;refine st_end ?_;have⟨h21,h22,h25,h26,h27,h152,h153,h154⟩:=F.o8 h21 h22 h25 h26 h27 h152 h153 h154;replace h155:=F.of h155;clear h190;have R:=F.r;clear F;refine wp_seq (x:=c6_128) (y:=Code.ret) ?_;refine reg_in (l:=[0,1,2,3,4,5,6,7,8,9,10,11,12,13,14,15,16,17]) rfl ?_;have F:=fe_ R;clear R;refine sw_ rfl (ym_ rfl (F.of h22)) F fun a284 F h191=>?_;have Y:Yv a284 o6_38_1 w283 (.bool true):=by have hq2:=HLG.out.1;unfold Yv o6_38_1;go_simp
    refine sw_ rfl Y F fun a285 F h192=>?_;clear Y h191;refine sw_ rfl (ym_ rfl h192) F fun a286 F h193=>?_;clear h192;refine st_val rfl rfl (wanted_is (j:=2) (d:=193) rfl rfl h193 rfl) (yl4_ rfl (F.of h21) B221) fun a287 e=>?_;have h194:=pt_ F e;replace F:=pu_ F e;replace h193:=so_ e h193;clear e;refine st_val rfl rfl (wanted_is (j:=2) (d:=193) rfl rfl h193 rfl) (yl4_ rfl (F.of h25) B238) fun a288 e=>?_;have h195:=pt_ F e;replace F:=pu_ F e;have⟨h193,h194⟩:=s2_ e h193 h194;clear e;refine st_call rfl rfl (wanted_is (j:=2) (d:=193) rfl rfl h193 rfl) (yc2_ en6_38 rfl h194 h195) ((refsame_sx (HL.out.on KL) (HW.out.on KW) HLG.out.2.1 HRW.out HLG.out.2.2).mono ?_);rintro e9 w289 ⟨rfl,kk⟩;replace K1:=keep_onto K1 kk;replace KL:=keep_onto KL kk;replace KW:=keep_onto KW kk;replace KI:=keep_onto KI kk;replace KJ:=keep_onto KJ kk;replace B1:=blk_on B1 kk;replace B221:=blk_on B221 kk;replace B238:=blk_on B238 kk;replace B268:=blk_on B268 kk;replace B279:=blk_on B279 kk;clear kk;refine ⟨_,rfl,fun a290 e=>?_⟩;clear h194 h195;have h196:=pt_ F e;replace F:=pu_ F e;replace h193:=so_ e h193;clear e;have Y:Yv a290 o6_38_6 w289 (.bool true):=by unfold Yv o6_38_6;go_simp
    refine sw_ rfl Y F fun a291 F h197=>?_;clear Y h193 h196;refine sw_ rfl (ym_ rfl h197) F fun a292 F h198=>?_;clear h197;refine st_val rfl rfl (wanted_is (j:=7) (d:=198) rfl rfl h198 rfl) (ym_ rfl (F.of h26)) fun a293 e=>?_;have h199:=pt_ F e;replace F:=pu_ F e;replace h198:=so_ e h198;clear e;refine st_val rfl rfl (wanted_is (j:=7) (d:=198) rfl rfl h198 rfl) (ym_ rfl (F.of h28)) fun a294 e=>?_;have h200:=pt_ F e;replace F:=pu_ F e;have⟨h198,h199⟩:=s2_ e h198 h199;clear e;refine st_call rfl rfl (wanted_is (j:=7) (d:=198) rfl rfl h198 rfl) (yc2_ en6_43 rfl h199 h200) ((refSameAll_any (tmsl_on HI1.out.1 KI) (tmsl_on HI2.out.1 KJ) (it_len HLG.out.2.1 HRW.out HLG.out.2.2 HI1.out.2.1 HI2.out.2.2.1) (by rw [it_len HLG.out.2.1 HRW.out HLG.out.2.2 HI1.out.2.1 HI2.out.2.2.1];have:=HI2.out.2.2.2.2.2.2;omega) (it_same HLG.out.2.1 HRW.out HLG.out.2.2 HI1.out.2.1 HI2.out.2.2.1 HI2.out.2.2.2.2.1)).mono ?_);rintro e9 w295 ⟨rfl,kk⟩;replace K1:=keep_onto K1 kk;replace KL:=keep_onto KL kk;replace KW:=keep_onto KW kk;replace KI:=keep_onto KI kk;replace KJ:=keep_onto KJ kk;replace B1:=blk_on B1 kk;replace B221:=blk_on B221 kk;replace B238:=blk_on B238 kk;replace B268:=blk_on B268 kk;replace B279:=blk_on B279 kk;clear kk;refine ⟨_,rfl,fun a296 e=>?_⟩;clear h199 h200;have h201:=pt_ F e;replace F:=pu_ F e;replace h198:=so_ e h198;clear e;have Y:Yv a296 o6_38_11 w295 (.bool true):=by unfold Yv o6_38_11;go_simp
    refine sw_ rfl Y F fun a297 F h202=>?_;clear Y h198 h201;refine sw_ rfl (ym_ rfl h202) F fun a298 F h203=>?_;clear h202;refine st_val rfl rfl (wanted_is (j:=12) (d:=203) rfl rfl h203 rfl) (yl4_ rfl (F.of h27) B268) fun a299 e=>?_;have h204:=pt_ F e;replace F:=pu_ F e;replace h203:=so_ e h203;clear e;refine st_val rfl rfl (wanted_is (j:=12) (d:=203) rfl rfl h203 rfl) (yl4_ rfl (F.of h29) B279) fun a300 e=>?_;have h205:=pt_ F e;replace F:=pu_ F e;have⟨h203,h204⟩:=s2_ e h203 h204;clear e;refine st_call rfl rfl (wanted_is (j:=12) (d:=203) rfl rfl h203 rfl) (yc2_ en6_38 rfl h204 h205) ((refsame_sx (HI1.out.2.2.1.on KI) (HI2.out.2.1.on KJ) (it_end HLG.out.2.1 HRW.out HLG.out.2.2).1 HI2.out.2.2.2.2.2.1 ((it_end HLG.out.2.1 HRW.out HLG.out.2.2).2.trans HI2.out.2.2.2.1.symm)).mono ?_);rintro e9 w301 ⟨rfl,kk⟩;replace K1:=keep_onto K1 kk;replace KL:=keep_onto KL kk;replace KW:=keep_onto KW kk;replace KI:=keep_onto KI kk;replace KJ:=keep_onto KJ kk;replace B1:=blk_on B1 kk;replace B221:=blk_on B221 kk;replace B238:=blk_on B238 kk;replace B268:=blk_on B268 kk;replace B279:=blk_on B279 kk;clear kk;refine ⟨_,rfl,fun a302 e=>?_⟩;clear h204 h205;have h206:=pt_ F e;replace F:=pu_ F e;replace h203:=so_ e h203;clear e;have Y:Yv a302 o6_38_16 w301 (.bool true):=by unfold Yv o6_38_16;go_simp
    refine sw_ rfl Y F fun a303 F h207=>?_;clear Y h203 h206;refine sw_ rfl (ya_ rfl h207) F fun a304 F h8=>?_;clear h207;refine st_end ?_;clear h21;clear h22;clear h25;clear h26;clear h27;clear h28;clear h29;have⟨h152,h153,h154,h155⟩:=F.o4 h152 h153 h154 h155;have R:=F.r;clear F;refine wp_ret ?_;change bodyPost Try.prog Try.f3 (fun e w'=>e=.returned (.bool true)∧Keep (fun g=>g < W.heap.size) W w') .ret a304 w301;refine ret_one rfl R h8 ?_;exact ⟨rfl,K1⟩
  | true =>
   have fb244:=hb244;clear hb244;simp only [dd_] at fb244;refine st_not rfl rfl (wanted_is (j:=3) (d:=169) rfl rfl h169 rfl) fun a305 e=>?_;have h170:=pt_ F e;replace F:=pu_ F e;replace h169:=so_ e h169;clear e;refine st_not rfl rfl (wanted_is (j:=3) (d:=169) rfl rfl h169 rfl) fun a306 e=>?_;clear h170;have h171:=pt_ F e;replace F:=pu_ F e;replace h169:=so_ e h169;clear e;refine st_not rfl rfl (wanted_is (j:=3) (d:=169) rfl rfl h169 rfl) fun a307 e=>?_;clear h171;have h172:=pt_ F e;replace F:=pu_ F e;replace h169:=so_ e h169;clear e;have Y:Yv a307 o6_34_7 w241 (.bool true):=by unfold Yv o6_34_7;go_simp
   refine sw_ rfl Y F fun a308 F h173=>?_;clear Y h169 h172;refine st_end ?_;clear h3;have⟨h21,h22,h25,h152,h153,h154⟩:=F.o6 h21 h22 h25 h152 h153 h154;replace h155:=F.of h155;have R:=F.r;clear F;refine wp_cond_true (x:=c6_119) (y:=Code.skip) (eval_slot h173) ?_;refine wp_seq (x:=c6_120) (y:=Code.ret) ?_;refine reg_in (l:=[0,1,2,3,4,5,6,7]) rfl ?_;have F:=fe_ R;clear R;refine sw_ rfl (ym_ rfl (F.of h22)) F fun a309 F h174=>?_;have Y:Yv a309 o6_35_1 w241 (.bool true):=by have hq1:=ls_bad HLS.out (by rw [List.length_map];first | exact .inl (by omega) | exact .inr HRW.out);have hq2:=hq1.1;have hq3:=hq1.2;clear hq1;unfold Yv o6_35_1;go_simp
   refine sw_ rfl Y F fun a310 F h175=>?_;clear Y h174;refine sw_ rfl (ym_ rfl h175) F fun a311 F h176=>?_;clear h175;refine st_val rfl rfl (wanted_is (j:=2) (d:=176) rfl rfl h176 rfl) (yf0_ rfl (F.of h21)) fun a312 e=>?_;have h177:=pt_ F e;replace F:=pu_ F e;replace h176:=so_ e h176;clear e;refine st_val rfl rfl (wanted_is (j:=2) (d:=176) rfl rfl h176 rfl) (yk0_ rfl h177 B221) fun a313 e=>?_;clear h177;have h178:=pt_ F e;replace F:=pu_ F e;replace h176:=so_ e h176;clear e;have Y:Yv a313 o6_35_5 w241 (.bool true):=by have hq1:=ls_bad HLS.out (by rw [List.length_map];first | exact .inl (by omega) | exact .inr HRW.out);have hq2:=hq1.1;have hq3:=hq1.2;clear hq1;unfold Yv o6_35_5;go_simp
   refine st_val rfl rfl (wanted_is (j:=2) (d:=176) rfl rfl h176 rfl) Y fun a314 e=>?_;clear Y;clear h178;have h179:=pt_ F e;replace F:=pu_ F e;replace h176:=so_ e h176;clear e;have Y:Yv a314 o6_35_6 w241 (.bool true):=by unfold Yv o6_35_6;go_simp
   refine sw_ rfl Y F fun a315 F h180=>?_;clear Y h176 h179;refine sw_ rfl (ya_ rfl h180) F fun a316 F h8=>?_;clear h180;refine st_end ?_;have⟨h21,h22,h25,h152,h153,h154⟩:=F.o6 h21 h22 h25 h152 h153 h154;replace h155:=F.of h155;clear h173;have R:=F.r;clear F;refine wp_ret ?_;change bodyPost Try.prog Try.f3 (fun e w'=>e=.returned (.bool true)∧Keep (fun g=>g < W.heap.size) W w') .ret a316 w241;refine ret_one rfl R h8 ?_;exact ⟨rfl,K1⟩
 | true =>
  have fb232:=hb232;clear hb232;simp only [dd_] at fb232;refine wp_cond_true (x:=Code.skip) (y:=c6_100) (eval_slot h155) ?_;refine wp_skip ?_;refine wp_seq (x:=c6_102) (y:=c6_112) ?_;refine wp_block (id:=4) (c:=c6_103) ?_;refine wp_seq (x:=c6_104) (y:=c6_105) ?_;refine reg_in (l:=[0,1,2,3]) rfl ?_;have F:=fe_ R;clear R;obtain ⟨p,hp⟩:∃ q,ps[j]? = some q:=⟨_,List.getElem?_eq_getElem (by omega)⟩;obtain ⟨bP,oP,hsP,-⟩:=tmsl_addr HE.out (show j < ps.length by omega);have hltP:(j:Int) < (ps.length:Int):=by omega
  have HP:=Lib.hid hp;clear hp;have HSP:=Lib.hid hsP;clear hsP;have Y:Yv a233 o6_29_0 w230 (.pointer (some ⟨bP,oP + j * 4,none⟩)):=by have r152:=F.of h152;have r154:=F.of h154;have hsP:=HSP.out;unfold Yv o6_29_0;go_simp
  refine sw_ rfl Y F fun a317 F h156=>?_;clear Y;have Y:Yv a317 o6_29_1 w230 (.agg #[.int .i64 p.1.k,.string (str p.1.nm),.int .i64 p.1.i,.slice p.2.1 p.1.args.length p.2.2]):=by obtain ⟨⟨c0,c1,c2,c3⟩,-⟩:=tmsl_at (tmsl_on HE.out K1) HSP.out HP.out;unfold Yv o6_29_1;go_simp
  refine swe_ rfl Y F fun a318 e F h157=>?_;clear Y;replace h156:=so_ e h156;clear e;have Y:(execOp a318.eval o6_29_2).run Try.prog w230=.ok (.value (.pointer (some ⟨w230.heap.size,0,none⟩))) (w230.alloc (.cells #[.int .i64 0,.string (⟨#[]⟩),.int .i64 0,.slice none 0 0] 24)):=by unfold o6_29_2;go_simp
  have B319:=Blk.new w230 24 #[.int .i64 0,.string (⟨#[]⟩),.int .i64 0,.slice none 0 0];obtain ⟨w320,hw⟩:∃ x,x=w230.alloc (.cells #[.int .i64 0,.string (⟨#[]⟩),.int .i64 0,.slice none 0 0] 24):=⟨_,rfl⟩;rw [← hw] at Y B319;obtain ⟨b319,hb⟩:∃ x,x=w230.heap.size:=⟨_,rfl⟩;rw [← hb] at Y B319;have Nb1_b319:=nb_ hb B1;replace B1:=ba_ hw B1;have Nb221_b319:=nb_ hb B221;replace B221:=ba_ hw B221;have LK1_b319:=lk_ hb K1;replace K1:=ka_ hw K1;have LKL_b319:=lk_ hb KL;replace KL:=ka_ hw KL;clear hw hb;refine swe_ rfl Y F fun a321 e F h24=>?_;clear Y;have⟨h156,h157⟩:=s2_ e h156 h157;clear e;obtain ⟨w322,Y,hk,hB⟩:=ys4_ (o:=o6_29_3) rfl h24 h157 B319;replace K1:=kx_ hk K1 (Nat.not_lt.2 LK1_b319);replace KL:=kx_ hk KL (Nat.not_lt.2 LKL_b319);replace B1:=bx_ hk B1 Nb1_b319;replace B221:=bx_ hk B221 Nb221_b319;clear B319;have B319:=hB;clear hB hk;refine st_skip rfl rfl (wanted_free rfl) Y ?_;clear Y;refine st_end ?_;have⟨h3,h4,h21,h22,h152,h153,h154,h155⟩:=F.o8 h3 h4 h21 h22 h152 h153 h154 h155;have R:=F.r;clear F;refine wp_seq (x:=c6_106) (y:=c6_107) ?_;refine reg_in (l:=[0,1,2,3]) rfl ?_;have F:=fe_ R;clear R;refine sw_ rfl (yl4_ rfl (F.of h24) B319) F fun a323 F h158=>?_;have Y:(execOp a323.eval o6_30_1).run Try.prog w322=.ok (.value (.slice (some ⟨w322.heap.size,0,none⟩) 1 1)) (w322.alloc (.cells #[.int .i64 p.1.k,.string (str p.1.nm),.int .i64 p.1.i,.slice p.2.1 p.1.args.length p.2.2] 24)):=by unfold o6_30_1;go_simp
  have B324:=Blk.new w322 24 #[.int .i64 p.1.k,.string (str p.1.nm),.int .i64 p.1.i,.slice p.2.1 p.1.args.length p.2.2];obtain ⟨w325,hw⟩:∃ x,x=w322.alloc (.cells #[.int .i64 p.1.k,.string (str p.1.nm),.int .i64 p.1.i,.slice p.2.1 p.1.args.length p.2.2] 24):=⟨_,rfl⟩;rw [← hw] at Y B324;obtain ⟨b324,hb⟩:∃ x,x=w322.heap.size:=⟨_,rfl⟩;rw [← hb] at Y B324;have Nb1_b324:=nb_ hb B1;replace B1:=ba_ hw B1;have Nb221_b324:=nb_ hb B221;replace B221:=ba_ hw B221;have Nb319_b324:=nb_ hb B319;replace B319:=ba_ hw B319;have LK1_b324:=lk_ hb K1;replace K1:=ka_ hw K1;have LKL_b324:=lk_ hb KL;replace KL:=ka_ hw KL;clear hw hb;refine swe_ rfl Y F fun a326 e F h159=>?_;clear Y;replace h158:=so_ e h158;clear e;obtain ⟨z327,hz⟩:∃ zz,decide (p.1.ns ≤ 100)=zz:=⟨_,rfl⟩;refine st_call rfl rfl (wanted_free rfl) (yc1_ en6_33 rfl h159) ((tame_one ((tmsl_at (tmsl_on HE.out K1) HSP.out HP.out).2) B324 hz).mono ?_);rintro e9 w328 ⟨rfl,kk⟩;replace K1:=keep_onto K1 kk;replace KL:=keep_onto KL kk;replace B1:=blk_on B1 kk;replace B221:=blk_on B221 kk;replace B319:=blk_on B319 kk;replace B324:=blk_on B324 kk;clear kk;have HZp:=Lib.hid hz;clear hz;refine ⟨_,rfl,fun a329 e=>?_⟩;have h160:=pt_ F e;replace F:=pu_ F e;have⟨h158,h159⟩:=s2_ e h158 h159;clear e;cases z327 with
  | false =>
   have Y:Yv a329 o6_30_3 w328 (.bool true):=by unfold Yv o6_30_3;go_simp
   refine swe_ rfl Y F fun a330 e F h161=>?_;clear Y;have⟨h158,h159,h160⟩:=s3_ e h158 h159 h160;clear e;refine st_end ?_;have⟨h3,h4,h21,h22,h24,h152,h153,h154⟩:=F.o8 h3 h4 h21 h22 h24 h152 h153 h154;have⟨h155,h156,h157⟩:=F.o3 h155 h156 h157;have R:=F.r;clear F;refine wp_cond_true (x:=c6_108) (y:=Code.skip) (eval_slot h161) ?_;refine wp_seq (x:=c6_109) (y:=Code.ret) ?_;refine reg_in (l:=[0]) rfl ?_;have F:=fe_ R;clear R;have Y:Yv a330 o6_31_0 w328 (.bool true):=by unfold Yv o6_31_0;go_simp
   refine sw_ rfl Y F fun a331 F h8=>?_;clear Y;refine st_end ?_;have⟨h3,h4,h21,h22,h24,h152,h153,h154⟩:=F.o8 h3 h4 h21 h22 h24 h152 h153 h154;have⟨h155,h156,h157,h158,h159,h160⟩:=F.o6 h155 h156 h157 h158 h159 h160;replace h161:=F.of h161;have R:=F.r;clear F;refine wp_ret ?_;change bodyPost Try.prog Try.f3 (fun e w'=>e=.returned (.bool true)∧Keep (fun g=>g < W.heap.size) W w') .ret a331 w328;refine ret_one rfl R h8 ?_;exact ⟨rfl,K1⟩
  | true =>
   have Y:Yv a329 o6_30_3 w328 (.bool false):=by unfold Yv o6_30_3;go_simp
   refine swe_ rfl Y F fun a332 e F h161=>?_;clear Y;have⟨h158,h159,h160⟩:=s3_ e h158 h159 h160;clear e;refine st_end ?_;have⟨h3,h4,h21,h22,h24,h152,h153,h154⟩:=F.o8 h3 h4 h21 h22 h24 h152 h153 h154;have⟨h155,h156,h157⟩:=F.o3 h155 h156 h157;have R:=F.r;clear F;refine wp_cond_false (x:=c6_108) (y:=Code.skip) (eval_slot h161) ?_;refine wp_skip ?_;change (c6_112).wp _ _ _ _;refine reg_in (l:=[0,1]) rfl ?_;have F:=fe_ R;clear R;have Y:Yv a332 o6_32_0 w328 (.int .i64 ((j:Int) + 1)):=by have r154:=F.of h154;have hwj:IntKind.i64.wrap ((j:Int) + 1)=(j:Int) + 1:=(by rw [IntKind.wrap_i64];omega);unfold Yv o6_32_0;go_simp
   refine sw_ rfl Y F fun a333 F h162=>?_;clear Y;refine swe_ rfl (ym_ rfl h162) F fun a334 e F h154=>?_;replace h162:=so_ e h162;clear e;refine st_end ?_;have⟨h3,h4,h21,h22,h24,h152,h153,h155⟩:=F.o8 h3 h4 h21 h22 h24 h152 h153 h155;have⟨h156,h157,h158,h159,h160,h161⟩:=F.o6 h156 h157 h158 h159 h160 h161;have R:=F.r;clear F;exact ⟨_,by omega,j + 1,rfl,R,h3,h4,h21,h22,h152,h153,h154,K1,KL,B1,B221,(by omega)⟩
end Go.Proofs.Ytjinmnekfhekpaa
