/-
  The document's apply: walked with letter frames. No condition but where the terms lie.
-/
import Derived.Test.YtjinmnekfhekpaaJSx8
import Derived.Test.YtjinmnekfhekpaaJSx3
namespace Go.Proofs.Ytjinmnekfhekpaa
open Go.RowKit Go.Maps
set_option linter.unusedVariables false
set_option linter.unusedSimpArgs false
def apL (bs:List BP) (t:Tm):Tm:=if t.k=1 then (match bs.find? (fun q=>q.1 == t.i) with | some q=>mapT cpL q.2.1 | none=>bareV t) else bareV t
theorem apL_hit {bs:List BP} {t:Tm} {i:Nat} {q:BP} (h1:t.k=1) (hq:bs[i]? = some q) (he:q.1=t.i) (hn:∀ r ∈ bs.take i,r.1 ≠ t.i):mapT (apL bs) t=mapT cpL q.2.1:=by
  rw [mapT_n (by omega)]
  unfold apL
  rw [if_pos h1]
  obtain ⟨hi,hg⟩:=List.getElem?_eq_some_iff.1 hq
  have hb:bs=bs.take i ++ q::bs.drop (i + 1):=by rw [← hg,← List.drop_eq_getElem_cons hi,List.take_append_drop]
  have hf:bs.find? (fun q=>q.1 == t.i)=some q:=by
    rw [hb,List.find?_append]
    have h0:(bs.take i).find? (fun q=>q.1 == t.i)=none:=List.find?_eq_none.2 fun r hr=>by simpa using hn r hr
    rw [h0]
    simp [he]
  rw [hf]
theorem apL_miss {bs:List BP} {t:Tm} {i:Nat} (h1:t.k=1) (hi:bs.length ≤ i) (hn:∀ r ∈ bs.take i,r.1 ≠ t.i):mapT (apL bs) t=bareV t:=by
  rw [mapT_n (by omega)]
  unfold apL
  rw [if_pos h1,List.find?_eq_none.2 fun r hr=>by rw [List.take_of_length_le hi] at hn;simpa using hn r hr]
theorem apL_no {bs:List BP} {t:Tm} (h1:¬ t.k=1) (h4:¬ t.k=4):mapT (apL bs) t=bareV t:=by
  rw [mapT_n h4];unfold apL;rw [if_neg h1]
theorem fin_copy {W w:World} {lo:Nat} {t q:Tm} {a:Option Addr} {c:Nat} {g:Tm→Tm} (K:Keep (fun g=>g < W.heap.size) W w) (hf:Fr 0 (fun _=>False) w lo w.heap.size (mapT cpL q) a c) (hlo:W.heap.size ≤ lo) (he:mapT g t=mapT cpL q):∃ a' c',Ending.returned (.agg #[.int .i64 (mapT cpL q).k,.string (str (mapT cpL q).nm),.int .i64 (mapT cpL q).i,.slice a (mapT cpL q).args.length c])=.returned (tv (mapT g t) a' c')∧Fr 0 (fun _=>False) w W.heap.size w.heap.size (mapT g t) a' c'∧Keep (fun g=>g < W.heap.size) W w:=by
  rw [he]
  exact ⟨a,c,rfl,hf.up (Nat.le_refl _) hlo,K⟩
def o70_0_0:Oper:=⟨some 2,Op.box 24 (Operand.tmp 0),0, "ref.go:322",#[],none⟩
def o70_0_1:Oper:=⟨some 4,Op.alloc 24,0, "ref.go:322",#[],none⟩
def O70_0:Array Oper:=List.toArray (o70_0_0::o70_0_1::[])
theorem g70_0_0:O70_0[0]? = some o70_0_0:=rfl
theorem g70_0_1:O70_0[1]? = some o70_0_1:=rfl
def c70_1:Code:=Code.region 0 O70_0 false
def o70_1_0:Oper:=⟨some 8,Op.fieldAddr 24 (Operand.tmp 2) 0,0, "ref.go:323",#[],none⟩
def o70_1_1:Oper:=⟨some 9,Op.load 3 (Operand.tmp 8),3, "ref.go:323",#[ed_ 0],none⟩
def o70_1_2:Oper:=⟨some 10,Op.binOp Go.BinOp.eql 3 (Operand.tmp 9) (Operand.const (Value.int IntKind.i64 1)) 3,4, "ref.go:323",#[ed_ 1],none⟩
def O70_1:Array Oper:=List.toArray (o70_1_0::o70_1_1::o70_1_2::[])
theorem g70_1_0:O70_1[0]? = some o70_1_0:=rfl
theorem g70_1_1:O70_1[1]? = some o70_1_1:=rfl
theorem g70_1_2:O70_1[2]? = some o70_1_2:=rfl
def c70_4:Code:=Code.region 1 O70_1 false
def o70_2_0:Oper:=⟨some 5,Op.assign (Operand.const (Value.int IntKind.i64 0)),3, "ref.go:324",#[],none⟩
def O70_2:Array Oper:=List.toArray (o70_2_0::[])
theorem g70_2_0:O70_2[0]? = some o70_2_0:=rfl
def c70_8:Code:=Code.region 2 O70_2 false
def o70_3_0:Oper:=⟨some 11,Op.move (Operand.tmp 5),3, "ref.go:324",#[],none⟩
def o70_3_1:Oper:=⟨some 12,Op.move (Operand.tmp 1),25, "ref.go:324",#[],none⟩
def o70_3_2:Oper:=⟨some 13,Op.call { callee:=Callee.builtin Go.Builtin.len,args:=#[Operand.tmp 12],argTypes:=#[25] },3, "ref.go:324",#[ed_ 1],none⟩
def o70_3_3:Oper:=⟨some 14,Op.binOp Go.BinOp.lss 3 (Operand.tmp 11) (Operand.tmp 13) 3,4, "ref.go:324",#[ed_ 0,ed_ 2],none⟩
def O70_3:Array Oper:=List.toArray (o70_3_0::o70_3_1::o70_3_2::o70_3_3::[])
theorem g70_3_0:O70_3[0]? = some o70_3_0:=rfl
theorem g70_3_1:O70_3[1]? = some o70_3_1:=rfl
theorem g70_3_2:O70_3[2]? = some o70_3_2:=rfl
theorem g70_3_3:O70_3[3]? = some o70_3_3:=rfl
def c70_13:Code:=Code.region 3 O70_3 false
def c70_16:Code:=Code.exit 0
def c70_14:Code:=Code.cond (Operand.tmp 14) Code.skip c70_16
def c70_12:Code:=Code.seq c70_13 c70_14
def o70_5_0:Oper:=⟨some 17,Op.move (Operand.tmp 1),25, "ref.go:325",#[],none⟩
def o70_5_1:Oper:=⟨some 18,Op.move (Operand.tmp 5),3, "ref.go:325",#[],none⟩
def o70_5_2:Oper:=⟨some 19,Op.indexAddr 25 (Operand.tmp 17) (Operand.tmp 18),0, "ref.go:325",#[ed_ 0,ed_ 1],none⟩
def o70_5_3:Oper:=⟨some 20,Op.fieldAddr 29 (Operand.tmp 19) 0,0, "ref.go:325",#[ed_ 2],none⟩
def o70_5_4:Oper:=⟨some 21,Op.load 2 (Operand.tmp 20),2, "ref.go:325",#[ed_ 3],none⟩
def o70_5_5:Oper:=⟨some 22,Op.fieldAddr 24 (Operand.tmp 2) 2,0, "ref.go:325",#[],none⟩
def o70_5_6:Oper:=⟨some 23,Op.load 2 (Operand.tmp 22),2, "ref.go:325",#[ed_ 5],none⟩
def o70_5_7:Oper:=⟨some 24,Op.binOp Go.BinOp.eql 2 (Operand.tmp 21) (Operand.tmp 23) 2,4, "ref.go:325",#[ed_ 4,ed_ 6],none⟩
def O70_5:Array Oper:=List.toArray (o70_5_0::o70_5_1::o70_5_2::o70_5_3::o70_5_4::o70_5_5::o70_5_6::o70_5_7::[])
theorem g70_5_0:O70_5[0]? = some o70_5_0:=rfl
theorem g70_5_1:O70_5[1]? = some o70_5_1:=rfl
theorem g70_5_2:O70_5[2]? = some o70_5_2:=rfl
theorem g70_5_3:O70_5[3]? = some o70_5_3:=rfl
theorem g70_5_4:O70_5[4]? = some o70_5_4:=rfl
theorem g70_5_5:O70_5[5]? = some o70_5_5:=rfl
theorem g70_5_6:O70_5[6]? = some o70_5_6:=rfl
theorem g70_5_7:O70_5[7]? = some o70_5_7:=rfl
theorem ns70_5:Region.noSelect O70_5=true:=by kernel_rfl
def c70_20:Code:=Code.region 5 O70_5 true
def o70_6_0:Oper:=⟨some 25,Op.move (Operand.tmp 1),25, "ref.go:326",#[],none⟩
def o70_6_1:Oper:=⟨some 26,Op.move (Operand.tmp 5),3, "ref.go:326",#[],none⟩
def o70_6_2:Oper:=⟨some 27,Op.indexAddr 25 (Operand.tmp 25) (Operand.tmp 26),0, "ref.go:326",#[ed_ 0,ed_ 1],none⟩
def o70_6_3:Oper:=⟨some 28,Op.fieldAddr 29 (Operand.tmp 27) 1,0, "ref.go:326",#[ed_ 2],none⟩
def o70_6_4:Oper:=⟨some 29,Op.load 24 (Operand.tmp 28),24, "ref.go:326",#[ed_ 3],none⟩
def o70_6_5:Oper:=⟨some 30,Op.call { callee:=Callee.value (Operand.func 8),args:=#[Operand.tmp 29],argTypes:=#[24] },24, "ref.go:326",#[ed_ 4],none⟩
def o70_6_6:Oper:=⟨none,Op.store 24 (Operand.tmp 4) (Operand.tmp 30),0, "ref.go:326",#[ed_ 5,ec_ 5,ep_ 0,ep_ 1,ep_ 2,ep_ 3,ep_ 4,ep_ 5],none⟩
def O70_6:Array Oper:=List.toArray (o70_6_0::o70_6_1::o70_6_2::o70_6_3::o70_6_4::o70_6_5::o70_6_6::[])
theorem g70_6_0:O70_6[0]? = some o70_6_0:=rfl
theorem g70_6_1:O70_6[1]? = some o70_6_1:=rfl
theorem g70_6_2:O70_6[2]? = some o70_6_2:=rfl
theorem g70_6_3:O70_6[3]? = some o70_6_3:=rfl
theorem g70_6_4:O70_6[4]? = some o70_6_4:=rfl
theorem g70_6_5:O70_6[5]? = some o70_6_5:=rfl
theorem g70_6_6:O70_6[6]? = some o70_6_6:=rfl
def c70_23:Code:=Code.region 6 O70_6 false
def c70_22:Code:=Code.seq c70_23 Code.ret
def c70_21:Code:=Code.cond (Operand.tmp 24) c70_22 Code.skip
def c70_19:Code:=Code.seq c70_20 c70_21
def c70_18:Code:=Code.block 1 c70_19
def o70_4_0:Oper:=⟨some 15,Op.move (Operand.tmp 5),3, "ref.go:324",#[],none⟩
def o70_4_1:Oper:=⟨some 16,Op.binOp Go.BinOp.add 3 (Operand.tmp 15) (Operand.const (Value.int IntKind.i64 1)) 3,3, "ref.go:324",#[ed_ 0],none⟩
def o70_4_2:Oper:=⟨some 5,Op.assign (Operand.tmp 16),3, "ref.go:324",#[ed_ 1,ep_ 0,ep_ 1],none⟩
def O70_4:Array Oper:=List.toArray (o70_4_0::o70_4_1::o70_4_2::[])
theorem g70_4_0:O70_4[0]? = some o70_4_0:=rfl
theorem g70_4_1:O70_4[1]? = some o70_4_1:=rfl
theorem g70_4_2:O70_4[2]? = some o70_4_2:=rfl
def c70_26:Code:=Code.region 4 O70_4 false
def c70_17:Code:=Code.seq c70_18 c70_26
def c70_11:Code:=Code.seq c70_12 c70_17
def c70_10:Code:=Code.loop c70_11
def c70_9:Code:=Code.block 0 c70_10
def c70_7:Code:=Code.seq c70_8 c70_9
def o70_7_0:Oper:=⟨some 31,Op.load 24 (Operand.tmp 2),24, "ref.go:329",#[],none⟩
def o70_7_1:Oper:=⟨some 32,Op.call { callee:=Callee.value (Operand.func 70),args:=#[Operand.tmp 31],argTypes:=#[24] },24, "ref.go:329",#[ed_ 0],none⟩
def o70_7_2:Oper:=⟨none,Op.store 24 (Operand.tmp 4) (Operand.tmp 32),0, "ref.go:329",#[ed_ 1,ec_ 1,ep_ 0,ep_ 1],none⟩
def O70_7:Array Oper:=List.toArray (o70_7_0::o70_7_1::o70_7_2::[])
theorem g70_7_0:O70_7[0]? = some o70_7_0:=rfl
theorem g70_7_1:O70_7[1]? = some o70_7_1:=rfl
theorem g70_7_2:O70_7[2]? = some o70_7_2:=rfl
def c70_28:Code:=Code.region 7 O70_7 false
def c70_27:Code:=Code.seq c70_28 Code.ret
def c70_6:Code:=Code.seq c70_7 c70_27
def c70_5:Code:=Code.cond (Operand.tmp 10) c70_6 Code.skip
def c70_3:Code:=Code.seq c70_4 c70_5
def o70_8_0:Oper:=⟨some 33,Op.fieldAddr 24 (Operand.tmp 2) 0,0, "ref.go:331",#[],none⟩
def o70_8_1:Oper:=⟨some 34,Op.load 3 (Operand.tmp 33),3, "ref.go:331",#[ed_ 0],none⟩
def o70_8_2:Oper:=⟨some 35,Op.binOp Go.BinOp.neq 3 (Operand.tmp 34) (Operand.const (Value.int IntKind.i64 4)) 3,4, "ref.go:331",#[ed_ 1],none⟩
def O70_8:Array Oper:=List.toArray (o70_8_0::o70_8_1::o70_8_2::[])
theorem g70_8_0:O70_8[0]? = some o70_8_0:=rfl
theorem g70_8_1:O70_8[1]? = some o70_8_1:=rfl
theorem g70_8_2:O70_8[2]? = some o70_8_2:=rfl
def c70_33:Code:=Code.region 8 O70_8 false
def o70_9_0:Oper:=⟨some 36,Op.load 24 (Operand.tmp 2),24, "ref.go:332",#[],none⟩
def o70_9_1:Oper:=⟨some 37,Op.call { callee:=Callee.value (Operand.func 70),args:=#[Operand.tmp 36],argTypes:=#[24] },24, "ref.go:332",#[ed_ 0],none⟩
def o70_9_2:Oper:=⟨none,Op.store 24 (Operand.tmp 4) (Operand.tmp 37),0, "ref.go:332",#[ed_ 1,ec_ 1,ep_ 0,ep_ 1],none⟩
def O70_9:Array Oper:=List.toArray (o70_9_0::o70_9_1::o70_9_2::[])
theorem g70_9_0:O70_9[0]? = some o70_9_0:=rfl
theorem g70_9_1:O70_9[1]? = some o70_9_1:=rfl
theorem g70_9_2:O70_9[2]? = some o70_9_2:=rfl
def c70_36:Code:=Code.region 9 O70_9 false
def c70_35:Code:=Code.seq c70_36 Code.ret
def c70_34:Code:=Code.cond (Operand.tmp 35) c70_35 Code.skip
def c70_32:Code:=Code.seq c70_33 c70_34
def o70_10_0:Oper:=⟨some 38,Op.fieldAddr 24 (Operand.tmp 2) 1,0, "ref.go:334",#[],none⟩
def o70_10_1:Oper:=⟨some 39,Op.load 9 (Operand.tmp 38),9, "ref.go:334",#[ed_ 0],none⟩
def o70_10_2:Oper:=⟨some 40,Op.build 24 #[(0,Operand.const (Value.int IntKind.i64 4)),(1,Operand.tmp 39)],24, "ref.go:334",#[ed_ 1],none⟩
def o70_10_3:Oper:=⟨some 6,Op.alloc 24,0, "ref.go:334",#[],none⟩
def o70_10_4:Oper:=⟨none,Op.store 24 (Operand.tmp 6) (Operand.tmp 40),0, "ref.go:334",#[ed_ 3,ed_ 2,ep_ 0,ep_ 1,ep_ 2,ep_ 3],none⟩
def O70_10:Array Oper:=List.toArray (o70_10_0::o70_10_1::o70_10_2::o70_10_3::o70_10_4::[])
theorem g70_10_0:O70_10[0]? = some o70_10_0:=rfl
theorem g70_10_1:O70_10[1]? = some o70_10_1:=rfl
theorem g70_10_2:O70_10[2]? = some o70_10_2:=rfl
theorem g70_10_3:O70_10[3]? = some o70_10_3:=rfl
theorem g70_10_4:O70_10[4]? = some o70_10_4:=rfl
def c70_40:Code:=Code.region 10 O70_10 false
def o70_11_0:Oper:=⟨some 7,Op.assign (Operand.const (Value.int IntKind.i64 0)),3, "ref.go:335",#[],none⟩
def O70_11:Array Oper:=List.toArray (o70_11_0::[])
theorem g70_11_0:O70_11[0]? = some o70_11_0:=rfl
def c70_43:Code:=Code.region 11 O70_11 false
def o70_12_0:Oper:=⟨some 41,Op.move (Operand.tmp 7),3, "ref.go:335",#[],none⟩
def o70_12_1:Oper:=⟨some 42,Op.fieldAddr 24 (Operand.tmp 2) 3,0, "ref.go:335",#[],none⟩
def o70_12_2:Oper:=⟨some 43,Op.load 22 (Operand.tmp 42),22, "ref.go:335",#[ed_ 1],none⟩
def o70_12_3:Oper:=⟨some 44,Op.call { callee:=Callee.builtin Go.Builtin.len,args:=#[Operand.tmp 43],argTypes:=#[22] },3, "ref.go:335",#[ed_ 2],none⟩
def o70_12_4:Oper:=⟨some 45,Op.binOp Go.BinOp.lss 3 (Operand.tmp 41) (Operand.tmp 44) 3,4, "ref.go:335",#[ed_ 0,ed_ 3],none⟩
def O70_12:Array Oper:=List.toArray (o70_12_0::o70_12_1::o70_12_2::o70_12_3::o70_12_4::[])
theorem g70_12_0:O70_12[0]? = some o70_12_0:=rfl
theorem g70_12_1:O70_12[1]? = some o70_12_1:=rfl
theorem g70_12_2:O70_12[2]? = some o70_12_2:=rfl
theorem g70_12_3:O70_12[3]? = some o70_12_3:=rfl
theorem g70_12_4:O70_12[4]? = some o70_12_4:=rfl
def c70_48:Code:=Code.region 12 O70_12 false
def c70_51:Code:=Code.exit 2
def c70_49:Code:=Code.cond (Operand.tmp 45) Code.skip c70_51
def c70_47:Code:=Code.seq c70_48 c70_49
def o70_14_0:Oper:=⟨some 48,Op.fieldAddr 24 (Operand.tmp 6) 3,0, "ref.go:336",#[],none⟩
def o70_14_1:Oper:=⟨some 49,Op.load 22 (Operand.tmp 48),22, "ref.go:336",#[ed_ 0],none⟩
def o70_14_2:Oper:=⟨some 50,Op.fieldAddr 24 (Operand.tmp 2) 3,0, "ref.go:336",#[],none⟩
def o70_14_3:Oper:=⟨some 51,Op.load 22 (Operand.tmp 50),22, "ref.go:336",#[ed_ 2],none⟩
def o70_14_4:Oper:=⟨some 52,Op.move (Operand.tmp 7),3, "ref.go:336",#[],none⟩
def o70_14_5:Oper:=⟨some 53,Op.indexAddr 22 (Operand.tmp 51) (Operand.tmp 52),0, "ref.go:336",#[ed_ 3,ed_ 4],none⟩
def o70_14_6:Oper:=⟨some 54,Op.load 24 (Operand.tmp 53),24, "ref.go:336",#[ed_ 5],none⟩
def o70_14_7:Oper:=⟨some 55,Op.move (Operand.tmp 1),25, "ref.go:336",#[],none⟩
def o70_14_8:Oper:=⟨some 56,Op.call { callee:=Callee.value (Operand.func 52),args:=#[Operand.tmp 54,Operand.tmp 55],argTypes:=#[24,25] },24, "ref.go:336",#[ed_ 6,ed_ 7],none⟩
def o70_14_9:Oper:=⟨some 57,Op.buildSlice 22 1 #[(0,Operand.tmp 56)],22, "ref.go:336",#[ed_ 8],none⟩
def o70_14_10:Oper:=⟨some 58,Op.call { callee:=Callee.builtin Go.Builtin.append,args:=#[Operand.tmp 49,Operand.tmp 57],argTypes:=#[22,22] },22, "ref.go:336",#[ed_ 1,ed_ 9,ec_ 8],none⟩
def o70_14_11:Oper:=⟨some 59,Op.fieldAddr 24 (Operand.tmp 6) 3,0, "ref.go:336",#[ep_ 0,ep_ 1,ep_ 2,ep_ 3,ep_ 4,ep_ 5,ep_ 6,ep_ 7,ep_ 8,ep_ 9,ep_ 10],none⟩
def o70_14_12:Oper:=⟨none,Op.store 22 (Operand.tmp 59) (Operand.tmp 58),0, "ref.go:336",#[ed_ 11,ed_ 10,ec_ 10,ep_ 0,ep_ 1,ep_ 2,ep_ 3,ep_ 4,ep_ 5,ep_ 6,ep_ 7,ep_ 8,ep_ 9,ep_ 10],none⟩
def O70_14:Array Oper:=List.toArray (o70_14_0::o70_14_1::o70_14_2::o70_14_3::o70_14_4::o70_14_5::o70_14_6::o70_14_7::o70_14_8::o70_14_9::o70_14_10::o70_14_11::o70_14_12::[])
theorem g70_14_0:O70_14[0]? = some o70_14_0:=rfl
theorem g70_14_1:O70_14[1]? = some o70_14_1:=rfl
theorem g70_14_2:O70_14[2]? = some o70_14_2:=rfl
theorem g70_14_3:O70_14[3]? = some o70_14_3:=rfl
theorem g70_14_4:O70_14[4]? = some o70_14_4:=rfl
theorem g70_14_5:O70_14[5]? = some o70_14_5:=rfl
theorem g70_14_6:O70_14[6]? = some o70_14_6:=rfl
theorem g70_14_7:O70_14[7]? = some o70_14_7:=rfl
theorem g70_14_8:O70_14[8]? = some o70_14_8:=rfl
theorem g70_14_9:O70_14[9]? = some o70_14_9:=rfl
theorem g70_14_10:O70_14[10]? = some o70_14_10:=rfl
theorem g70_14_11:O70_14[11]? = some o70_14_11:=rfl
theorem g70_14_12:O70_14[12]? = some o70_14_12:=rfl
theorem ns70_14:Region.noSelect O70_14=true:=by kernel_rfl
def c70_54:Code:=Code.region 14 O70_14 true
def c70_53:Code:=Code.block 3 c70_54
def o70_13_0:Oper:=⟨some 46,Op.move (Operand.tmp 7),3, "ref.go:335",#[],none⟩
def o70_13_1:Oper:=⟨some 47,Op.binOp Go.BinOp.add 3 (Operand.tmp 46) (Operand.const (Value.int IntKind.i64 1)) 3,3, "ref.go:335",#[ed_ 0],none⟩
def o70_13_2:Oper:=⟨some 7,Op.assign (Operand.tmp 47),3, "ref.go:335",#[ed_ 1,ep_ 0,ep_ 1],none⟩
def O70_13:Array Oper:=List.toArray (o70_13_0::o70_13_1::o70_13_2::[])
theorem g70_13_0:O70_13[0]? = some o70_13_0:=rfl
theorem g70_13_1:O70_13[1]? = some o70_13_1:=rfl
theorem g70_13_2:O70_13[2]? = some o70_13_2:=rfl
def c70_55:Code:=Code.region 13 O70_13 false
def c70_52:Code:=Code.seq c70_53 c70_55
def c70_46:Code:=Code.seq c70_47 c70_52
def c70_45:Code:=Code.loop c70_46
def c70_44:Code:=Code.block 2 c70_45
def c70_42:Code:=Code.seq c70_43 c70_44
def o70_15_0:Oper:=⟨some 60,Op.load 24 (Operand.tmp 6),24, "ref.go:338",#[],none⟩
def o70_15_1:Oper:=⟨none,Op.store 24 (Operand.tmp 4) (Operand.tmp 60),0, "ref.go:338",#[ed_ 0,ep_ 0],none⟩
def O70_15:Array Oper:=List.toArray (o70_15_0::o70_15_1::[])
theorem g70_15_0:O70_15[0]? = some o70_15_0:=rfl
theorem g70_15_1:O70_15[1]? = some o70_15_1:=rfl
def c70_57:Code:=Code.region 15 O70_15 false
def c70_56:Code:=Code.seq c70_57 Code.ret
def c70_41:Code:=Code.seq c70_42 c70_56
def c70_39:Code:=Code.seq c70_40 c70_41
def c70_31:Code:=Code.seq c70_32 c70_39
def c70_2:Code:=Code.seq c70_3 c70_31
def c70_0:Code:=Code.seq c70_1 c70_2
theorem en70_34:Enters Try.prog 8:=enters_of Try.func8 (by kernel_rfl) rfl
theorem en70_70:Enters Try.prog 52:=enters_of Try.func52 (by kernel_rfl) rfl
theorem en70_85:Enters Try.prog 70:=enters_of Try.func70 (by kernel_rfl) rfl
theorem body70:Try.f52.body=some c70_0:=by kernel_rfl
theorem no_more {bs:List BP} {i:Nat} {x:Int} {q:BP} (h:∀ r ∈ bs.take i,r.1 ≠ x) (hq:bs[i]? = some q) (hx:¬ q.1=x):∀ r ∈ bs.take (i + 1),r.1 ≠ x:=fun r hr=>by
  obtain ⟨hi,hg⟩:=List.getElem?_eq_some_iff.1 hq
  rw [List.take_succ_eq_append_getElem hi] at hr
  rcases List.mem_append.1 hr with hr | hr
  · exact h r hr
  · rw [List.mem_singleton.1 hr,hg];exact hx
set_option maxRecDepth 100000 in
set_option maxHeartbeats 4000000 in
theorem apply_w {W:World} {t:Tm} {a sa:Option Addr} {c sc:Nat} {bs:List BP} {f0:Act} {w0:World} (R:FrS 61 f0) (h0:f0.tmps[0]? = some (.agg #[.int .i64 t.k,.string (str t.nm),.int .i64 t.i,.slice a t.args.length c])) (h1:f0.tmps[1]? = some (.slice sa bs.length sc)) (K1:Keep (fun g=>g < W.heap.size) W w0)  (HT:Hid (TmAt W.heap.size W t a c)) (HN:Hid (t.ns ≤ 2000)) (HS:Hid (BSl W.heap.size W sa bs)) (HLB:Hid (bs.length ≤ 100000)) (HBN:Hid (∀ q ∈ bs,q.2.1.ns ≤ 2000)) (HIH:Hid (∀ x ∈ t.args,x.ns ≤ 2000→∀ (w:World) (a:Option Addr) (c:Nat) (sa:Option Addr) (sc:Nat),TmAt w.heap.size w x a c→BSl w.heap.size w sa bs→Calls Try.prog 52 #[tv x a c,.slice sa bs.length sc] w fun e w'=>∃ a' c',e=.returned (tv (mapT (apL bs) x) a' c')∧Fr 0 (fun _=>False) w' w.heap.size w'.heap.size (mapT (apL bs) x) a' c'∧Keep (fun g=>g < w.heap.size) w w')):c70_0.wp Try.prog (bodyPost Try.prog Try.f52 (fun e w'=>∃ a' c',e=.returned (tv (mapT (apL bs) t) a' c')∧Fr 0 (fun _=>False) w' W.heap.size w'.heap.size (mapT (apL bs) t) a' c'∧Keep (fun g=>g < W.heap.size) W w')) f0 w0:=by
  refine wp_seq (x:=c70_1) (y:=c70_2) ?_
  change (Code.region 0 O70_0 false).wp _ _ _ _
  refine reg_in (l:=[0,1]) rfl ?_
  have F:FE_ _ [] f0 f0:=⟨R,Ag_.refl _⟩;clear R
  have Y:(execOp f0.eval o70_0_0).run Try.prog w0=.ok (.value (.pointer (some ⟨w0.heap.size,0,none⟩))) (w0.alloc (.cells #[.int .i64 t.k,.string (str t.nm),.int .i64 t.i,.slice a t.args.length c] 24)):=by have r0:=F.of h0;unfold o70_0_0;go_simp
  have B1:=Blk.new w0 24 #[.int .i64 t.k,.string (str t.nm),.int .i64 t.i,.slice a t.args.length c]
  obtain ⟨w2,hw⟩:∃ x,x=w0.alloc (.cells #[.int .i64 t.k,.string (str t.nm),.int .i64 t.i,.slice a t.args.length c] 24):=⟨_,rfl⟩;rw [← hw] at Y B1
  obtain ⟨b1,hb⟩:∃ x,x=w0.heap.size:=⟨_,rfl⟩;rw [← hb] at Y B1
  have LK1_b1:=lk_ hb K1;replace K1:=ka_ hw K1;clear hw hb
  refine sv_ g70_0_0 Y fun a3 e=>?_;clear Y
  have h2:=pt_ F e;replace F:=pu_ F e;clear e
  have Y:(execOp a3.eval o70_0_1).run Try.prog w2=.ok (.value (.pointer (some ⟨w2.heap.size,0,none⟩))) (w2.alloc (.cells #[.int .i64 0,.string (⟨#[]⟩),.int .i64 0,.slice none 0 0] 24)):=by unfold o70_0_1;go_simp
  have B4:=Blk.new w2 24 #[.int .i64 0,.string (⟨#[]⟩),.int .i64 0,.slice none 0 0]
  obtain ⟨w5,hw⟩:∃ x,x=w2.alloc (.cells #[.int .i64 0,.string (⟨#[]⟩),.int .i64 0,.slice none 0 0] 24):=⟨_,rfl⟩;rw [← hw] at Y B4
  obtain ⟨b4,hb⟩:∃ x,x=w2.heap.size:=⟨_,rfl⟩;rw [← hb] at Y B4
  have Nb1_b4:=nb_ hb B1;replace B1:=ba_ hw B1;have LK1_b4:=lk_ hb K1;replace K1:=ka_ hw K1;clear hw hb
  refine sv_ g70_0_1 Y fun a6 e=>?_;clear Y
  have h4:=pt_ F e;replace F:=pu_ F e;replace h2:=so_ e h2;clear e
  refine st_end ?_
  clear h0;replace h1:=F.of h1;have R:=F.r;clear F
  change (c70_2).wp _ _ _ _
  refine wp_seq (x:=c70_3) (y:=c70_31) ?_
  refine wp_seq (x:=c70_4) (y:=c70_5) ?_
  change (Code.region 1 O70_1 false).wp _ _ _ _
  refine reg_in (l:=[0,1,2]) rfl ?_
  have F:FE_ _ [] a6 a6:=⟨R,Ag_.refl _⟩;clear R
  refine sv_ g70_1_0 (yf0_ rfl (F.of h2)) fun a7 e=>?_
  have h8:=pt_ F e;replace F:=pu_ F e;clear e
  refine sv_ g70_1_1 (yk0_ rfl h8 B1) fun a8 e=>?_
  clear h8;have h9:=pt_ F e;replace F:=pu_ F e;clear e
  obtain ⟨b9,hb9⟩:∃ x,(((t.k:Int) == (1:Int)))=x:=⟨_,rfl⟩
  have Y:(execOp a8.eval o70_1_2).run Try.prog w5=.ok (.value (.bool b9)) w5:=by rw [← hb9];unfold o70_1_2;go_simp
  refine sv_ g70_1_2 Y fun a10 e=>?_;clear Y
  clear h9;have h10:=pt_ F e;replace F:=pu_ F e;clear e
  refine st_end ?_
  replace h1:=F.of h1;replace h2:=F.of h2;replace h4:=F.of h4;have R:=F.r;clear F
  change (c70_5).wp _ _ _ _
  cases b9 with
  | false =>
    have fb9:=hb9;clear hb9
    simp only [decide_eq_true_eq,decide_eq_false_iff_not,bne_iff_ne,bne_eq_false_iff_eq,beq_iff_eq,beq_eq_false_iff_ne,ne_eq,Bool.not_eq_true',Bool.not_eq_false',Bool.not_eq_eq_eq_not,Bool.not_true,Bool.not_false] at fb9
    refine wp_cond_false (x:=c70_6) (y:=Code.skip) (eval_slot h10) ?_
    refine wp_skip ?_
    change (c70_31).wp _ _ _ _
    refine wp_seq (x:=c70_32) (y:=c70_39) ?_
    refine wp_seq (x:=c70_33) (y:=c70_34) ?_
    change (Code.region 8 O70_8 false).wp _ _ _ _
    refine reg_in (l:=[0,1,2]) rfl ?_
    have F:FE_ _ [] a10 a10:=⟨R,Ag_.refl _⟩;clear R
    refine sv_ g70_8_0 (yf0_ rfl (F.of h2)) fun a11 e=>?_
    have h33:=pt_ F e;replace F:=pu_ F e;clear e
    refine sv_ g70_8_1 (yk0_ rfl h33 B1) fun a12 e=>?_
    clear h33;have h34:=pt_ F e;replace F:=pu_ F e;clear e
    obtain ⟨b13,hb13⟩:∃ x,(((t.k:Int) != (4:Int)))=x:=⟨_,rfl⟩
    have Y:(execOp a12.eval o70_8_2).run Try.prog w5=.ok (.value (.bool b13)) w5:=by rw [← hb13];unfold o70_8_2;go_simp
    refine sv_ g70_8_2 Y fun a14 e=>?_;clear Y
    clear h34;have h35:=pt_ F e;replace F:=pu_ F e;clear e
    refine st_end ?_
    replace h1:=F.of h1;replace h2:=F.of h2;replace h4:=F.of h4;clear h10;have R:=F.r;clear F
    change (c70_34).wp _ _ _ _
    cases b13 with
    | false =>
      have fb13:=hb13;clear hb13
      simp only [decide_eq_true_eq,decide_eq_false_iff_not,bne_iff_ne,bne_eq_false_iff_eq,beq_iff_eq,beq_eq_false_iff_ne,ne_eq,Bool.not_eq_true',Bool.not_eq_false',Bool.not_eq_eq_eq_not,Bool.not_true,Bool.not_false] at fb13
      refine wp_cond_false (x:=c70_35) (y:=Code.skip) (eval_slot h35) ?_
      refine wp_skip ?_
      change (c70_39).wp _ _ _ _
      refine wp_seq (x:=c70_40) (y:=c70_41) ?_
      change (Code.region 10 O70_10 false).wp _ _ _ _
      refine reg_in (l:=[0,1,2,3,4]) rfl ?_
      have F:FE_ _ [] a14 a14:=⟨R,Ag_.refl _⟩;clear R
      refine sv_ g70_10_0 (yf1_ rfl (F.of h2)) fun a15 e=>?_
      have h38:=pt_ F e;replace F:=pu_ F e;clear e
      refine sv_ g70_10_1 (yk1_ rfl h38 B1) fun a16 e=>?_
      clear h38;have h39:=pt_ F e;replace F:=pu_ F e;clear e
      have Y:(execOp a16.eval o70_10_2).run Try.prog w5=.ok (.value (.agg #[.int .i64 4,.string (str t.nm),.int .i64 0,.slice none 0 0])) w5:=by unfold o70_10_2;go_simp
      refine sv_ g70_10_2 Y fun a17 e=>?_;clear Y
      clear h39;have h40:=pt_ F e;replace F:=pu_ F e;clear e
      have Y:(execOp a17.eval o70_10_3).run Try.prog w5=.ok (.value (.pointer (some ⟨w5.heap.size,0,none⟩))) (w5.alloc (.cells #[.int .i64 0,.string (⟨#[]⟩),.int .i64 0,.slice none 0 0] 24)):=by unfold o70_10_3;go_simp
      have B18:=Blk.new w5 24 #[.int .i64 0,.string (⟨#[]⟩),.int .i64 0,.slice none 0 0]
      obtain ⟨w19,hw⟩:∃ x,x=w5.alloc (.cells #[.int .i64 0,.string (⟨#[]⟩),.int .i64 0,.slice none 0 0] 24):=⟨_,rfl⟩;rw [← hw] at Y B18
      obtain ⟨b18,hb⟩:∃ x,x=w5.heap.size:=⟨_,rfl⟩;rw [← hb] at Y B18
      have Nb1_b18:=nb_ hb B1;replace B1:=ba_ hw B1;have Nb4_b18:=nb_ hb B4;replace B4:=ba_ hw B4;have LK1_b18:=lk_ hb K1;replace K1:=ka_ hw K1;clear hw hb
      refine sv_ g70_10_3 Y fun a20 e=>?_;clear Y
      have h6:=pt_ F e;replace F:=pu_ F e;replace h40:=so_ e h40;clear e
      obtain ⟨w21,Y,hk,hB⟩:=ys4_ (o:=o70_10_4) rfl h6 h40 B18
      replace K1:=kx_ hk K1 (Nat.not_lt.2 LK1_b18);replace B1:=bx_ hk B1 Nb1_b18;replace B4:=bx_ hk B4 Nb4_b18;clear B18;have B18:=hB;clear hB hk
      refine st_skip g70_10_4 rfl (wanted_free rfl) Y ?_;clear Y
      refine st_end ?_
      replace h1:=F.of h1;replace h2:=F.of h2;replace h4:=F.of h4;clear h35;clear h40;have R:=F.r;clear F
      change (c70_41).wp _ _ _ _
      refine wp_seq (x:=c70_42) (y:=c70_56) ?_
      refine wp_seq (x:=c70_43) (y:=c70_44) ?_
      change (Code.region 11 O70_11 false).wp _ _ _ _
      refine reg_in (l:=[0]) rfl ?_
      have F:FE_ _ [] a20 a20:=⟨R,Ag_.refl _⟩;clear R
      have Y:(execOp a20.eval o70_11_0).run Try.prog w21=.ok (.value (.int .i64 0)) w21:=by unfold o70_11_0;go_simp
      refine sv_ g70_11_0 Y fun a22 e=>?_;clear Y
      have h7:=pt_ F e;replace F:=pu_ F e;clear e
      refine st_end ?_
      replace h1:=F.of h1;replace h2:=F.of h2;replace h4:=F.of h4;replace h6:=F.of h6;have R:=F.r;clear F
      change (c70_44).wp _ _ _ _
      refine wp_block (id:=2) (c:=c70_45) ?_
      obtain ⟨BB,hBB⟩:∃ q,q=w21.heap.size:=⟨_,rfl⟩
      have HTR:Hid (TRow BB w21 (.slice none 0 0) []):=Lib.hid (TRow.nil (by rw [hBB];exact Nat.le_refl _))
      have HWB:W.heap.size ≤ BB:=by rw [hBB];exact K1.size
      have Eb1:b1 < BB:=by rw [hBB];exact B1.lt
      have Eb4:b4 < BB:=by rw [hBB];exact B4.lt
      have Eb18:b18 < BB:=by rw [hBB];exact B18.lt
      clear hBB
      have HLN:Hid (t.args.length ≤ 2000):=Lib.hid (Nat.le_trans (args_ns (by omega)) HN.out)
      refine wp_loop_ghost (c:=c70_46) (fun n fX wX=>∃ j:Nat,∃ va:Option Addr,∃ vc:Nat,∃ ps:List TP,n=t.args.length - j∧FrS 61 fX∧fX.tmps[1]? = some (.slice sa bs.length sc)∧fX.tmps[2]? = some (.pointer (some ⟨b1,0,none⟩))∧fX.tmps[4]? = some (.pointer (some ⟨b4,0,none⟩))∧fX.tmps[6]? = some (.pointer (some ⟨b18,0,none⟩))∧fX.tmps[7]? = some (.int .i64 (j:Int))∧Keep (fun g=>g < W.heap.size) W wX∧Blk wX b1 24 #[.int .i64 t.k,.string (str t.nm),.int .i64 t.i,.slice a t.args.length c]∧Blk wX b4 24 #[.int .i64 0,.string (⟨#[]⟩),.int .i64 0,.slice none 0 0]∧Blk wX b18 24 #[.int .i64 4,.string (str t.nm),.int .i64 0,.slice va ps.length vc]∧j ≤ t.args.length∧Hid (TRow BB wX (.slice va ps.length vc) ps)∧Hid (ps.map (·.1)=(t.args.take j).map (mapT (apL bs)))) (t.args.length - 0) ⟨0,none,0,[],rfl,R,h1,h2,h4,h6,h7,K1,B1,B4,B18,Nat.zero_le _,HTR,(Lib.hid rfl)⟩ ?_
      clear R h1 h2 h4 h6 h7 K1 B1 B4 B18
      rintro n25 a23 w24 ⟨j,va,vc,ps,rfl,R,h1,h2,h4,h6,h7,K1,B1,B4,B18,hj,HTR,HPS⟩
      have hj8:=HLN.out
      have KT:=Keep.refl (fun g=>BB ≤ g) w24
      refine wp_seq (x:=c70_47) (y:=c70_52) ?_
      refine wp_seq (x:=c70_48) (y:=c70_49) ?_
      change (Code.region 12 O70_12 false).wp _ _ _ _
      refine reg_in (l:=[0,1,2,3,4]) rfl ?_
      have F:FE_ _ [] a23 a23:=⟨R,Ag_.refl _⟩;clear R
      refine sv_ g70_12_0 (ym_ rfl (F.of h7)) fun a26 e=>?_
      have h41:=pt_ F e;replace F:=pu_ F e;clear e
      refine sv_ g70_12_1 (yf3_ rfl (F.of h2)) fun a27 e=>?_
      have h42:=pt_ F e;replace F:=pu_ F e;replace h41:=so_ e h41;clear e
      refine sv_ g70_12_2 (yk3_ rfl h42 B1) fun a28 e=>?_
      have h43:=pt_ F e;replace F:=pu_ F e;replace h41:=so_ e h41;replace h42:=so_ e h42;clear e
      have Y:(execOp a28.eval o70_12_3).run Try.prog w24=.ok (.value (.int .i64 t.args.length)) w24:=by unfold o70_12_3;go_simp
      refine sv_ g70_12_3 Y fun a29 e=>?_;clear Y
      have h44:=pt_ F e;replace F:=pu_ F e;replace h41:=so_ e h41;replace h42:=so_ e h42;replace h43:=so_ e h43;clear e
      obtain ⟨b30,hb30⟩:∃ x,(decide ((j:Int) < (t.args.length:Int)))=x:=⟨_,rfl⟩
      have Y:(execOp a29.eval o70_12_4).run Try.prog w24=.ok (.value (.bool b30)) w24:=by rw [← hb30];unfold o70_12_4;go_simp
      refine sv_ g70_12_4 Y fun a31 e=>?_;clear Y
      have h45:=pt_ F e;replace F:=pu_ F e;replace h41:=so_ e h41;replace h42:=so_ e h42;replace h43:=so_ e h43;replace h44:=so_ e h44;clear e
      refine st_end ?_
      replace h1:=F.of h1;replace h2:=F.of h2;replace h4:=F.of h4;replace h6:=F.of h6;replace h7:=F.of h7;have R:=F.r;clear F
      change (c70_49).wp _ _ _ _
      cases b30 with
      | false =>
        have fb30:=hb30;clear hb30
        simp only [decide_eq_true_eq,decide_eq_false_iff_not,bne_iff_ne,bne_eq_false_iff_eq,beq_iff_eq,beq_eq_false_iff_ne,ne_eq,Bool.not_eq_true',Bool.not_eq_false',Bool.not_eq_eq_eq_not,Bool.not_true,Bool.not_false] at fb30
        refine wp_cond_false (x:=Code.skip) (y:=c70_51) (eval_slot h45) ?_
        refine wp_exit ?_
        change (c70_56).wp _ _ _ _
        refine wp_seq (x:=c70_57) (y:=Code.ret) ?_
        change (Code.region 15 O70_15 false).wp _ _ _ _
        refine reg_in (l:=[0,1]) rfl ?_
        have F:FE_ _ [] a31 a31:=⟨R,Ag_.refl _⟩;clear R
        refine sv_ g70_15_0 (yl4_ rfl (F.of h6) B18) fun a32 e=>?_
        have h60:=pt_ F e;replace F:=pu_ F e;clear e
        obtain ⟨w33,Y,hk,hB⟩:=ys4_ (o:=o70_15_1) rfl (F.of h4) h60 B4
        replace K1:=kx_ hk K1 (Nat.not_lt.2 LK1_b4);replace KT:=kx_ hk KT (Nat.not_le.2 Eb4);replace B1:=bx_ hk B1 Nb1_b4;replace B18:=bx_ hk B18 (Ne.symm Nb4_b18);clear B4;have B4:=hB;clear hB hk
        refine st_skip g70_15_1 rfl (wanted_free rfl) Y ?_;clear Y
        refine st_end ?_
        replace h1:=F.of h1;replace h2:=F.of h2;replace h4:=F.of h4;replace h6:=F.of h6;replace h7:=F.of h7;replace h41:=F.of h41;replace h42:=F.of h42;replace h43:=F.of h43;replace h44:=F.of h44;replace h45:=F.of h45;clear h60;have R:=F.r;clear F
        change (Code.ret).wp _ _ _ _
        refine wp_ret ?_
        change bodyPost Try.prog Try.f52 (fun e w'=>∃ a' c',e=.returned (tv (mapT (apL bs) t) a' c')∧Fr 0 (fun _=>False) w' W.heap.size w'.heap.size (mapT (apL bs) t) a' c'∧Keep (fun g=>g < W.heap.size) W w') .ret a32 w33
        refine ret_cell (fn:=Try.f52) rfl R h4 B4 ?_
        first | exact fin_bare HT.out K1 (apL_no (by omega) (by omega)) | exact fin_bare HT.out K1 (apL_miss (by omega) (by omega) HNO.out) | exact fin_row HT.out K1 (HTR.out.onB KT) HPS.out HWB (by omega) (by omega) | exact fin_copy K1 ((fr_onB HFC.out KX).up KX.size (Nat.le_refl _)) HWL (apL_hit (by omega) HQ.out (by omega) HNO.out)
      | true =>
        have fb30:=hb30;clear hb30
        simp only [decide_eq_true_eq,decide_eq_false_iff_not,bne_iff_ne,bne_eq_false_iff_eq,beq_iff_eq,beq_eq_false_iff_ne,ne_eq,Bool.not_eq_true',Bool.not_eq_false',Bool.not_eq_eq_eq_not,Bool.not_true,Bool.not_false] at fb30
        refine wp_cond_true (x:=Code.skip) (y:=c70_51) (eval_slot h45) ?_
        refine wp_skip ?_
        change (c70_52).wp _ _ _ _
        refine wp_seq (x:=c70_53) (y:=c70_55) ?_
        refine wp_block (id:=3) (c:=c70_54) ?_
        change (Code.region 14 O70_14 true).wp _ _ _ _
        clear KT
        have KF:=Keep.refl (fun g=>g < w24.heap.size) w24
        have D36:=B1
        have D37:=B4
        have D38:=B18
        have K34:=(Keep.refl (fun g=>g < BB∧g ≠ b18) w24).drew
        have EK1:=K1
        have EKF:=KF
        refine dr_in (S:=(fun W=>Keep (fun g=>g < BB∧g ≠ b18) w24 W)) (n:=13) (l:=lb_ 13 0) (by kernel_rfl) K34 rfl (by kernel_rfl) ?_
        replace K1:=K1.drew
        replace KF:=KF.drew
        replace B1:=B1.drew
        replace B4:=B4.drew
        replace B18:=B18.drew
        generalize w24.drew=w35 at K34 K1 KF B1 B4 B18 ⊢
        have F:FE_ _ [] a31 a31:=⟨R,Ag_.refl _⟩;clear R
        refine dt_ (i:=0) (l':=(lb_ 13 1)) g70_14_0 rfl ns70_14 (wanted_free rfl) K34 (fun _ _=>(yf3_ rfl (F.of h6))) fun a39 e=>?_
        have h48:=pt_ F e;replace F:=pu_ F e;clear e
        refine dt_ (i:=2) (l':=(lb_ 13 5)) g70_14_2 rfl ns70_14 (wanted_free rfl) K34 (fun _ _=>(yf3_ rfl (F.of h2))) fun a40 e=>?_
        have h50:=pt_ F e;replace F:=pu_ F e;replace h48:=so_ e h48;clear e
        refine dt_ (i:=3) (l':=(lb_ 13 13)) g70_14_3 rfl ns70_14 (wanted_free rfl) K34 (fun W7 hS=>(yk3_ rfl h50 (D36.keep hS ⟨Eb1,Nb1_b18⟩))) fun a41 e=>?_
        have h51:=pt_ F e;replace F:=pu_ F e;replace h48:=so_ e h48;replace h50:=so_ e h50;clear e
        refine dt_ (i:=4) (l':=(lb_ 13 29)) g70_14_4 rfl ns70_14 (wanted_free rfl) K34 (fun _ _=>(ym_ rfl (F.of h7))) fun a42 e=>?_
        have h52:=pt_ F e;replace F:=pu_ F e;replace h48:=so_ e h48;replace h50:=so_ e h50;replace h51:=so_ e h51;clear e
        refine dt_ (i:=7) (l':=(lb_ 13 157)) g70_14_7 rfl ns70_14 (wanted_free rfl) K34 (fun _ _=>(ym_ rfl (F.of h1))) fun a43 e=>?_
        have h55:=pt_ F e;replace F:=pu_ F e;replace h48:=so_ e h48;replace h50:=so_ e h50;replace h51:=so_ e h51;replace h52:=so_ e h52;clear e
        refine dr_two (i:=1) (k:=5) (fuel:=7) (by kernel_rfl) ?_ ?_
        ·
          refine dr_val (l':=(lb_ 13 159)) g70_14_1 rfl (by kernel_rfl) (wanted_free rfl) (yk3_ rfl h48 B18) K34 fun a44 e=>?_
          have h49:=pt_ F e;replace F:=pu_ F e;replace h48:=so_ e h48;replace h50:=so_ e h50;replace h51:=so_ e h51;replace h52:=so_ e h52;replace h55:=so_ e h55;clear e
          refine dr_only (i:=5) (fuel:=6) (by kernel_rfl) ?_
          obtain ⟨y0,hx0⟩:∃ q,t.args[j]? = some q:=⟨_,List.getElem?_eq_getElem (by omega)⟩
          obtain ⟨bA,oA,ax,cx,hA,hbA,hTx,u0,u1,u2,u3⟩:=(HT.out).arg hx0
          simp only [← Nat.add_assoc] at u0 u1 u2 u3
          have HU:=Lib.hid (And.intro u0 (And.intro u1 (And.intro u2 u3)));clear u0 u1 u2 u3
          have HX:=Lib.hid hx0;clear hx0;have HTX:=Lib.hid hTx;clear hTx;have HA:=Lib.hid hA;clear hA
          have hltA:(j:Int) < (t.args.length:Int):=by omega
          have Y:(execOp a44.eval o70_14_5).run Try.prog w35=.ok (.value (.pointer (some ⟨bA,oA + j * 4,none⟩))) w35:=by have hA:=HA.out;unfold o70_14_5;go_simp
          refine dr_val (l':=(lb_ 13 191)) g70_14_5 rfl (by kernel_rfl) (wanted_free rfl) Y K34 fun a45 e=>?_;clear Y
          have h53:=pt_ F e;replace F:=pu_ F e;replace h48:=so_ e h48;replace h49:=so_ e h49;replace h50:=so_ e h50;replace h51:=so_ e h51;replace h52:=so_ e h52;replace h55:=so_ e h55;clear e
          have Y:∀ W,Keep (fun g=>g < BB∧g ≠ b18) w24 W→(execOp a45.eval o70_14_6).run Try.prog W=.ok (.value (.agg #[.int .i64 y0.k,.string (str y0.nm),.int .i64 y0.i,.slice ax y0.args.length cx])) W:=by intro W7 hS;obtain ⟨u0,u1,u2,u3⟩:=HU.out;have hkp:=keep_part EK1 hS HWB LK1_b18;have u0:=cell_kept u0 hkp;have u1:=cell_kept u1 hkp;have u2:=cell_kept u2 hkp;have u3:=cell_kept u3 hkp;clear hkp;unfold o70_14_6;go_simp
          refine dt_ (i:=6) (l':=(lb_ 13 255)) g70_14_6 rfl ns70_14 (wanted_free rfl) K34 Y fun a46 e=>?_;clear Y
          have h54:=pt_ F e;replace F:=pu_ F e;replace h48:=so_ e h48;replace h49:=so_ e h49;replace h50:=so_ e h50;replace h51:=so_ e h51;replace h52:=so_ e h52;replace h53:=so_ e h53;replace h55:=so_ e h55;clear e
          refine dr_only (i:=8) (fuel:=4) (by kernel_rfl) ?_
          obtain ⟨y,hy⟩:∃ q,mapT (apL bs) y0=q:=⟨_,rfl⟩
          have hcall:=HIH.out y0 (List.mem_of_getElem? HX.out) (by have h:=arg_ns (t:=t) (by omega) (List.mem_of_getElem? HX.out);have:=HN.out;omega) w35 ax cx sa sc (HTX.out.on K1) (bsl_on HS.out K1)
          rw [hy] at hcall;have HY:=Lib.hid hy;clear hy
          have HLO:=Lib.hid KF.size
          refine dr_call (l':=(lb_ 13 511)) g70_14_8 rfl (by kernel_rfl) (wanted_free rfl) (yc2_ en70_70 rfl h54 h55) ((hcall).mono ?_)
          rintro e9 w47 ⟨ay,cy,rfl,hfr,kk⟩
          replace K1:=keep_onto K1 kk
          replace KF:=keep_onto KF kk
          replace K34:=K34.trans kk.all
          replace B1:=blk_on B1 kk
          replace B4:=blk_on B4 kk
          replace B18:=blk_on B18 kk
          clear kk
          clear hcall
          have HFR:=Lib.hid hfr;clear hfr
          have HKA:=Lib.hid KF;clear KF
          have KC:=Keep.refl (fun g=>g < w47.heap.size) w47
          refine ⟨_,rfl,K34,fun a48 e=>?_⟩
          have h56:=pt_ F e;replace F:=pu_ F e;replace h48:=so_ e h48;replace h49:=so_ e h49;replace h50:=so_ e h50;replace h51:=so_ e h51;replace h52:=so_ e h52;replace h53:=so_ e h53;replace h54:=so_ e h54;replace h55:=so_ e h55;clear e
          refine dr_only (i:=9) (fuel:=3) (by kernel_rfl) ?_
          have Y:(execOp a48.eval o70_14_9).run Try.prog w47=.ok (.value (.slice (some ⟨w47.heap.size,0,none⟩) 1 1)) (w47.alloc (.cells #[.int .i64 y.k,.string (str y.nm),.int .i64 y.i,.slice ay y.args.length cy] 24)):=by unfold o70_14_9;go_simp
          have B49:=Blk.new w47 24 #[.int .i64 y.k,.string (str y.nm),.int .i64 y.i,.slice ay y.args.length cy]
          obtain ⟨w50,hw⟩:∃ x,x=w47.alloc (.cells #[.int .i64 y.k,.string (str y.nm),.int .i64 y.i,.slice ay y.args.length cy] 24):=⟨_,rfl⟩;rw [← hw] at Y B49
          obtain ⟨b49,hb⟩:∃ x,x=w47.heap.size:=⟨_,rfl⟩;rw [← hb] at Y B49
          have Nb1_b49:=nb_ hb B1;replace B1:=ba_ hw B1;have Nb4_b49:=nb_ hb B4;replace B4:=ba_ hw B4;have Nb18_b49:=nb_ hb B18;replace B18:=ba_ hw B18;have LK1_b49:=lk_ hb K1;replace K1:=ka_ hw K1;have LK34_b49:=lk_ hb K34;replace K34:=ka_ hw K34;have LKC_b49:=lk_ hb KC;replace KC:=ka_ hw KC;clear hw hb
          refine dr_val (l':=(lb_ 13 1023)) g70_14_9 rfl (by kernel_rfl) (wanted_free rfl) Y K34 fun a51 e=>?_;clear Y
          have h57:=pt_ F e;replace F:=pu_ F e;replace h48:=so_ e h48;replace h49:=so_ e h49;replace h50:=so_ e h50;replace h51:=so_ e h51;replace h52:=so_ e h52;replace h53:=so_ e h53;replace h54:=so_ e h54;replace h55:=so_ e h55;replace h56:=so_ e h56;clear e
          refine dr_only (i:=10) (fuel:=2) (by kernel_rfl) ?_
          obtain ⟨v8,w8,hap,htr,⟨va2,vc2,rfl⟩,kap⟩:=TRow.push (ty:=o70_14_10.type) (p:=(y,ay,cy)) (c2:=1) HTR.out HKA.out HLO.out HFR.out KC B49 (by have h:=congrArg List.length HPS.out;simp at h;have:=HLN.out;omega)
          have Y:(execOp a51.eval o70_14_10).run Try.prog w50=.ok (.value (.slice va2 (ps ++ [(y,ay,cy)]).length vc2)) w8:=by
            unfold o70_14_10 at hap ⊢;unfold execOp;simp only [resolve,invoke,builtin,Sem.run_bind,Sem.run_pure,Result.andThen_ok,List.map_toArray,List.map_cons,List.map_nil,eval_slot h49,eval_slot h57];rw [hap];rfl
          have HTR2:=Lib.hid htr;clear htr HTR hap;have HTR:=HTR2;clear HTR2
          replace K1:=K1.trans (kap.less fun g hg=>Nat.lt_of_lt_of_le hg HWB)
          replace K34:=K34.trans (kap.less fun g hg=>hg.1)
          clear KC
          replace B1:=B1.keep kap Eb1
          replace B4:=B4.keep kap Eb4
          replace B18:=B18.keep kap Eb18
          clear B49
          clear kap
          have KT:=Keep.refl (fun g=>BB ≤ g) w8
          refine dr_val (l':=(lb_ 13 2047)) g70_14_10 rfl (by kernel_rfl) (wanted_free rfl) Y K34 fun a52 e=>?_;clear Y
          have h58:=pt_ F e;replace F:=pu_ F e;replace h48:=so_ e h48;replace h49:=so_ e h49;replace h50:=so_ e h50;replace h51:=so_ e h51;replace h52:=so_ e h52;replace h53:=so_ e h53;replace h54:=so_ e h54;replace h55:=so_ e h55;replace h56:=so_ e h56;replace h57:=so_ e h57;clear e
          refine dt_ (i:=11) (l':=(lb_ 13 4095)) g70_14_11 rfl ns70_14 (wanted_free rfl) K34 (fun _ _=>(yf3_ rfl (F.of h6))) fun a53 e=>?_
          have h59:=pt_ F e;replace F:=pu_ F e;replace h48:=so_ e h48;replace h49:=so_ e h49;replace h50:=so_ e h50;replace h51:=so_ e h51;replace h52:=so_ e h52;replace h53:=so_ e h53;replace h54:=so_ e h54;replace h55:=so_ e h55;replace h56:=so_ e h56;replace h57:=so_ e h57;replace h58:=so_ e h58;clear e
          refine dr_only (i:=12) (fuel:=0) (by kernel_rfl) ?_
          have Y:(execOp a53.eval o70_14_12).run Try.prog w8=.ok .skip (w8.setCell ⟨b18,3,none⟩ (.slice va2 ((ps ++ [(y,ay,cy)]).length) vc2)):=by have qq0:w8.cell? ⟨b18,0,none⟩=some (.int .i64 4):=B18.cell 0;have qq1:w8.cell? ⟨b18,1,none⟩=some (.string (str t.nm)):=B18.cell 1;have qq2:w8.cell? ⟨b18,2,none⟩=some (.int .i64 0):=B18.cell 2;have qq3:w8.cell? ⟨b18,3,none⟩=some (.slice va ps.length vc):=B18.cell 3;have z0:=B18.frozen 3;unfold o70_14_12;go_simp
          obtain ⟨w54,hw⟩:∃ x,x=(w8.setCell ⟨b18,3,none⟩ (.slice va2 ((ps ++ [(y,ay,cy)]).length) vc2)):=⟨_,rfl⟩;rw [← hw] at Y
          have hk:Keep (fun g=>g ≠ b18) w8 w54:=by rw [hw];exact (Keep.refl _ _).setCell (fun h=>h rfl) _
          replace K1:=kx_ hk K1 (Nat.not_lt.2 LK1_b18);replace K34:=kx_ hk K34 (fun hx=>hx.2 rfl);replace KT:=kx_ hk KT (Nat.not_le.2 Eb18);replace B1:=bx_ hk B1 Nb1_b18;replace B4:=bx_ hk B4 Nb4_b18;replace B18:Blk w54 b18 24 #[.int .i64 4,.string (str t.nm),.int .i64 0,.slice va2 ((ps ++ [(y,ay,cy)]).length) vc2]:=(by rw [hw];exact (B18.set_ 3 _));clear hw hk
          refine dr_skip (l':=(lb_ 13 8191)) g70_14_12 rfl (by kernel_rfl) (wanted_free rfl) Y K34 ?_;clear Y
          refine dr_end (by kernel_rfl) ?_
          replace h1:=F.of h1;replace h2:=F.of h2;replace h4:=F.of h4;replace h6:=F.of h6;replace h7:=F.of h7;replace h41:=F.of h41;replace h42:=F.of h42;replace h43:=F.of h43;replace h44:=F.of h44;replace h45:=F.of h45;have R:=F.r;clear F
          clear K34 EK1 EKF D36 D37 D38
          change (c70_55).wp _ _ _ _
          change (Code.region 13 O70_13 false).wp _ _ _ _
          refine reg_in (l:=[0,1,2]) rfl ?_
          have F:FE_ _ [] a53 a53:=⟨R,Ag_.refl _⟩;clear R
          refine sv_ g70_13_0 (ym_ rfl (F.of h7)) fun a55 e=>?_
          have h46:=pt_ F e;replace F:=pu_ F e;clear e
          have Y:(execOp a55.eval o70_13_1).run Try.prog w54=.ok (.value (.int .i64 ((j:Int) + 1))) w54:=by have hwj:IntKind.i64.wrap ((j:Int) + 1)=(j:Int) + 1:=(by rw [IntKind.wrap_i64];omega);unfold o70_13_1;go_simp
          refine sv_ g70_13_1 Y fun a56 e=>?_;clear Y
          have h47:=pt_ F e;replace F:=pu_ F e;replace h46:=so_ e h46;clear e
          refine sv_ g70_13_2 (ya_ rfl h47) fun a57 e=>?_
          clear h7;have h7:=pt_ F e;replace F:=pu_ F e;replace h46:=so_ e h46;replace h47:=so_ e h47;clear e
          refine st_end ?_
          replace h1:=F.of h1;replace h2:=F.of h2;replace h4:=F.of h4;replace h6:=F.of h6;replace h41:=F.of h41;replace h42:=F.of h42;replace h43:=F.of h43;replace h44:=F.of h44;replace h45:=F.of h45;replace h48:=F.of h48;replace h49:=F.of h49;replace h50:=F.of h50;replace h51:=F.of h51;replace h52:=F.of h52;replace h53:=F.of h53;replace h54:=F.of h54;replace h55:=F.of h55;replace h56:=F.of h56;replace h57:=F.of h57;replace h58:=F.of h58;replace h59:=F.of h59;have R:=F.r;clear F
          exact ⟨_,by omega,j + 1,va2,vc2,ps ++ [(y,ay,cy)],rfl,R,h1,h2,h4,h6,h7,K1,B1,B4,B18,(by omega),(Lib.hid (HTR.out.onB KT)),(Lib.hid (by rw [List.map_append,HPS.out,List.take_succ_eq_append_getElem (by omega),List.map_append];have h:=HX.out;rw [List.getElem?_eq_getElem (by omega)] at h;rw [Option.some.inj h];simp only [List.map_cons,List.map_nil,HY.out]))⟩
        ·
          obtain ⟨y0,hx0⟩:∃ q,t.args[j]? = some q:=⟨_,List.getElem?_eq_getElem (by omega)⟩
          obtain ⟨bA,oA,ax,cx,hA,hbA,hTx,u0,u1,u2,u3⟩:=(HT.out).arg hx0
          simp only [← Nat.add_assoc] at u0 u1 u2 u3
          have HU:=Lib.hid (And.intro u0 (And.intro u1 (And.intro u2 u3)));clear u0 u1 u2 u3
          have HX:=Lib.hid hx0;clear hx0;have HTX:=Lib.hid hTx;clear hTx;have HA:=Lib.hid hA;clear hA
          have hltA:(j:Int) < (t.args.length:Int):=by omega
          have Y:(execOp a43.eval o70_14_5).run Try.prog w35=.ok (.value (.pointer (some ⟨bA,oA + j * 4,none⟩))) w35:=by have hA:=HA.out;unfold o70_14_5;go_simp
          refine dr_val (l':=(lb_ 13 189)) g70_14_5 rfl (by kernel_rfl) (wanted_free rfl) Y K34 fun a58 e=>?_;clear Y
          have h53:=pt_ F e;replace F:=pu_ F e;replace h48:=so_ e h48;replace h50:=so_ e h50;replace h51:=so_ e h51;replace h52:=so_ e h52;replace h55:=so_ e h55;clear e
          have Y:∀ W,Keep (fun g=>g < BB∧g ≠ b18) w24 W→(execOp a58.eval o70_14_6).run Try.prog W=.ok (.value (.agg #[.int .i64 y0.k,.string (str y0.nm),.int .i64 y0.i,.slice ax y0.args.length cx])) W:=by intro W7 hS;obtain ⟨u0,u1,u2,u3⟩:=HU.out;have hkp:=keep_part EK1 hS HWB LK1_b18;have u0:=cell_kept u0 hkp;have u1:=cell_kept u1 hkp;have u2:=cell_kept u2 hkp;have u3:=cell_kept u3 hkp;clear hkp;unfold o70_14_6;go_simp
          refine dt_ (i:=6) (l':=(lb_ 13 253)) g70_14_6 rfl ns70_14 (wanted_free rfl) K34 Y fun a59 e=>?_;clear Y
          have h54:=pt_ F e;replace F:=pu_ F e;replace h48:=so_ e h48;replace h50:=so_ e h50;replace h51:=so_ e h51;replace h52:=so_ e h52;replace h53:=so_ e h53;replace h55:=so_ e h55;clear e
          refine dr_two (i:=1) (k:=8) (fuel:=5) (by kernel_rfl) ?_ ?_
          ·
            refine dr_val (l':=(lb_ 13 255)) g70_14_1 rfl (by kernel_rfl) (wanted_free rfl) (yk3_ rfl h48 B18) K34 fun a60 e=>?_
            have h49:=pt_ F e;replace F:=pu_ F e;replace h48:=so_ e h48;replace h50:=so_ e h50;replace h51:=so_ e h51;replace h52:=so_ e h52;replace h53:=so_ e h53;replace h54:=so_ e h54;replace h55:=so_ e h55;clear e
            refine dr_only (i:=8) (fuel:=4) (by kernel_rfl) ?_
            obtain ⟨y,hy⟩:∃ q,mapT (apL bs) y0=q:=⟨_,rfl⟩
            have hcall:=HIH.out y0 (List.mem_of_getElem? HX.out) (by have h:=arg_ns (t:=t) (by omega) (List.mem_of_getElem? HX.out);have:=HN.out;omega) w35 ax cx sa sc (HTX.out.on K1) (bsl_on HS.out K1)
            rw [hy] at hcall;have HY:=Lib.hid hy;clear hy
            have HLO:=Lib.hid KF.size
            refine dr_call (l':=(lb_ 13 511)) g70_14_8 rfl (by kernel_rfl) (wanted_free rfl) (yc2_ en70_70 rfl h54 h55) ((hcall).mono ?_)
            rintro e9 w61 ⟨ay,cy,rfl,hfr,kk⟩
            replace K1:=keep_onto K1 kk
            replace KF:=keep_onto KF kk
            replace K34:=K34.trans kk.all
            replace B1:=blk_on B1 kk
            replace B4:=blk_on B4 kk
            replace B18:=blk_on B18 kk
            clear kk
            clear hcall
            have HFR:=Lib.hid hfr;clear hfr
            have HKA:=Lib.hid KF;clear KF
            have KC:=Keep.refl (fun g=>g < w61.heap.size) w61
            refine ⟨_,rfl,K34,fun a62 e=>?_⟩
            have h56:=pt_ F e;replace F:=pu_ F e;replace h48:=so_ e h48;replace h49:=so_ e h49;replace h50:=so_ e h50;replace h51:=so_ e h51;replace h52:=so_ e h52;replace h53:=so_ e h53;replace h54:=so_ e h54;replace h55:=so_ e h55;clear e
            refine dr_only (i:=9) (fuel:=3) (by kernel_rfl) ?_
            have Y:(execOp a62.eval o70_14_9).run Try.prog w61=.ok (.value (.slice (some ⟨w61.heap.size,0,none⟩) 1 1)) (w61.alloc (.cells #[.int .i64 y.k,.string (str y.nm),.int .i64 y.i,.slice ay y.args.length cy] 24)):=by unfold o70_14_9;go_simp
            have B63:=Blk.new w61 24 #[.int .i64 y.k,.string (str y.nm),.int .i64 y.i,.slice ay y.args.length cy]
            obtain ⟨w64,hw⟩:∃ x,x=w61.alloc (.cells #[.int .i64 y.k,.string (str y.nm),.int .i64 y.i,.slice ay y.args.length cy] 24):=⟨_,rfl⟩;rw [← hw] at Y B63
            obtain ⟨b63,hb⟩:∃ x,x=w61.heap.size:=⟨_,rfl⟩;rw [← hb] at Y B63
            have Nb1_b63:=nb_ hb B1;replace B1:=ba_ hw B1;have Nb4_b63:=nb_ hb B4;replace B4:=ba_ hw B4;have Nb18_b63:=nb_ hb B18;replace B18:=ba_ hw B18;have LK1_b63:=lk_ hb K1;replace K1:=ka_ hw K1;have LK34_b63:=lk_ hb K34;replace K34:=ka_ hw K34;have LKC_b63:=lk_ hb KC;replace KC:=ka_ hw KC;clear hw hb
            refine dr_val (l':=(lb_ 13 1023)) g70_14_9 rfl (by kernel_rfl) (wanted_free rfl) Y K34 fun a65 e=>?_;clear Y
            have h57:=pt_ F e;replace F:=pu_ F e;replace h48:=so_ e h48;replace h49:=so_ e h49;replace h50:=so_ e h50;replace h51:=so_ e h51;replace h52:=so_ e h52;replace h53:=so_ e h53;replace h54:=so_ e h54;replace h55:=so_ e h55;replace h56:=so_ e h56;clear e
            refine dr_only (i:=10) (fuel:=2) (by kernel_rfl) ?_
            obtain ⟨v8,w8,hap,htr,⟨va2,vc2,rfl⟩,kap⟩:=TRow.push (ty:=o70_14_10.type) (p:=(y,ay,cy)) (c2:=1) HTR.out HKA.out HLO.out HFR.out KC B63 (by have h:=congrArg List.length HPS.out;simp at h;have:=HLN.out;omega)
            have Y:(execOp a65.eval o70_14_10).run Try.prog w64=.ok (.value (.slice va2 (ps ++ [(y,ay,cy)]).length vc2)) w8:=by
              unfold o70_14_10 at hap ⊢;unfold execOp;simp only [resolve,invoke,builtin,Sem.run_bind,Sem.run_pure,Result.andThen_ok,List.map_toArray,List.map_cons,List.map_nil,eval_slot h49,eval_slot h57];rw [hap];rfl
            have HTR2:=Lib.hid htr;clear htr HTR hap;have HTR:=HTR2;clear HTR2
            replace K1:=K1.trans (kap.less fun g hg=>Nat.lt_of_lt_of_le hg HWB)
            replace K34:=K34.trans (kap.less fun g hg=>hg.1)
            clear KC
            replace B1:=B1.keep kap Eb1
            replace B4:=B4.keep kap Eb4
            replace B18:=B18.keep kap Eb18
            clear B63
            clear kap
            have KT:=Keep.refl (fun g=>BB ≤ g) w8
            refine dr_val (l':=(lb_ 13 2047)) g70_14_10 rfl (by kernel_rfl) (wanted_free rfl) Y K34 fun a66 e=>?_;clear Y
            have h58:=pt_ F e;replace F:=pu_ F e;replace h48:=so_ e h48;replace h49:=so_ e h49;replace h50:=so_ e h50;replace h51:=so_ e h51;replace h52:=so_ e h52;replace h53:=so_ e h53;replace h54:=so_ e h54;replace h55:=so_ e h55;replace h56:=so_ e h56;replace h57:=so_ e h57;clear e
            refine dt_ (i:=11) (l':=(lb_ 13 4095)) g70_14_11 rfl ns70_14 (wanted_free rfl) K34 (fun _ _=>(yf3_ rfl (F.of h6))) fun a67 e=>?_
            have h59:=pt_ F e;replace F:=pu_ F e;replace h48:=so_ e h48;replace h49:=so_ e h49;replace h50:=so_ e h50;replace h51:=so_ e h51;replace h52:=so_ e h52;replace h53:=so_ e h53;replace h54:=so_ e h54;replace h55:=so_ e h55;replace h56:=so_ e h56;replace h57:=so_ e h57;replace h58:=so_ e h58;clear e
            refine dr_only (i:=12) (fuel:=0) (by kernel_rfl) ?_
            have Y:(execOp a67.eval o70_14_12).run Try.prog w8=.ok .skip (w8.setCell ⟨b18,3,none⟩ (.slice va2 ((ps ++ [(y,ay,cy)]).length) vc2)):=by have qq0:w8.cell? ⟨b18,0,none⟩=some (.int .i64 4):=B18.cell 0;have qq1:w8.cell? ⟨b18,1,none⟩=some (.string (str t.nm)):=B18.cell 1;have qq2:w8.cell? ⟨b18,2,none⟩=some (.int .i64 0):=B18.cell 2;have qq3:w8.cell? ⟨b18,3,none⟩=some (.slice va ps.length vc):=B18.cell 3;have z0:=B18.frozen 3;unfold o70_14_12;go_simp
            obtain ⟨w68,hw⟩:∃ x,x=(w8.setCell ⟨b18,3,none⟩ (.slice va2 ((ps ++ [(y,ay,cy)]).length) vc2)):=⟨_,rfl⟩;rw [← hw] at Y
            have hk:Keep (fun g=>g ≠ b18) w8 w68:=by rw [hw];exact (Keep.refl _ _).setCell (fun h=>h rfl) _
            replace K1:=kx_ hk K1 (Nat.not_lt.2 LK1_b18);replace K34:=kx_ hk K34 (fun hx=>hx.2 rfl);replace KT:=kx_ hk KT (Nat.not_le.2 Eb18);replace B1:=bx_ hk B1 Nb1_b18;replace B4:=bx_ hk B4 Nb4_b18;replace B18:Blk w68 b18 24 #[.int .i64 4,.string (str t.nm),.int .i64 0,.slice va2 ((ps ++ [(y,ay,cy)]).length) vc2]:=(by rw [hw];exact (B18.set_ 3 _));clear hw hk
            refine dr_skip (l':=(lb_ 13 8191)) g70_14_12 rfl (by kernel_rfl) (wanted_free rfl) Y K34 ?_;clear Y
            refine dr_end (by kernel_rfl) ?_
            replace h1:=F.of h1;replace h2:=F.of h2;replace h4:=F.of h4;replace h6:=F.of h6;replace h7:=F.of h7;replace h41:=F.of h41;replace h42:=F.of h42;replace h43:=F.of h43;replace h44:=F.of h44;replace h45:=F.of h45;have R:=F.r;clear F
            clear K34 EK1 EKF D36 D37 D38
            change (c70_55).wp _ _ _ _
            change (Code.region 13 O70_13 false).wp _ _ _ _
            refine reg_in (l:=[0,1,2]) rfl ?_
            have F:FE_ _ [] a67 a67:=⟨R,Ag_.refl _⟩;clear R
            refine sv_ g70_13_0 (ym_ rfl (F.of h7)) fun a69 e=>?_
            have h46:=pt_ F e;replace F:=pu_ F e;clear e
            have Y:(execOp a69.eval o70_13_1).run Try.prog w68=.ok (.value (.int .i64 ((j:Int) + 1))) w68:=by have hwj:IntKind.i64.wrap ((j:Int) + 1)=(j:Int) + 1:=(by rw [IntKind.wrap_i64];omega);unfold o70_13_1;go_simp
            refine sv_ g70_13_1 Y fun a70 e=>?_;clear Y
            have h47:=pt_ F e;replace F:=pu_ F e;replace h46:=so_ e h46;clear e
            refine sv_ g70_13_2 (ya_ rfl h47) fun a71 e=>?_
            clear h7;have h7:=pt_ F e;replace F:=pu_ F e;replace h46:=so_ e h46;replace h47:=so_ e h47;clear e
            refine st_end ?_
            replace h1:=F.of h1;replace h2:=F.of h2;replace h4:=F.of h4;replace h6:=F.of h6;replace h41:=F.of h41;replace h42:=F.of h42;replace h43:=F.of h43;replace h44:=F.of h44;replace h45:=F.of h45;replace h48:=F.of h48;replace h49:=F.of h49;replace h50:=F.of h50;replace h51:=F.of h51;replace h52:=F.of h52;replace h53:=F.of h53;replace h54:=F.of h54;replace h55:=F.of h55;replace h56:=F.of h56;replace h57:=F.of h57;replace h58:=F.of h58;replace h59:=F.of h59;have R:=F.r;clear F
            exact ⟨_,by omega,j + 1,va2,vc2,ps ++ [(y,ay,cy)],rfl,R,h1,h2,h4,h6,h7,K1,B1,B4,B18,(by omega),(Lib.hid (HTR.out.onB KT)),(Lib.hid (by rw [List.map_append,HPS.out,List.take_succ_eq_append_getElem (by omega),List.map_append];have h:=HX.out;rw [List.getElem?_eq_getElem (by omega)] at h;rw [Option.some.inj h];simp only [List.map_cons,List.map_nil,HY.out]))⟩
          ·
            obtain ⟨y,hy⟩:∃ q,mapT (apL bs) y0=q:=⟨_,rfl⟩
            have hcall:=HIH.out y0 (List.mem_of_getElem? HX.out) (by have h:=arg_ns (t:=t) (by omega) (List.mem_of_getElem? HX.out);have:=HN.out;omega) w35 ax cx sa sc (HTX.out.on K1) (bsl_on HS.out K1)
            rw [hy] at hcall;have HY:=Lib.hid hy;clear hy
            have HLO:=Lib.hid KF.size
            refine dr_call (l':=(lb_ 13 509)) g70_14_8 rfl (by kernel_rfl) (wanted_free rfl) (yc2_ en70_70 rfl h54 h55) ((hcall).mono ?_)
            rintro e9 w72 ⟨ay,cy,rfl,hfr,kk⟩
            replace K1:=keep_onto K1 kk
            replace KF:=keep_onto KF kk
            replace K34:=K34.trans kk.all
            replace B1:=blk_on B1 kk
            replace B4:=blk_on B4 kk
            replace B18:=blk_on B18 kk
            clear kk
            clear hcall
            have HFR:=Lib.hid hfr;clear hfr
            have HKA:=Lib.hid KF;clear KF
            have KC:=Keep.refl (fun g=>g < w72.heap.size) w72
            refine ⟨_,rfl,K34,fun a73 e=>?_⟩
            have h56:=pt_ F e;replace F:=pu_ F e;replace h48:=so_ e h48;replace h50:=so_ e h50;replace h51:=so_ e h51;replace h52:=so_ e h52;replace h53:=so_ e h53;replace h54:=so_ e h54;replace h55:=so_ e h55;clear e
            refine dr_two (i:=1) (k:=9) (fuel:=4) (by kernel_rfl) ?_ ?_
            ·
              refine dr_val (l':=(lb_ 13 511)) g70_14_1 rfl (by kernel_rfl) (wanted_free rfl) (yk3_ rfl h48 B18) K34 fun a74 e=>?_
              have h49:=pt_ F e;replace F:=pu_ F e;replace h48:=so_ e h48;replace h50:=so_ e h50;replace h51:=so_ e h51;replace h52:=so_ e h52;replace h53:=so_ e h53;replace h54:=so_ e h54;replace h55:=so_ e h55;replace h56:=so_ e h56;clear e
              refine dr_only (i:=9) (fuel:=3) (by kernel_rfl) ?_
              have Y:(execOp a74.eval o70_14_9).run Try.prog w72=.ok (.value (.slice (some ⟨w72.heap.size,0,none⟩) 1 1)) (w72.alloc (.cells #[.int .i64 y.k,.string (str y.nm),.int .i64 y.i,.slice ay y.args.length cy] 24)):=by unfold o70_14_9;go_simp
              have B75:=Blk.new w72 24 #[.int .i64 y.k,.string (str y.nm),.int .i64 y.i,.slice ay y.args.length cy]
              obtain ⟨w76,hw⟩:∃ x,x=w72.alloc (.cells #[.int .i64 y.k,.string (str y.nm),.int .i64 y.i,.slice ay y.args.length cy] 24):=⟨_,rfl⟩;rw [← hw] at Y B75
              obtain ⟨b75,hb⟩:∃ x,x=w72.heap.size:=⟨_,rfl⟩;rw [← hb] at Y B75
              have Nb1_b75:=nb_ hb B1;replace B1:=ba_ hw B1;have Nb4_b75:=nb_ hb B4;replace B4:=ba_ hw B4;have Nb18_b75:=nb_ hb B18;replace B18:=ba_ hw B18;have LK1_b75:=lk_ hb K1;replace K1:=ka_ hw K1;have LK34_b75:=lk_ hb K34;replace K34:=ka_ hw K34;have LKC_b75:=lk_ hb KC;replace KC:=ka_ hw KC;clear hw hb
              refine dr_val (l':=(lb_ 13 1023)) g70_14_9 rfl (by kernel_rfl) (wanted_free rfl) Y K34 fun a77 e=>?_;clear Y
              have h57:=pt_ F e;replace F:=pu_ F e;replace h48:=so_ e h48;replace h49:=so_ e h49;replace h50:=so_ e h50;replace h51:=so_ e h51;replace h52:=so_ e h52;replace h53:=so_ e h53;replace h54:=so_ e h54;replace h55:=so_ e h55;replace h56:=so_ e h56;clear e
              refine dr_only (i:=10) (fuel:=2) (by kernel_rfl) ?_
              obtain ⟨v8,w8,hap,htr,⟨va2,vc2,rfl⟩,kap⟩:=TRow.push (ty:=o70_14_10.type) (p:=(y,ay,cy)) (c2:=1) HTR.out HKA.out HLO.out HFR.out KC B75 (by have h:=congrArg List.length HPS.out;simp at h;have:=HLN.out;omega)
              have Y:(execOp a77.eval o70_14_10).run Try.prog w76=.ok (.value (.slice va2 (ps ++ [(y,ay,cy)]).length vc2)) w8:=by
                unfold o70_14_10 at hap ⊢;unfold execOp;simp only [resolve,invoke,builtin,Sem.run_bind,Sem.run_pure,Result.andThen_ok,List.map_toArray,List.map_cons,List.map_nil,eval_slot h49,eval_slot h57];rw [hap];rfl
              have HTR2:=Lib.hid htr;clear htr HTR hap;have HTR:=HTR2;clear HTR2
              replace K1:=K1.trans (kap.less fun g hg=>Nat.lt_of_lt_of_le hg HWB)
              replace K34:=K34.trans (kap.less fun g hg=>hg.1)
              clear KC
              replace B1:=B1.keep kap Eb1
              replace B4:=B4.keep kap Eb4
              replace B18:=B18.keep kap Eb18
              clear B75
              clear kap
              have KT:=Keep.refl (fun g=>BB ≤ g) w8
              refine dr_val (l':=(lb_ 13 2047)) g70_14_10 rfl (by kernel_rfl) (wanted_free rfl) Y K34 fun a78 e=>?_;clear Y
              have h58:=pt_ F e;replace F:=pu_ F e;replace h48:=so_ e h48;replace h49:=so_ e h49;replace h50:=so_ e h50;replace h51:=so_ e h51;replace h52:=so_ e h52;replace h53:=so_ e h53;replace h54:=so_ e h54;replace h55:=so_ e h55;replace h56:=so_ e h56;replace h57:=so_ e h57;clear e
              refine dt_ (i:=11) (l':=(lb_ 13 4095)) g70_14_11 rfl ns70_14 (wanted_free rfl) K34 (fun _ _=>(yf3_ rfl (F.of h6))) fun a79 e=>?_
              have h59:=pt_ F e;replace F:=pu_ F e;replace h48:=so_ e h48;replace h49:=so_ e h49;replace h50:=so_ e h50;replace h51:=so_ e h51;replace h52:=so_ e h52;replace h53:=so_ e h53;replace h54:=so_ e h54;replace h55:=so_ e h55;replace h56:=so_ e h56;replace h57:=so_ e h57;replace h58:=so_ e h58;clear e
              refine dr_only (i:=12) (fuel:=0) (by kernel_rfl) ?_
              have Y:(execOp a79.eval o70_14_12).run Try.prog w8=.ok .skip (w8.setCell ⟨b18,3,none⟩ (.slice va2 ((ps ++ [(y,ay,cy)]).length) vc2)):=by have qq0:w8.cell? ⟨b18,0,none⟩=some (.int .i64 4):=B18.cell 0;have qq1:w8.cell? ⟨b18,1,none⟩=some (.string (str t.nm)):=B18.cell 1;have qq2:w8.cell? ⟨b18,2,none⟩=some (.int .i64 0):=B18.cell 2;have qq3:w8.cell? ⟨b18,3,none⟩=some (.slice va ps.length vc):=B18.cell 3;have z0:=B18.frozen 3;unfold o70_14_12;go_simp
              obtain ⟨w80,hw⟩:∃ x,x=(w8.setCell ⟨b18,3,none⟩ (.slice va2 ((ps ++ [(y,ay,cy)]).length) vc2)):=⟨_,rfl⟩;rw [← hw] at Y
              have hk:Keep (fun g=>g ≠ b18) w8 w80:=by rw [hw];exact (Keep.refl _ _).setCell (fun h=>h rfl) _
              replace K1:=kx_ hk K1 (Nat.not_lt.2 LK1_b18);replace K34:=kx_ hk K34 (fun hx=>hx.2 rfl);replace KT:=kx_ hk KT (Nat.not_le.2 Eb18);replace B1:=bx_ hk B1 Nb1_b18;replace B4:=bx_ hk B4 Nb4_b18;replace B18:Blk w80 b18 24 #[.int .i64 4,.string (str t.nm),.int .i64 0,.slice va2 ((ps ++ [(y,ay,cy)]).length) vc2]:=(by rw [hw];exact (B18.set_ 3 _));clear hw hk
              refine dr_skip (l':=(lb_ 13 8191)) g70_14_12 rfl (by kernel_rfl) (wanted_free rfl) Y K34 ?_;clear Y
              refine dr_end (by kernel_rfl) ?_
              replace h1:=F.of h1;replace h2:=F.of h2;replace h4:=F.of h4;replace h6:=F.of h6;replace h7:=F.of h7;replace h41:=F.of h41;replace h42:=F.of h42;replace h43:=F.of h43;replace h44:=F.of h44;replace h45:=F.of h45;have R:=F.r;clear F
              clear K34 EK1 EKF D36 D37 D38
              change (c70_55).wp _ _ _ _
              change (Code.region 13 O70_13 false).wp _ _ _ _
              refine reg_in (l:=[0,1,2]) rfl ?_
              have F:FE_ _ [] a79 a79:=⟨R,Ag_.refl _⟩;clear R
              refine sv_ g70_13_0 (ym_ rfl (F.of h7)) fun a81 e=>?_
              have h46:=pt_ F e;replace F:=pu_ F e;clear e
              have Y:(execOp a81.eval o70_13_1).run Try.prog w80=.ok (.value (.int .i64 ((j:Int) + 1))) w80:=by have hwj:IntKind.i64.wrap ((j:Int) + 1)=(j:Int) + 1:=(by rw [IntKind.wrap_i64];omega);unfold o70_13_1;go_simp
              refine sv_ g70_13_1 Y fun a82 e=>?_;clear Y
              have h47:=pt_ F e;replace F:=pu_ F e;replace h46:=so_ e h46;clear e
              refine sv_ g70_13_2 (ya_ rfl h47) fun a83 e=>?_
              clear h7;have h7:=pt_ F e;replace F:=pu_ F e;replace h46:=so_ e h46;replace h47:=so_ e h47;clear e
              refine st_end ?_
              replace h1:=F.of h1;replace h2:=F.of h2;replace h4:=F.of h4;replace h6:=F.of h6;replace h41:=F.of h41;replace h42:=F.of h42;replace h43:=F.of h43;replace h44:=F.of h44;replace h45:=F.of h45;replace h48:=F.of h48;replace h49:=F.of h49;replace h50:=F.of h50;replace h51:=F.of h51;replace h52:=F.of h52;replace h53:=F.of h53;replace h54:=F.of h54;replace h55:=F.of h55;replace h56:=F.of h56;replace h57:=F.of h57;replace h58:=F.of h58;replace h59:=F.of h59;have R:=F.r;clear F
              exact ⟨_,by omega,j + 1,va2,vc2,ps ++ [(y,ay,cy)],rfl,R,h1,h2,h4,h6,h7,K1,B1,B4,B18,(by omega),(Lib.hid (HTR.out.onB KT)),(Lib.hid (by rw [List.map_append,HPS.out,List.take_succ_eq_append_getElem (by omega),List.map_append];have h:=HX.out;rw [List.getElem?_eq_getElem (by omega)] at h;rw [Option.some.inj h];simp only [List.map_cons,List.map_nil,HY.out]))⟩
            ·
              have Y:(execOp a73.eval o70_14_9).run Try.prog w72=.ok (.value (.slice (some ⟨w72.heap.size,0,none⟩) 1 1)) (w72.alloc (.cells #[.int .i64 y.k,.string (str y.nm),.int .i64 y.i,.slice ay y.args.length cy] 24)):=by unfold o70_14_9;go_simp
              have B84:=Blk.new w72 24 #[.int .i64 y.k,.string (str y.nm),.int .i64 y.i,.slice ay y.args.length cy]
              obtain ⟨w85,hw⟩:∃ x,x=w72.alloc (.cells #[.int .i64 y.k,.string (str y.nm),.int .i64 y.i,.slice ay y.args.length cy] 24):=⟨_,rfl⟩;rw [← hw] at Y B84
              obtain ⟨b84,hb⟩:∃ x,x=w72.heap.size:=⟨_,rfl⟩;rw [← hb] at Y B84
              have Nb1_b84:=nb_ hb B1;replace B1:=ba_ hw B1;have Nb4_b84:=nb_ hb B4;replace B4:=ba_ hw B4;have Nb18_b84:=nb_ hb B18;replace B18:=ba_ hw B18;have LK1_b84:=lk_ hb K1;replace K1:=ka_ hw K1;have LK34_b84:=lk_ hb K34;replace K34:=ka_ hw K34;have LKC_b84:=lk_ hb KC;replace KC:=ka_ hw KC;clear hw hb
              refine dr_val (l':=(lb_ 13 1021)) g70_14_9 rfl (by kernel_rfl) (wanted_free rfl) Y K34 fun a86 e=>?_;clear Y
              have h57:=pt_ F e;replace F:=pu_ F e;replace h48:=so_ e h48;replace h50:=so_ e h50;replace h51:=so_ e h51;replace h52:=so_ e h52;replace h53:=so_ e h53;replace h54:=so_ e h54;replace h55:=so_ e h55;replace h56:=so_ e h56;clear e
              refine dr_only (i:=1) (fuel:=3) (by kernel_rfl) ?_
              refine dr_val (l':=(lb_ 13 1023)) g70_14_1 rfl (by kernel_rfl) (wanted_free rfl) (yk3_ rfl h48 B18) K34 fun a87 e=>?_
              have h49:=pt_ F e;replace F:=pu_ F e;replace h48:=so_ e h48;replace h50:=so_ e h50;replace h51:=so_ e h51;replace h52:=so_ e h52;replace h53:=so_ e h53;replace h54:=so_ e h54;replace h55:=so_ e h55;replace h56:=so_ e h56;replace h57:=so_ e h57;clear e
              refine dr_only (i:=10) (fuel:=2) (by kernel_rfl) ?_
              obtain ⟨v8,w8,hap,htr,⟨va2,vc2,rfl⟩,kap⟩:=TRow.push (ty:=o70_14_10.type) (p:=(y,ay,cy)) (c2:=1) HTR.out HKA.out HLO.out HFR.out KC B84 (by have h:=congrArg List.length HPS.out;simp at h;have:=HLN.out;omega)
              have Y:(execOp a87.eval o70_14_10).run Try.prog w85=.ok (.value (.slice va2 (ps ++ [(y,ay,cy)]).length vc2)) w8:=by
                unfold o70_14_10 at hap ⊢;unfold execOp;simp only [resolve,invoke,builtin,Sem.run_bind,Sem.run_pure,Result.andThen_ok,List.map_toArray,List.map_cons,List.map_nil,eval_slot h49,eval_slot h57];rw [hap];rfl
              have HTR2:=Lib.hid htr;clear htr HTR hap;have HTR:=HTR2;clear HTR2
              replace K1:=K1.trans (kap.less fun g hg=>Nat.lt_of_lt_of_le hg HWB)
              replace K34:=K34.trans (kap.less fun g hg=>hg.1)
              clear KC
              replace B1:=B1.keep kap Eb1
              replace B4:=B4.keep kap Eb4
              replace B18:=B18.keep kap Eb18
              clear B84
              clear kap
              have KT:=Keep.refl (fun g=>BB ≤ g) w8
              refine dr_val (l':=(lb_ 13 2047)) g70_14_10 rfl (by kernel_rfl) (wanted_free rfl) Y K34 fun a88 e=>?_;clear Y
              have h58:=pt_ F e;replace F:=pu_ F e;replace h48:=so_ e h48;replace h49:=so_ e h49;replace h50:=so_ e h50;replace h51:=so_ e h51;replace h52:=so_ e h52;replace h53:=so_ e h53;replace h54:=so_ e h54;replace h55:=so_ e h55;replace h56:=so_ e h56;replace h57:=so_ e h57;clear e
              refine dt_ (i:=11) (l':=(lb_ 13 4095)) g70_14_11 rfl ns70_14 (wanted_free rfl) K34 (fun _ _=>(yf3_ rfl (F.of h6))) fun a89 e=>?_
              have h59:=pt_ F e;replace F:=pu_ F e;replace h48:=so_ e h48;replace h49:=so_ e h49;replace h50:=so_ e h50;replace h51:=so_ e h51;replace h52:=so_ e h52;replace h53:=so_ e h53;replace h54:=so_ e h54;replace h55:=so_ e h55;replace h56:=so_ e h56;replace h57:=so_ e h57;replace h58:=so_ e h58;clear e
              refine dr_only (i:=12) (fuel:=0) (by kernel_rfl) ?_
              have Y:(execOp a89.eval o70_14_12).run Try.prog w8=.ok .skip (w8.setCell ⟨b18,3,none⟩ (.slice va2 ((ps ++ [(y,ay,cy)]).length) vc2)):=by have qq0:w8.cell? ⟨b18,0,none⟩=some (.int .i64 4):=B18.cell 0;have qq1:w8.cell? ⟨b18,1,none⟩=some (.string (str t.nm)):=B18.cell 1;have qq2:w8.cell? ⟨b18,2,none⟩=some (.int .i64 0):=B18.cell 2;have qq3:w8.cell? ⟨b18,3,none⟩=some (.slice va ps.length vc):=B18.cell 3;have z0:=B18.frozen 3;unfold o70_14_12;go_simp
              obtain ⟨w90,hw⟩:∃ x,x=(w8.setCell ⟨b18,3,none⟩ (.slice va2 ((ps ++ [(y,ay,cy)]).length) vc2)):=⟨_,rfl⟩;rw [← hw] at Y
              have hk:Keep (fun g=>g ≠ b18) w8 w90:=by rw [hw];exact (Keep.refl _ _).setCell (fun h=>h rfl) _
              replace K1:=kx_ hk K1 (Nat.not_lt.2 LK1_b18);replace K34:=kx_ hk K34 (fun hx=>hx.2 rfl);replace KT:=kx_ hk KT (Nat.not_le.2 Eb18);replace B1:=bx_ hk B1 Nb1_b18;replace B4:=bx_ hk B4 Nb4_b18;replace B18:Blk w90 b18 24 #[.int .i64 4,.string (str t.nm),.int .i64 0,.slice va2 ((ps ++ [(y,ay,cy)]).length) vc2]:=(by rw [hw];exact (B18.set_ 3 _));clear hw hk
              refine dr_skip (l':=(lb_ 13 8191)) g70_14_12 rfl (by kernel_rfl) (wanted_free rfl) Y K34 ?_;clear Y
              refine dr_end (by kernel_rfl) ?_
              replace h1:=F.of h1;replace h2:=F.of h2;replace h4:=F.of h4;replace h6:=F.of h6;replace h7:=F.of h7;replace h41:=F.of h41;replace h42:=F.of h42;replace h43:=F.of h43;replace h44:=F.of h44;replace h45:=F.of h45;have R:=F.r;clear F
              clear K34 EK1 EKF D36 D37 D38
              change (c70_55).wp _ _ _ _
              change (Code.region 13 O70_13 false).wp _ _ _ _
              refine reg_in (l:=[0,1,2]) rfl ?_
              have F:FE_ _ [] a89 a89:=⟨R,Ag_.refl _⟩;clear R
              refine sv_ g70_13_0 (ym_ rfl (F.of h7)) fun a91 e=>?_
              have h46:=pt_ F e;replace F:=pu_ F e;clear e
              have Y:(execOp a91.eval o70_13_1).run Try.prog w90=.ok (.value (.int .i64 ((j:Int) + 1))) w90:=by have hwj:IntKind.i64.wrap ((j:Int) + 1)=(j:Int) + 1:=(by rw [IntKind.wrap_i64];omega);unfold o70_13_1;go_simp
              refine sv_ g70_13_1 Y fun a92 e=>?_;clear Y
              have h47:=pt_ F e;replace F:=pu_ F e;replace h46:=so_ e h46;clear e
              refine sv_ g70_13_2 (ya_ rfl h47) fun a93 e=>?_
              clear h7;have h7:=pt_ F e;replace F:=pu_ F e;replace h46:=so_ e h46;replace h47:=so_ e h47;clear e
              refine st_end ?_
              replace h1:=F.of h1;replace h2:=F.of h2;replace h4:=F.of h4;replace h6:=F.of h6;replace h41:=F.of h41;replace h42:=F.of h42;replace h43:=F.of h43;replace h44:=F.of h44;replace h45:=F.of h45;replace h48:=F.of h48;replace h49:=F.of h49;replace h50:=F.of h50;replace h51:=F.of h51;replace h52:=F.of h52;replace h53:=F.of h53;replace h54:=F.of h54;replace h55:=F.of h55;replace h56:=F.of h56;replace h57:=F.of h57;replace h58:=F.of h58;replace h59:=F.of h59;have R:=F.r;clear F
              exact ⟨_,by omega,j + 1,va2,vc2,ps ++ [(y,ay,cy)],rfl,R,h1,h2,h4,h6,h7,K1,B1,B4,B18,(by omega),(Lib.hid (HTR.out.onB KT)),(Lib.hid (by rw [List.map_append,HPS.out,List.take_succ_eq_append_getElem (by omega),List.map_append];have h:=HX.out;rw [List.getElem?_eq_getElem (by omega)] at h;rw [Option.some.inj h];simp only [List.map_cons,List.map_nil,HY.out]))⟩
    | true =>
      have fb13:=hb13;clear hb13
      simp only [decide_eq_true_eq,decide_eq_false_iff_not,bne_iff_ne,bne_eq_false_iff_eq,beq_iff_eq,beq_eq_false_iff_ne,ne_eq,Bool.not_eq_true',Bool.not_eq_false',Bool.not_eq_eq_eq_not,Bool.not_true,Bool.not_false] at fb13
      refine wp_cond_true (x:=c70_35) (y:=Code.skip) (eval_slot h35) ?_
      refine wp_seq (x:=c70_36) (y:=Code.ret) ?_
      change (Code.region 9 O70_9 false).wp _ _ _ _
      refine reg_in (l:=[0,1,2]) rfl ?_
      have F:FE_ _ [] a14 a14:=⟨R,Ag_.refl _⟩;clear R
      refine sv_ g70_9_0 (yl4_ rfl (F.of h2) B1) fun a94 e=>?_
      have h36:=pt_ F e;replace F:=pu_ F e;clear e
      refine st_call g70_9_1 rfl (wanted_free rfl) (yc1_ en70_85 rfl h36) ((refBare_any t a c w5).mono ?_)
      rintro e9 w95 ⟨rfl,kk⟩
      replace K1:=keep_onto K1 kk
      replace B1:=blk_on B1 kk
      replace B4:=blk_on B4 kk
      clear kk
      refine ⟨_,rfl,fun a96 e=>?_⟩
      clear h36;have h37:=pt_ F e;replace F:=pu_ F e;clear e
      obtain ⟨w97,Y,hk,hB⟩:=ys4_ (o:=o70_9_2) rfl (F.of h4) h37 B4
      replace K1:=kx_ hk K1 (Nat.not_lt.2 LK1_b4);replace B1:=bx_ hk B1 Nb1_b4;clear B4;have B4:=hB;clear hB hk
      refine st_skip g70_9_2 rfl (wanted_free rfl) Y ?_;clear Y
      refine st_end ?_
      replace h1:=F.of h1;replace h2:=F.of h2;replace h4:=F.of h4;clear h35;clear h37;have R:=F.r;clear F
      change (Code.ret).wp _ _ _ _
      refine wp_ret ?_
      change bodyPost Try.prog Try.f52 (fun e w'=>∃ a' c',e=.returned (tv (mapT (apL bs) t) a' c')∧Fr 0 (fun _=>False) w' W.heap.size w'.heap.size (mapT (apL bs) t) a' c'∧Keep (fun g=>g < W.heap.size) W w') .ret a96 w97
      refine ret_cell (fn:=Try.f52) rfl R h4 B4 ?_
      first | exact fin_bare HT.out K1 (apL_no (by omega) (by omega)) | exact fin_bare HT.out K1 (apL_miss (by omega) (by omega) HNO.out) | exact fin_row HT.out K1 (HTR.out.onB KT) HPS.out HWB (by omega) (by omega) | exact fin_copy K1 ((fr_onB HFC.out KX).up KX.size (Nat.le_refl _)) HWL (apL_hit (by omega) HQ.out (by omega) HNO.out)
  | true =>
    have fb9:=hb9;clear hb9
    simp only [decide_eq_true_eq,decide_eq_false_iff_not,bne_iff_ne,bne_eq_false_iff_eq,beq_iff_eq,beq_eq_false_iff_ne,ne_eq,Bool.not_eq_true',Bool.not_eq_false',Bool.not_eq_eq_eq_not,Bool.not_true,Bool.not_false] at fb9
    refine wp_cond_true (x:=c70_6) (y:=Code.skip) (eval_slot h10) ?_
    refine wp_seq (x:=c70_7) (y:=c70_27) ?_
    refine wp_seq (x:=c70_8) (y:=c70_9) ?_
    change (Code.region 2 O70_2 false).wp _ _ _ _
    refine reg_in (l:=[0]) rfl ?_
    have F:FE_ _ [] a10 a10:=⟨R,Ag_.refl _⟩;clear R
    have Y:(execOp a10.eval o70_2_0).run Try.prog w5=.ok (.value (.int .i64 0)) w5:=by unfold o70_2_0;go_simp
    refine sv_ g70_2_0 Y fun a98 e=>?_;clear Y
    have h5:=pt_ F e;replace F:=pu_ F e;clear e
    refine st_end ?_
    replace h1:=F.of h1;replace h2:=F.of h2;replace h4:=F.of h4;clear h10;have R:=F.r;clear F
    change (c70_9).wp _ _ _ _
    refine wp_block (id:=0) (c:=c70_10) ?_
    refine wp_loop_ghost (c:=c70_11) (fun n fX wX=>∃ i:Nat,n=bs.length - i∧FrS 61 fX∧fX.tmps[1]? = some (.slice sa bs.length sc)∧fX.tmps[2]? = some (.pointer (some ⟨b1,0,none⟩))∧fX.tmps[4]? = some (.pointer (some ⟨b4,0,none⟩))∧fX.tmps[5]? = some (.int .i64 (i:Int))∧Keep (fun g=>g < W.heap.size) W wX∧Blk wX b1 24 #[.int .i64 t.k,.string (str t.nm),.int .i64 t.i,.slice a t.args.length c]∧Blk wX b4 24 #[.int .i64 0,.string (⟨#[]⟩),.int .i64 0,.slice none 0 0]∧i ≤ bs.length∧Hid (∀ r ∈ bs.take i,r.1 ≠ t.i)) (bs.length - 0) ⟨0,rfl,R,h1,h2,h4,h5,K1,B1,B4,Nat.zero_le _,(Lib.hid fun r hr=>by simp at hr)⟩ ?_
    clear R h1 h2 h4 h5 K1 B1 B4
    rintro n101 a99 w100 ⟨i,rfl,R,h1,h2,h4,h5,K1,B1,B4,hi,HNO⟩
    have hl8:=HLB.out
    refine wp_seq (x:=c70_12) (y:=c70_17) ?_
    refine wp_seq (x:=c70_13) (y:=c70_14) ?_
    change (Code.region 3 O70_3 false).wp _ _ _ _
    refine reg_in (l:=[0,1,2,3]) rfl ?_
    have F:FE_ _ [] a99 a99:=⟨R,Ag_.refl _⟩;clear R
    refine sv_ g70_3_0 (ym_ rfl (F.of h5)) fun a102 e=>?_
    have h11:=pt_ F e;replace F:=pu_ F e;clear e
    refine sv_ g70_3_1 (ym_ rfl (F.of h1)) fun a103 e=>?_
    have h12:=pt_ F e;replace F:=pu_ F e;replace h11:=so_ e h11;clear e
    have Y:(execOp a103.eval o70_3_2).run Try.prog w100=.ok (.value (.int .i64 bs.length)) w100:=by unfold o70_3_2;go_simp
    refine sv_ g70_3_2 Y fun a104 e=>?_;clear Y
    have h13:=pt_ F e;replace F:=pu_ F e;replace h11:=so_ e h11;replace h12:=so_ e h12;clear e
    obtain ⟨b105,hb105⟩:∃ x,(decide ((i:Int) < (bs.length:Int)))=x:=⟨_,rfl⟩
    have Y:(execOp a104.eval o70_3_3).run Try.prog w100=.ok (.value (.bool b105)) w100:=by rw [← hb105];unfold o70_3_3;go_simp
    refine sv_ g70_3_3 Y fun a106 e=>?_;clear Y
    have h14:=pt_ F e;replace F:=pu_ F e;replace h11:=so_ e h11;replace h12:=so_ e h12;replace h13:=so_ e h13;clear e
    refine st_end ?_
    replace h1:=F.of h1;replace h2:=F.of h2;replace h4:=F.of h4;replace h5:=F.of h5;have R:=F.r;clear F
    change (c70_14).wp _ _ _ _
    cases b105 with
    | false =>
      have fb105:=hb105;clear hb105
      simp only [decide_eq_true_eq,decide_eq_false_iff_not,bne_iff_ne,bne_eq_false_iff_eq,beq_iff_eq,beq_eq_false_iff_ne,ne_eq,Bool.not_eq_true',Bool.not_eq_false',Bool.not_eq_eq_eq_not,Bool.not_true,Bool.not_false] at fb105
      refine wp_cond_false (x:=Code.skip) (y:=c70_16) (eval_slot h14) ?_
      refine wp_exit ?_
      change (c70_27).wp _ _ _ _
      refine wp_seq (x:=c70_28) (y:=Code.ret) ?_
      change (Code.region 7 O70_7 false).wp _ _ _ _
      refine reg_in (l:=[0,1,2]) rfl ?_
      have F:FE_ _ [] a106 a106:=⟨R,Ag_.refl _⟩;clear R
      refine sv_ g70_7_0 (yl4_ rfl (F.of h2) B1) fun a107 e=>?_
      have h31:=pt_ F e;replace F:=pu_ F e;clear e
      refine st_call g70_7_1 rfl (wanted_free rfl) (yc1_ en70_85 rfl h31) ((refBare_any t a c w100).mono ?_)
      rintro e9 w108 ⟨rfl,kk⟩
      replace K1:=keep_onto K1 kk
      replace B1:=blk_on B1 kk
      replace B4:=blk_on B4 kk
      clear kk
      refine ⟨_,rfl,fun a109 e=>?_⟩
      clear h31;have h32:=pt_ F e;replace F:=pu_ F e;clear e
      obtain ⟨w110,Y,hk,hB⟩:=ys4_ (o:=o70_7_2) rfl (F.of h4) h32 B4
      replace K1:=kx_ hk K1 (Nat.not_lt.2 LK1_b4);replace B1:=bx_ hk B1 Nb1_b4;clear B4;have B4:=hB;clear hB hk
      refine st_skip g70_7_2 rfl (wanted_free rfl) Y ?_;clear Y
      refine st_end ?_
      replace h1:=F.of h1;replace h2:=F.of h2;replace h4:=F.of h4;replace h5:=F.of h5;replace h11:=F.of h11;replace h12:=F.of h12;replace h13:=F.of h13;replace h14:=F.of h14;clear h32;have R:=F.r;clear F
      change (Code.ret).wp _ _ _ _
      refine wp_ret ?_
      change bodyPost Try.prog Try.f52 (fun e w'=>∃ a' c',e=.returned (tv (mapT (apL bs) t) a' c')∧Fr 0 (fun _=>False) w' W.heap.size w'.heap.size (mapT (apL bs) t) a' c'∧Keep (fun g=>g < W.heap.size) W w') .ret a109 w110
      refine ret_cell (fn:=Try.f52) rfl R h4 B4 ?_
      first | exact fin_bare HT.out K1 (apL_no (by omega) (by omega)) | exact fin_bare HT.out K1 (apL_miss (by omega) (by omega) HNO.out) | exact fin_row HT.out K1 (HTR.out.onB KT) HPS.out HWB (by omega) (by omega) | exact fin_copy K1 ((fr_onB HFC.out KX).up KX.size (Nat.le_refl _)) HWL (apL_hit (by omega) HQ.out (by omega) HNO.out)
    | true =>
      have fb105:=hb105;clear hb105
      simp only [decide_eq_true_eq,decide_eq_false_iff_not,bne_iff_ne,bne_eq_false_iff_eq,beq_iff_eq,beq_eq_false_iff_ne,ne_eq,Bool.not_eq_true',Bool.not_eq_false',Bool.not_eq_eq_eq_not,Bool.not_true,Bool.not_false] at fb105
      refine wp_cond_true (x:=Code.skip) (y:=c70_16) (eval_slot h14) ?_
      refine wp_skip ?_
      change (c70_17).wp _ _ _ _
      refine wp_seq (x:=c70_18) (y:=c70_26) ?_
      refine wp_block (id:=1) (c:=c70_19) ?_
      refine wp_seq (x:=c70_20) (y:=c70_21) ?_
      change (Code.region 5 O70_5 true).wp _ _ _ _
      have D113:=B1
      have D114:=B4
      have K111:=(Keep.refl (fun g=>g < w100.heap.size) w100).drew
      have EK1:=K1
      refine dr_in (S:=(fun W=>Keep (fun g=>g < w100.heap.size) w100 W)) (n:=8) (l:=lb_ 8 0) (by kernel_rfl) K111 rfl (by kernel_rfl) ?_
      replace K1:=K1.drew
      replace B1:=B1.drew
      replace B4:=B4.drew
      generalize w100.drew=w112 at K111 K1 B1 B4 ⊢
      have F:FE_ _ [] a106 a106:=⟨R,Ag_.refl _⟩;clear R
      refine dt_ (i:=0) (l':=(lb_ 8 1)) g70_5_0 rfl ns70_5 (wanted_free rfl) K111 (fun _ _=>(ym_ rfl (F.of h1))) fun a115 e=>?_
      have h17:=pt_ F e;replace F:=pu_ F e;clear e
      refine dt_ (i:=1) (l':=(lb_ 8 3)) g70_5_1 rfl ns70_5 (wanted_free rfl) K111 (fun _ _=>(ym_ rfl (F.of h5))) fun a116 e=>?_
      have h18:=pt_ F e;replace F:=pu_ F e;replace h17:=so_ e h17;clear e
      refine dt_ (i:=5) (l':=(lb_ 8 35)) g70_5_5 rfl ns70_5 (wanted_free rfl) K111 (fun _ _=>(yf2_ rfl (F.of h2))) fun a117 e=>?_
      have h22:=pt_ F e;replace F:=pu_ F e;replace h17:=so_ e h17;replace h18:=so_ e h18;clear e
      refine dt_ (i:=6) (l':=(lb_ 8 99)) g70_5_6 rfl ns70_5 (wanted_free rfl) K111 (fun W7 hS=>(yk2_ rfl h22 (D113.keep hS D113.lt))) fun a118 e=>?_
      have h23:=pt_ F e;replace F:=pu_ F e;replace h17:=so_ e h17;replace h18:=so_ e h18;replace h22:=so_ e h22;clear e
      refine dr_only (i:=2) (fuel:=3) (by kernel_rfl) ?_
      obtain ⟨q,hq⟩:∃ q,bs[i]? = some q:=⟨_,List.getElem?_eq_getElem (by omega)⟩
      obtain ⟨bQ,oQ,hsQ,-⟩:=bsl_addr HS.out (show i < bs.length by omega)
      have hltQ:(i:Int) < (bs.length:Int):=by omega
      have HQ:=Lib.hid hq;clear hq;have HSQ:=Lib.hid hsQ;clear hsQ
      have Y:(execOp a118.eval o70_5_2).run Try.prog w112=.ok (.value (.pointer (some ⟨bQ,oQ + i * 5,none⟩))) w112:=by have hsQ:=HSQ.out;unfold o70_5_2;go_simp
      refine dr_val (l':=(lb_ 8 103)) g70_5_2 rfl (by kernel_rfl) (wanted_free rfl) Y K111 fun a119 e=>?_;clear Y
      have h19:=pt_ F e;replace F:=pu_ F e;replace h17:=so_ e h17;replace h18:=so_ e h18;replace h22:=so_ e h22;replace h23:=so_ e h23;clear e
      have Y:∀ W,Keep (fun g=>g < w100.heap.size) w100 W→(execOp a119.eval o70_5_3).run Try.prog W=.ok (.value (.pointer (some ⟨bQ,oQ + i * 5,none⟩))) W:=by intro W7 hS;unfold o70_5_3;go_simp
      refine dt_ (i:=3) (l':=(lb_ 8 111)) g70_5_3 rfl ns70_5 (wanted_free rfl) K111 Y fun a120 e=>?_;clear Y
      have h20:=pt_ F e;replace F:=pu_ F e;replace h17:=so_ e h17;replace h18:=so_ e h18;replace h19:=so_ e h19;replace h22:=so_ e h22;replace h23:=so_ e h23;clear e
      have Y:∀ W,Keep (fun g=>g < w100.heap.size) w100 W→(execOp a120.eval o70_5_4).run Try.prog W=.ok (.value (.int .i64 q.1)) W:=by intro W7 hS;obtain ⟨⟨c0,c1,c2,c3,c4⟩,-⟩:=bsl_at (bsl_on HS.out (keep_onto EK1 hS)) HSQ.out HQ.out;unfold o70_5_4;go_simp
      refine dt_ (i:=4) (l':=(lb_ 8 127)) g70_5_4 rfl ns70_5 (wanted_free rfl) K111 Y fun a121 e=>?_;clear Y
      have h21:=pt_ F e;replace F:=pu_ F e;replace h17:=so_ e h17;replace h18:=so_ e h18;replace h19:=so_ e h19;replace h20:=so_ e h20;replace h22:=so_ e h22;replace h23:=so_ e h23;clear e
      obtain ⟨b122,hb122⟩:∃ x,(((q.1:Int) == (t.i:Int)))=x:=⟨_,rfl⟩
      have Y:∀ W,Keep (fun g=>g < w100.heap.size) w100 W→(execOp a121.eval o70_5_7).run Try.prog W=.ok (.value (.bool b122)) W:=by intro W7 hS;rw [← hb122];unfold o70_5_7;go_simp
      refine dt_ (i:=7) (l':=(lb_ 8 255)) g70_5_7 rfl ns70_5 (wanted_free rfl) K111 Y fun a123 e=>?_;clear Y
      have h24:=pt_ F e;replace F:=pu_ F e;replace h17:=so_ e h17;replace h18:=so_ e h18;replace h19:=so_ e h19;replace h20:=so_ e h20;replace h21:=so_ e h21;replace h22:=so_ e h22;replace h23:=so_ e h23;clear e
      refine dr_end (by kernel_rfl) ?_
      replace h1:=F.of h1;replace h2:=F.of h2;replace h4:=F.of h4;replace h5:=F.of h5;replace h11:=F.of h11;replace h12:=F.of h12;replace h13:=F.of h13;replace h14:=F.of h14;have R:=F.r;clear F
      clear K111 EK1 D113 D114
      change (c70_21).wp _ _ _ _
      cases b122 with
      | false =>
        have fb122:=hb122;clear hb122
        simp only [decide_eq_true_eq,decide_eq_false_iff_not,bne_iff_ne,bne_eq_false_iff_eq,beq_iff_eq,beq_eq_false_iff_ne,ne_eq,Bool.not_eq_true',Bool.not_eq_false',Bool.not_eq_eq_eq_not,Bool.not_true,Bool.not_false] at fb122
        refine wp_cond_false (x:=c70_22) (y:=Code.skip) (eval_slot h24) ?_
        refine wp_skip ?_
        change (c70_26).wp _ _ _ _
        change (Code.region 4 O70_4 false).wp _ _ _ _
        refine reg_in (l:=[0,1,2]) rfl ?_
        have F:FE_ _ [] a123 a123:=⟨R,Ag_.refl _⟩;clear R
        refine sv_ g70_4_0 (ym_ rfl (F.of h5)) fun a124 e=>?_
        have h15:=pt_ F e;replace F:=pu_ F e;clear e
        have Y:(execOp a124.eval o70_4_1).run Try.prog w112=.ok (.value (.int .i64 ((i:Int) + 1))) w112:=by have hwj:IntKind.i64.wrap ((i:Int) + 1)=(i:Int) + 1:=(by rw [IntKind.wrap_i64];omega);unfold o70_4_1;go_simp
        refine sv_ g70_4_1 Y fun a125 e=>?_;clear Y
        have h16:=pt_ F e;replace F:=pu_ F e;replace h15:=so_ e h15;clear e
        refine sv_ g70_4_2 (ya_ rfl h16) fun a126 e=>?_
        clear h5;have h5:=pt_ F e;replace F:=pu_ F e;replace h15:=so_ e h15;replace h16:=so_ e h16;clear e
        refine st_end ?_
        replace h1:=F.of h1;replace h2:=F.of h2;replace h4:=F.of h4;replace h11:=F.of h11;replace h12:=F.of h12;replace h13:=F.of h13;replace h14:=F.of h14;replace h17:=F.of h17;replace h18:=F.of h18;replace h19:=F.of h19;replace h20:=F.of h20;replace h21:=F.of h21;replace h22:=F.of h22;replace h23:=F.of h23;replace h24:=F.of h24;have R:=F.r;clear F
        exact ⟨_,by omega,i + 1,rfl,R,h1,h2,h4,h5,K1,B1,B4,(by omega),(Lib.hid (no_more HNO.out HQ.out (by omega)))⟩
      | true =>
        have fb122:=hb122;clear hb122
        simp only [decide_eq_true_eq,decide_eq_false_iff_not,bne_iff_ne,bne_eq_false_iff_eq,beq_iff_eq,beq_eq_false_iff_ne,ne_eq,Bool.not_eq_true',Bool.not_eq_false',Bool.not_eq_eq_eq_not,Bool.not_true,Bool.not_false] at fb122
        refine wp_cond_true (x:=c70_22) (y:=Code.skip) (eval_slot h24) ?_
        refine wp_seq (x:=c70_23) (y:=Code.ret) ?_
        change (Code.region 6 O70_6 false).wp _ _ _ _
        refine reg_in (l:=[0,1,2,3,4,5,6]) rfl ?_
        have F:FE_ _ [] a123 a123:=⟨R,Ag_.refl _⟩;clear R
        refine sv_ g70_6_0 (ym_ rfl (F.of h1)) fun a127 e=>?_
        have h25:=pt_ F e;replace F:=pu_ F e;clear e
        refine sv_ g70_6_1 (ym_ rfl (F.of h5)) fun a128 e=>?_
        have h26:=pt_ F e;replace F:=pu_ F e;replace h25:=so_ e h25;clear e
        have Y:(execOp a128.eval o70_6_2).run Try.prog w112=.ok (.value (.pointer (some ⟨bQ,oQ + i * 5,none⟩))) w112:=by have hsQ:=HSQ.out;unfold o70_6_2;go_simp
        refine sv_ g70_6_2 Y fun a129 e=>?_;clear Y
        have h27:=pt_ F e;replace F:=pu_ F e;replace h25:=so_ e h25;replace h26:=so_ e h26;clear e
        have Y:(execOp a129.eval o70_6_3).run Try.prog w112=.ok (.value (.pointer (some ⟨bQ,oQ + i * 5 + 1,none⟩))) w112:=by unfold o70_6_3;go_simp
        refine sv_ g70_6_3 Y fun a130 e=>?_;clear Y
        have h28:=pt_ F e;replace F:=pu_ F e;replace h25:=so_ e h25;replace h26:=so_ e h26;replace h27:=so_ e h27;clear e
        have Y:(execOp a130.eval o70_6_4).run Try.prog w112=.ok (.value (.agg #[.int .i64 q.2.1.k,.string (str q.2.1.nm),.int .i64 q.2.1.i,.slice q.2.2.1 q.2.1.args.length q.2.2.2])) w112:=by obtain ⟨⟨c0,c1,c2,c3,c4⟩,-⟩:=bsl_at (bsl_on HS.out K1) HSQ.out HQ.out;have c2':=c2;have c3':=c3;have c4':=c4;rw [show oQ + i * 5 + 2=oQ + i * 5 + 1 + 1 from rfl] at c2;rw [show oQ + i * 5 + 3=oQ + i * 5 + 1 + 2 from rfl] at c3;rw [show oQ + i * 5 + 4=oQ + i * 5 + 1 + 3 from rfl] at c4;unfold o70_6_4;go_simp
        refine sv_ g70_6_4 Y fun a131 e=>?_;clear Y
        have h29:=pt_ F e;replace F:=pu_ F e;replace h25:=so_ e h25;replace h26:=so_ e h26;replace h27:=so_ e h27;replace h28:=so_ e h28;clear e
        obtain ⟨LO,hLO⟩:∃ q,q=w112.heap.size:=⟨_,rfl⟩
        have Fb1:b1 < LO:=by rw [hLO];exact B1.lt
        have Fb4:b4 < LO:=by rw [hLO];exact B4.lt
        have HWL:W.heap.size ≤ LO:=by rw [hLO];exact K1.size
        have hcall:=refCopy_any (bsl_at (bsl_on HS.out K1) HSQ.out HQ.out).2.2 (HBN.out q (List.mem_of_getElem? HQ.out))
        refine st_call g70_6_5 rfl (wanted_free rfl) (yc1_ en70_34 rfl h29) ((hcall).mono ?_)
        rintro e9 w132 ⟨a9,c9,rfl,hfr,kk⟩
        replace K1:=keep_onto K1 kk
        replace B1:=blk_on B1 kk
        replace B4:=blk_on B4 kk
        clear kk
        clear hcall
        rw [← hLO] at hfr;clear hLO
        have HFC:=Lib.hid hfr;clear hfr
        have KX:=Keep.refl (fun g=>LO ≤ g) w132
        refine ⟨_,rfl,fun a133 e=>?_⟩
        have h30:=pt_ F e;replace F:=pu_ F e;replace h25:=so_ e h25;replace h26:=so_ e h26;replace h27:=so_ e h27;replace h28:=so_ e h28;replace h29:=so_ e h29;clear e
        obtain ⟨w134,Y,hk,hB⟩:=ys4_ (o:=o70_6_6) rfl (F.of h4) h30 B4
        replace K1:=kx_ hk K1 (Nat.not_lt.2 LK1_b4);replace KX:=kx_ hk KX (Nat.not_le.2 Fb4);replace B1:=bx_ hk B1 Nb1_b4;clear B4;have B4:=hB;clear hB hk
        refine st_skip g70_6_6 rfl (wanted_free rfl) Y ?_;clear Y
        refine st_end ?_
        replace h1:=F.of h1;replace h2:=F.of h2;replace h4:=F.of h4;replace h5:=F.of h5;replace h11:=F.of h11;replace h12:=F.of h12;replace h13:=F.of h13;replace h14:=F.of h14;replace h17:=F.of h17;replace h18:=F.of h18;replace h19:=F.of h19;replace h20:=F.of h20;replace h21:=F.of h21;replace h22:=F.of h22;replace h23:=F.of h23;replace h24:=F.of h24;have R:=F.r;clear F
        change (Code.ret).wp _ _ _ _
        refine wp_ret ?_
        change bodyPost Try.prog Try.f52 (fun e w'=>∃ a' c',e=.returned (tv (mapT (apL bs) t) a' c')∧Fr 0 (fun _=>False) w' W.heap.size w'.heap.size (mapT (apL bs) t) a' c'∧Keep (fun g=>g < W.heap.size) W w') .ret a133 w134
        refine ret_cell (fn:=Try.f52) rfl R h4 B4 ?_
        first | exact fin_bare HT.out K1 (apL_no (by omega) (by omega)) | exact fin_bare HT.out K1 (apL_miss (by omega) (by omega) HNO.out) | exact fin_row HT.out K1 (HTR.out.onB KT) HPS.out HWB (by omega) (by omega) | exact fin_copy K1 ((fr_onB HFC.out KX).up KX.size (Nat.le_refl _)) HWL (apL_hit (by omega) HQ.out (by omega) HNO.out)
theorem refapply_any (bs:List BP) (hlb:bs.length ≤ 100000) (hbn:∀ q ∈ bs,q.2.1.ns ≤ 2000):∀ (t:Tm),t.ns ≤ 2000→∀ (W:World) (a:Option Addr) (c:Nat) (sa:Option Addr) (sc:Nat),TmAt W.heap.size W t a c→BSl W.heap.size W sa bs→Calls Try.prog 52 #[tv t a c,.slice sa bs.length sc] W fun e w'=>∃ a' c',e=.returned (tv (mapT (apL bs) t) a' c')∧Fr 0 (fun _=>False) w' W.heap.size w'.heap.size (mapT (apL bs) t) a' c'∧Keep (fun g=>g < W.heap.size) W w':=by
  intro t
  induction t using Tm.ind with
  | h k nm i args ih =>
    intro hn W a c sa sc hT hS
    refine enter_sx Try.func52 body70 rfl (by show (2:Nat) ≤ 61;decide) fun f0 R hs=>?_
    exact apply_w R (hs 0 _ rfl) (hs 1 _ rfl) (Keep.refl _ W) (Lib.hid hT) (Lib.hid hn) (Lib.hid hS) (Lib.hid hlb) (Lib.hid hbn) (Lib.hid fun x hx hx2=>ih x hx hx2)
end Go.Proofs.Ytjinmnekfhekpaa
