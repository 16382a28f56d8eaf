/-
  Package post: find, Len, Peek: walked with letter frames. No condition but where post and terms lie.
-/
import Derived.Test.YtnfcbalppecnfaaGreatPPo2
namespace Go.Proofs.YtnfcbalppecnfaaGreat
open Go.RowKit Go.Maps
set_option linter.unusedVariables false
set_option linter.unusedSimpArgs false
theorem First.at {u:Tm} {ps:List TP} {z:Int} (h:First u ps z) {j:Nat} {p:TP} (hp:ps[j]? = some p) (hf:Fit p.1 u) (hn:∀ (i:Nat) (q:TP),i < j→ps[i]? = some q→¬ Fit q.1 u):z=j:=by
  rcases h with ⟨_,h⟩ | ⟨i,q,rfl,hq,hqf,hqn⟩
  · exact absurd hf (h p (List.mem_of_getElem? hp))
  · rcases Nat.lt_trichotomy i j with hij | hij | hij
    · exact absurd hqf (hn i q hij hq)
    · rw [hij]
    · exact absurd hf (hqn j p hij hp)
theorem First.none {u:Tm} {ps:List TP} {z:Int} (h:First u ps z) (hn:∀ p ∈ ps,¬ Fit p.1 u):z=-1:=by
  rcases h with ⟨h,_⟩ | ⟨i,q,_,hq,hqf,_⟩
  · exact h
  · exact absurd hqf (hn q (List.mem_of_getElem? hq))
def oq60_0_0:Oper:=⟨some 5,Op.box 28 (Operand.tmp 2),0, "post.go:97",#[],none⟩
def oq60_0_1:Oper:=⟨some 6,Op.assign (Operand.const (Value.pointer none)),69, "post.go:97",#[],none⟩
def oq60_0_2:Oper:=⟨some 7,Op.assign (Operand.const (Value.int IntKind.i64 0)),3, "post.go:97",#[ec_ 1],none⟩
def oq60_0_3:Oper:=⟨some 8,Op.assign (Operand.const (Value.int IntKind.i64 0)),39, "post.go:97",#[ec_ 2],none⟩
def Oq60_0:Array Oper:=List.toArray (oq60_0_0::oq60_0_1::oq60_0_2::oq60_0_3::[])
theorem gq60_0_0:Oq60_0[0]? = some oq60_0_0:=rfl
theorem gq60_0_1:Oq60_0[1]? = some oq60_0_1:=rfl
theorem gq60_0_2:Oq60_0[2]? = some oq60_0_2:=rfl
theorem gq60_0_3:Oq60_0[3]? = some oq60_0_3:=rfl
def cq60_1:Code:=Code.region 0 Oq60_0 false
def oq60_1_0:Oper:=⟨some 16,Op.move (Operand.tmp 0),23, "post.go:98",#[],none⟩
def oq60_1_1:Oper:=⟨some 17,Op.nilCheck (Operand.tmp 16),0, "post.go:98",#[ed_ 0],none⟩
def oq60_1_2:Oper:=⟨some 18,Op.fieldAddr 48 (Operand.tmp 17) 1,0, "post.go:98",#[ed_ 1],none⟩
def oq60_1_3:Oper:=⟨some 19,Op.load 46 (Operand.tmp 18),46, "post.go:98",#[ed_ 2],none⟩
def oq60_1_4:Oper:=⟨some 20,Op.move (Operand.tmp 1),3, "post.go:98",#[],none⟩
def oq60_1_5:Oper:=⟨some 21,Op.lookup 46 (Operand.tmp 19) (Operand.tmp 20) true,70, "post.go:98",#[ed_ 3,ed_ 4],none⟩
def oq60_1_6:Oper:=⟨some 15,Op.move (Operand.tmp 21),70, "post.go:98",#[ed_ 5],none⟩
def oq60_1_7:Oper:=⟨some 22,Op.extract (Operand.tmp 15) 0,69, "post.go:98",#[ed_ 6],none⟩
def oq60_1_8:Oper:=⟨some 23,Op.extract (Operand.tmp 15) 1,4, "post.go:98",#[ed_ 6,{ on:=9,ground:=Go.Ground.gcOnly Go.Departure.lateStores }],none⟩
def oq60_1_9:Oper:=⟨some 9,Op.assign (Operand.tmp 22),69, "post.go:98",#[ed_ 7,ep_ 0,ep_ 1,ep_ 2,ep_ 3,ep_ 4,ep_ 5,ep_ 6,ep_ 7,{ on:=8,ground:=Go.Ground.textOnly Go.Departure.lateStores }],none⟩
def oq60_1_10:Oper:=⟨some 10,Op.assign (Operand.tmp 23),4, "post.go:98",#[ed_ 8,ec_ 9,ep_ 0,ep_ 1,ep_ 2,ep_ 3,ep_ 4,ep_ 5,ep_ 6,ep_ 7,ep_ 8,ep_ 9],none⟩
def Oq60_1:Array Oper:=List.toArray (oq60_1_0::oq60_1_1::oq60_1_2::oq60_1_3::oq60_1_4::oq60_1_5::oq60_1_6::oq60_1_7::oq60_1_8::oq60_1_9::oq60_1_10::[])
theorem gq60_1_0:Oq60_1[0]? = some oq60_1_0:=rfl
theorem gq60_1_1:Oq60_1[1]? = some oq60_1_1:=rfl
theorem gq60_1_2:Oq60_1[2]? = some oq60_1_2:=rfl
theorem gq60_1_3:Oq60_1[3]? = some oq60_1_3:=rfl
theorem gq60_1_4:Oq60_1[4]? = some oq60_1_4:=rfl
theorem gq60_1_5:Oq60_1[5]? = some oq60_1_5:=rfl
theorem gq60_1_6:Oq60_1[6]? = some oq60_1_6:=rfl
theorem gq60_1_7:Oq60_1[7]? = some oq60_1_7:=rfl
theorem gq60_1_8:Oq60_1[8]? = some oq60_1_8:=rfl
theorem gq60_1_9:Oq60_1[9]? = some oq60_1_9:=rfl
theorem gq60_1_10:Oq60_1[10]? = some oq60_1_10:=rfl
def cq60_3:Code:=Code.region 1 Oq60_1 false
def oq60_2_0:Oper:=⟨some 24,Op.move (Operand.tmp 10),4, "post.go:99",#[],none⟩
def oq60_2_1:Oper:=⟨some 25,Op.unOp Go.UnOp.not 4 (Operand.tmp 24),4, "post.go:99",#[ed_ 0],none⟩
def Oq60_2:Array Oper:=List.toArray (oq60_2_0::oq60_2_1::[])
theorem gq60_2_0:Oq60_2[0]? = some oq60_2_0:=rfl
theorem gq60_2_1:Oq60_2[1]? = some oq60_2_1:=rfl
def cq60_6:Code:=Code.region 2 Oq60_2 false
def oq60_3_0:Oper:=⟨some 6,Op.assign (Operand.const (Value.pointer none)),69, "post.go:100",#[],none⟩
def oq60_3_1:Oper:=⟨some 7,Op.assign (Operand.const (Value.int IntKind.i64 0)),3, "post.go:100",#[ec_ 0,ep_ 0],none⟩
def oq60_3_2:Oper:=⟨some 8,Op.assign (Operand.const (Value.int IntKind.i64 140)),39, "post.go:100",#[ec_ 1,ep_ 0,ep_ 1],none⟩
def Oq60_3:Array Oper:=List.toArray (oq60_3_0::oq60_3_1::oq60_3_2::[])
theorem gq60_3_0:Oq60_3[0]? = some oq60_3_0:=rfl
theorem gq60_3_1:Oq60_3[1]? = some oq60_3_1:=rfl
theorem gq60_3_2:Oq60_3[2]? = some oq60_3_2:=rfl
def cq60_9:Code:=Code.region 3 Oq60_3 false
def cq60_8:Code:=Code.seq cq60_9 Code.ret
def cq60_7:Code:=Code.cond (Operand.tmp 25) cq60_8 Code.skip
def cq60_5:Code:=Code.seq cq60_6 cq60_7
def oq60_4_0:Oper:=⟨some 27,Op.load 28 (Operand.tmp 5),28, "post.go:103",#[],none⟩
def oq60_4_1:Oper:=⟨some 28,Op.call { callee:=Callee.value (Operand.func 30),args:=#[Operand.tmp 27,Operand.const (Value.int IntKind.i64 2001)],argTypes:=#[28,2] },73, "post.go:103",#[ed_ 0],none⟩
def oq60_4_2:Oper:=⟨some 26,Op.move (Operand.tmp 28),73, "post.go:103",#[ed_ 1],none⟩
def oq60_4_3:Oper:=⟨some 29,Op.extract (Operand.tmp 26) 0,28, "post.go:103",#[ed_ 2],none⟩
def oq60_4_4:Oper:=⟨some 30,Op.extract (Operand.tmp 26) 1,2, "post.go:103",#[ed_ 2,{ on:=7,ground:=Go.Ground.gcOnly Go.Departure.lateStores }],none⟩
def oq60_4_5:Oper:=⟨some 31,Op.extract (Operand.tmp 26) 2,39, "post.go:103",#[ed_ 2,{ on:=8,ground:=Go.Ground.gcOnly Go.Departure.lateStores }],none⟩
def oq60_4_6:Oper:=⟨some 11,Op.alloc 28,0, "post.go:103",#[],none⟩
def oq60_4_7:Oper:=⟨none,Op.store 28 (Operand.tmp 11) (Operand.tmp 29),0, "post.go:103",#[ed_ 6,ed_ 3,ec_ 1,ep_ 0,ep_ 1,ep_ 2,ep_ 3,{ on:=4,ground:=Go.Ground.textOnly Go.Departure.lateStores },{ on:=5,ground:=Go.Ground.textOnly Go.Departure.lateStores },ep_ 6],none⟩
def oq60_4_8:Oper:=⟨some 12,Op.assign (Operand.tmp 30),2, "post.go:103",#[ed_ 4,ec_ 7,ep_ 0,ep_ 1,ep_ 2,ep_ 3,ep_ 4,{ on:=5,ground:=Go.Ground.textOnly Go.Departure.lateStores },ep_ 6,ep_ 7],none⟩
def oq60_4_9:Oper:=⟨some 13,Op.assign (Operand.tmp 31),39, "post.go:103",#[ed_ 5,ec_ 8,ep_ 0,ep_ 1,ep_ 2,ep_ 3,ep_ 4,ep_ 5,ep_ 6,ep_ 7,ep_ 8],none⟩
def Oq60_4:Array Oper:=List.toArray (oq60_4_0::oq60_4_1::oq60_4_2::oq60_4_3::oq60_4_4::oq60_4_5::oq60_4_6::oq60_4_7::oq60_4_8::oq60_4_9::[])
theorem gq60_4_0:Oq60_4[0]? = some oq60_4_0:=rfl
theorem gq60_4_1:Oq60_4[1]? = some oq60_4_1:=rfl
theorem gq60_4_2:Oq60_4[2]? = some oq60_4_2:=rfl
theorem gq60_4_3:Oq60_4[3]? = some oq60_4_3:=rfl
theorem gq60_4_4:Oq60_4[4]? = some oq60_4_4:=rfl
theorem gq60_4_5:Oq60_4[5]? = some oq60_4_5:=rfl
theorem gq60_4_6:Oq60_4[6]? = some oq60_4_6:=rfl
theorem gq60_4_7:Oq60_4[7]? = some oq60_4_7:=rfl
theorem gq60_4_8:Oq60_4[8]? = some oq60_4_8:=rfl
theorem gq60_4_9:Oq60_4[9]? = some oq60_4_9:=rfl
def cq60_13:Code:=Code.region 4 Oq60_4 false
def oq60_5_0:Oper:=⟨some 32,Op.move (Operand.tmp 13),39, "post.go:104",#[],none⟩
def oq60_5_1:Oper:=⟨some 33,Op.binOp Go.BinOp.neq 39 (Operand.tmp 32) (Operand.const (Value.int IntKind.i64 0)) 39,4, "post.go:104",#[ed_ 0],none⟩
def Oq60_5:Array Oper:=List.toArray (oq60_5_0::oq60_5_1::[])
theorem gq60_5_0:Oq60_5[0]? = some oq60_5_0:=rfl
theorem gq60_5_1:Oq60_5[1]? = some oq60_5_1:=rfl
def cq60_16:Code:=Code.region 5 Oq60_5 false
def oq60_6_0:Oper:=⟨some 34,Op.move (Operand.tmp 13),39, "post.go:105",#[{ on:=2,ground:=Go.Ground.gcOnly Go.Departure.lateStores }],none⟩
def oq60_6_1:Oper:=⟨some 6,Op.assign (Operand.const (Value.pointer none)),69, "post.go:105",#[{ on:=0,ground:=Go.Ground.textOnly Go.Departure.lateStores }],none⟩
def oq60_6_2:Oper:=⟨some 7,Op.assign (Operand.const (Value.int IntKind.i64 0)),3, "post.go:105",#[ec_ 1,{ on:=0,ground:=Go.Ground.textOnly Go.Departure.lateStores },ep_ 1],none⟩
def oq60_6_3:Oper:=⟨some 8,Op.assign (Operand.tmp 34),39, "post.go:105",#[ed_ 0,ec_ 2,ep_ 0,ep_ 1,ep_ 2],none⟩
def Oq60_6:Array Oper:=List.toArray (oq60_6_0::oq60_6_1::oq60_6_2::oq60_6_3::[])
theorem gq60_6_0:Oq60_6[0]? = some oq60_6_0:=rfl
theorem gq60_6_1:Oq60_6[1]? = some oq60_6_1:=rfl
theorem gq60_6_2:Oq60_6[2]? = some oq60_6_2:=rfl
theorem gq60_6_3:Oq60_6[3]? = some oq60_6_3:=rfl
def cq60_19:Code:=Code.region 6 Oq60_6 false
def cq60_18:Code:=Code.seq cq60_19 Code.ret
def cq60_17:Code:=Code.cond (Operand.tmp 33) cq60_18 Code.skip
def cq60_15:Code:=Code.seq cq60_16 cq60_17
def oq60_7_0:Oper:=⟨some 35,Op.move (Operand.tmp 9),69, "post.go:107",#[],none⟩
def oq60_7_1:Oper:=⟨some 36,Op.nilCheck (Operand.tmp 35),0, "post.go:107",#[ed_ 0],none⟩
def oq60_7_2:Oper:=⟨some 37,Op.fieldAddr 72 (Operand.tmp 36) 1,0, "post.go:107",#[ed_ 1],none⟩
def oq60_7_3:Oper:=⟨some 38,Op.load 26 (Operand.tmp 37),26, "post.go:107",#[ed_ 2],none⟩
def oq60_7_4:Oper:=⟨some 39,Op.makeFunc (Go.Fn.func 48) #[] #[Operand.tmp 11],31, "post.go:107",#[],none⟩
def oq60_7_5:Oper:=⟨some 40,Op.call { callee:=Callee.value (Operand.func 47),args:=#[Operand.tmp 38,Operand.tmp 39],argTypes:=#[26,31] },3, "post.go:107",#[ed_ 3,ed_ 4],none⟩
def oq60_7_6:Oper:=⟨some 14,Op.assign (Operand.tmp 40),3, "post.go:107",#[ed_ 5,ec_ 5,ep_ 0,ep_ 1,ep_ 2,ep_ 3,ep_ 4,ep_ 5],none⟩
def Oq60_7:Array Oper:=List.toArray (oq60_7_0::oq60_7_1::oq60_7_2::oq60_7_3::oq60_7_4::oq60_7_5::oq60_7_6::[])
theorem gq60_7_0:Oq60_7[0]? = some oq60_7_0:=rfl
theorem gq60_7_1:Oq60_7[1]? = some oq60_7_1:=rfl
theorem gq60_7_2:Oq60_7[2]? = some oq60_7_2:=rfl
theorem gq60_7_3:Oq60_7[3]? = some oq60_7_3:=rfl
theorem gq60_7_4:Oq60_7[4]? = some oq60_7_4:=rfl
theorem gq60_7_5:Oq60_7[5]? = some oq60_7_5:=rfl
theorem gq60_7_6:Oq60_7[6]? = some oq60_7_6:=rfl
def cq60_23:Code:=Code.region 7 Oq60_7 false
def oq60_8_0:Oper:=⟨some 41,Op.move (Operand.tmp 14),3, "post.go:108",#[],none⟩
def oq60_8_1:Oper:=⟨some 42,Op.binOp Go.BinOp.lss 3 (Operand.tmp 41) (Operand.const (Value.int IntKind.i64 0)) 3,4, "post.go:108",#[ed_ 0],none⟩
def Oq60_8:Array Oper:=List.toArray (oq60_8_0::oq60_8_1::[])
theorem gq60_8_0:Oq60_8[0]? = some oq60_8_0:=rfl
theorem gq60_8_1:Oq60_8[1]? = some oq60_8_1:=rfl
def cq60_26:Code:=Code.region 8 Oq60_8 false
def oq60_9_0:Oper:=⟨some 6,Op.assign (Operand.const (Value.pointer none)),69, "post.go:109",#[],none⟩
def oq60_9_1:Oper:=⟨some 7,Op.assign (Operand.const (Value.int IntKind.i64 0)),3, "post.go:109",#[ec_ 0,ep_ 0],none⟩
def oq60_9_2:Oper:=⟨some 8,Op.assign (Operand.const (Value.int IntKind.i64 141)),39, "post.go:109",#[ec_ 1,ep_ 0,ep_ 1],none⟩
def Oq60_9:Array Oper:=List.toArray (oq60_9_0::oq60_9_1::oq60_9_2::[])
theorem gq60_9_0:Oq60_9[0]? = some oq60_9_0:=rfl
theorem gq60_9_1:Oq60_9[1]? = some oq60_9_1:=rfl
theorem gq60_9_2:Oq60_9[2]? = some oq60_9_2:=rfl
def cq60_29:Code:=Code.region 9 Oq60_9 false
def cq60_28:Code:=Code.seq cq60_29 Code.ret
def cq60_27:Code:=Code.cond (Operand.tmp 42) cq60_28 Code.skip
def cq60_25:Code:=Code.seq cq60_26 cq60_27
def oq60_10_0:Oper:=⟨some 43,Op.move (Operand.tmp 9),69, "post.go:111",#[],none⟩
def oq60_10_1:Oper:=⟨some 44,Op.move (Operand.tmp 14),3, "post.go:111",#[{ on:=2,ground:=Go.Ground.gcOnly Go.Departure.lateStores }],none⟩
def oq60_10_2:Oper:=⟨some 6,Op.assign (Operand.tmp 43),69, "post.go:111",#[ed_ 0,ep_ 0,{ on:=1,ground:=Go.Ground.textOnly Go.Departure.lateStores }],none⟩
def oq60_10_3:Oper:=⟨some 7,Op.assign (Operand.tmp 44),3, "post.go:111",#[ed_ 1,ec_ 2,ep_ 0,ep_ 1,ep_ 2],none⟩
def oq60_10_4:Oper:=⟨some 8,Op.assign (Operand.const (Value.int IntKind.i64 0)),39, "post.go:111",#[ec_ 3,ep_ 0,ep_ 1,ep_ 2,ep_ 3],none⟩
def Oq60_10:Array Oper:=List.toArray (oq60_10_0::oq60_10_1::oq60_10_2::oq60_10_3::oq60_10_4::[])
theorem gq60_10_0:Oq60_10[0]? = some oq60_10_0:=rfl
theorem gq60_10_1:Oq60_10[1]? = some oq60_10_1:=rfl
theorem gq60_10_2:Oq60_10[2]? = some oq60_10_2:=rfl
theorem gq60_10_3:Oq60_10[3]? = some oq60_10_3:=rfl
theorem gq60_10_4:Oq60_10[4]? = some oq60_10_4:=rfl
def cq60_33:Code:=Code.region 10 Oq60_10 false
def cq60_32:Code:=Code.seq cq60_33 Code.ret
def cq60_24:Code:=Code.seq cq60_25 cq60_32
def cq60_22:Code:=Code.seq cq60_23 cq60_24
def cq60_14:Code:=Code.seq cq60_15 cq60_22
def cq60_12:Code:=Code.seq cq60_13 cq60_14
def cq60_4:Code:=Code.seq cq60_5 cq60_12
def cq60_2:Code:=Code.seq cq60_3 cq60_4
def cq60_0:Code:=Code.seq cq60_1 cq60_2
theorem enq60_77:Enters Tryz.prog 47:=enters_of Tryz.func47 (by kernel_rfl) rfl
theorem bodyq60:Tryz.f31.body=some cq60_0:=by kernel_rfl
set_option maxRecDepth 100000 in
set_option maxHeartbeats 4000000 in
theorem find_a {W:World} {B b0 mb n:Nat} {RR:Nat→Prop} {made k:Int} {f:Int→Option Qu} {t:Tm} {a:Option Addr} {c:Nat}  {f0:Act} {w0:World} (R:FrS 45 f0) (h0:f0.tmps[0]? = some (.pointer (some ⟨b0,0,none⟩))) (h1:f0.tmps[1]? = some (.int .i64 k)) (h2:f0.tmps[2]? = some (.agg #[.int .i64 t.k,.string (str t.nm),.int .i64 t.i,.slice a t.args.length c])) (K1:Keep (fun g=>g < W.heap.size) W w0)  (B0:Blk w0 b0 48 #[.int .i64 made,.map (some mb)]) (HP:Hid (PoAt B RR W b0 mb made f n)) (HK:Hid ((ik k).wf=true)) (HT:Hid (TmAt W.heap.size W t a c)) (HF:Hid (f k=none)):cq60_0.wp Tryz.prog (bodyPost Tryz.prog Tryz.f31 (fun e w'=>e=.returned (.tuple #[.pointer none,.int .i64 0,.int .i64 140])∧Keep (fun g=>g < W.heap.size) W w')) f0 w0:=by
 refine wp_seq (x:=cq60_1) (y:=cq60_2) ?_
 change (Code.region 0 Oq60_0 false).wp _ _ _ _
 refine reg_in (l:=[0,1,2,3]) rfl ?_
 have F:FE_ _ [] f0 f0:=⟨R,Ag_.refl _⟩;clear R
 have Y:(execOp f0.eval oq60_0_0).run Tryz.prog w0=.ok (.value (.pointer (some ⟨w0.heap.size,0,none⟩))) (w0.alloc (.cells #[.int .i64 t.k,.string (str t.nm),.int .i64 t.i,.slice a t.args.length c] 28)):=by have r2:=F.of h2;unfold oq60_0_0;go_simp
 have B101:=Blk.new w0 28 #[.int .i64 t.k,.string (str t.nm),.int .i64 t.i,.slice a t.args.length c]
 obtain ⟨w102,hw⟩:∃ x,x=w0.alloc (.cells #[.int .i64 t.k,.string (str t.nm),.int .i64 t.i,.slice a t.args.length c] 28):=⟨_,rfl⟩;rw [← hw] at Y B101
 obtain ⟨b101,hb⟩:∃ x,x=w0.heap.size:=⟨_,rfl⟩;rw [← hb] at Y B101
 have Nb0_b101:=nb_ hb B0;replace B0:=ba_ hw B0;have LK1_b101:=lk_ hb K1;replace K1:=ka_ hw K1;clear hw hb
 refine sv_ gq60_0_0 Y fun a103 e=>?_;clear Y
 have h5:=pt_ F e;replace F:=pu_ F e;clear e
 have Y:(execOp a103.eval oq60_0_1).run Tryz.prog w102=.ok (.value (Value.pointer none)) w102:=by unfold oq60_0_1;go_simp
 refine sv_ gq60_0_1 Y fun a104 e=>?_;clear Y
 have h6:=pt_ F e;replace F:=pu_ F e;replace h5:=so_ e h5;clear e
 have Y:(execOp a104.eval oq60_0_2).run Tryz.prog w102=.ok (.value (.int .i64 0)) w102:=by unfold oq60_0_2;go_simp
 refine sv_ gq60_0_2 Y fun a105 e=>?_;clear Y
 have h7:=pt_ F e;replace F:=pu_ F e;replace h5:=so_ e h5;replace h6:=so_ e h6;clear e
 have Y:(execOp a105.eval oq60_0_3).run Tryz.prog w102=.ok (.value (.int .i64 0)) w102:=by unfold oq60_0_3;go_simp
 refine sv_ gq60_0_3 Y fun a106 e=>?_;clear Y
 have h8:=pt_ F e;replace F:=pu_ F e;replace h5:=so_ e h5;replace h6:=so_ e h6;replace h7:=so_ e h7;clear e
 refine st_end ?_
 replace h0:=F.of h0;replace h1:=F.of h1;clear h2;have R:=F.r;clear F
 change (cq60_2).wp _ _ _ _
 refine wp_seq (x:=cq60_3) (y:=cq60_4) ?_
 change (Code.region 1 Oq60_1 false).wp _ _ _ _
 refine reg_in (l:=[0,1,2,3,4,5,6,7,8,9,10]) rfl ?_
 have F:FE_ _ [] a106 a106:=⟨R,Ag_.refl _⟩;clear R
 refine sv_ gq60_1_0 (ym_ rfl (F.of h0)) fun a107 e=>?_
 have h16:=pt_ F e;replace F:=pu_ F e;clear e
 have Y:(execOp a107.eval oq60_1_1).run Tryz.prog w102=.ok (.value (.pointer (some ⟨b0,0,none⟩))) w102:=by unfold oq60_1_1;go_simp
 refine sv_ gq60_1_1 Y fun a108 e=>?_;clear Y
 clear h16;have h17:=pt_ F e;replace F:=pu_ F e;clear e
 have Y:(execOp a108.eval oq60_1_2).run Tryz.prog w102=.ok (.value (.pointer (some ⟨b0,1,none⟩))) w102:=by unfold oq60_1_2;go_simp
 refine sv_ gq60_1_2 Y fun a109 e=>?_;clear Y
 clear h17;have h18:=pt_ F e;replace F:=pu_ F e;clear e
 have Y:(execOp a109.eval oq60_1_3).run Tryz.prog w102=.ok (.value (.map (some mb))) w102:=by have qq0:w102.cell? ⟨b0,0,none⟩=some (.int .i64 made):=B0.cell 0;have qq1:w102.cell? ⟨b0,1,none⟩=some (.map (some mb)):=B0.cell 1;unfold oq60_1_3;go_simp
 refine sv_ gq60_1_3 Y fun a110 e=>?_;clear Y
 clear h18;have h19:=pt_ F e;replace F:=pu_ F e;clear e
 refine sv_ gq60_1_4 (ym_ rfl (F.of h1)) fun a111 e=>?_
 have h20:=pt_ F e;replace F:=pu_ F e;replace h19:=so_ e h19;clear e
 have Y:(execOp a111.eval oq60_1_5).run Tryz.prog w102=.ok (.value (.tuple #[.pointer none,.bool false])) w102:=by have hl:=PoAt.look0 (HP.out.on K1) HF.out HK.out;unfold oq60_1_5;go_simp
 refine sv_ gq60_1_5 Y fun a112 e=>?_;clear Y
 clear h19 h20;have h21:=pt_ F e;replace F:=pu_ F e;clear e
 refine sv_ gq60_1_6 (ym_ rfl h21) fun a113 e=>?_
 clear h21;have h15:=pt_ F e;replace F:=pu_ F e;clear e
 refine sv_ gq60_1_7 (ye20_ rfl h15) fun a114 e=>?_
 have h22:=pt_ F e;replace F:=pu_ F e;replace h15:=so_ e h15;clear e
 refine sv_ gq60_1_8 (ye21_ rfl h15) fun a115 e=>?_
 clear h15;have h23:=pt_ F e;replace F:=pu_ F e;replace h22:=so_ e h22;clear e
 refine sv_ gq60_1_9 (ya_ rfl h22) fun a116 e=>?_
 clear h22;have h9:=pt_ F e;replace F:=pu_ F e;replace h23:=so_ e h23;clear e
 refine sv_ gq60_1_10 (ya_ rfl h23) fun a117 e=>?_
 clear h23;have h10:=pt_ F e;replace F:=pu_ F e;replace h9:=so_ e h9;clear e
 refine st_end ?_
 clear h0;clear h1;replace h5:=F.of h5;replace h6:=F.of h6;replace h7:=F.of h7;replace h8:=F.of h8;have R:=F.r;clear F
 change (cq60_4).wp _ _ _ _
 refine wp_seq (x:=cq60_5) (y:=cq60_12) ?_
 refine wp_seq (x:=cq60_6) (y:=cq60_7) ?_
 change (Code.region 2 Oq60_2 false).wp _ _ _ _
 refine reg_in (l:=[0,1]) rfl ?_
 have F:FE_ _ [] a117 a117:=⟨R,Ag_.refl _⟩;clear R
 refine sv_ gq60_2_0 (ym_ rfl (F.of h10)) fun a118 e=>?_
 have h24:=pt_ F e;replace F:=pu_ F e;clear e
 have Y:(execOp a118.eval oq60_2_1).run Tryz.prog w102=.ok (.value (.bool true)) w102:=by unfold oq60_2_1;go_simp
 refine sv_ gq60_2_1 Y fun a119 e=>?_;clear Y
 clear h24;have h25:=pt_ F e;replace F:=pu_ F e;clear e
 refine st_end ?_
 replace h5:=F.of h5;replace h6:=F.of h6;replace h7:=F.of h7;replace h8:=F.of h8;replace h9:=F.of h9;clear h10;have R:=F.r;clear F
 change (cq60_7).wp _ _ _ _
 refine wp_cond_true (x:=cq60_8) (y:=Code.skip) (eval_slot h25) ?_
 refine wp_seq (x:=cq60_9) (y:=Code.ret) ?_
 change (Code.region 3 Oq60_3 false).wp _ _ _ _
 refine reg_in (l:=[0,1,2]) rfl ?_
 have F:FE_ _ [] a119 a119:=⟨R,Ag_.refl _⟩;clear R
 have Y:(execOp a119.eval oq60_3_0).run Tryz.prog w102=.ok (.value (Value.pointer none)) w102:=by unfold oq60_3_0;go_simp
 refine sv_ gq60_3_0 Y fun a120 e=>?_;clear Y
 clear h6;have h6:=pt_ F e;replace F:=pu_ F e;clear e
 have Y:(execOp a120.eval oq60_3_1).run Tryz.prog w102=.ok (.value (.int .i64 0)) w102:=by unfold oq60_3_1;go_simp
 refine sv_ gq60_3_1 Y fun a121 e=>?_;clear Y
 clear h7;have h7:=pt_ F e;replace F:=pu_ F e;replace h6:=so_ e h6;clear e
 have Y:(execOp a121.eval oq60_3_2).run Tryz.prog w102=.ok (.value (.int .i64 140)) w102:=by unfold oq60_3_2;go_simp
 refine sv_ gq60_3_2 Y fun a122 e=>?_;clear Y
 clear h8;have h8:=pt_ F e;replace F:=pu_ F e;replace h6:=so_ e h6;replace h7:=so_ e h7;clear e
 refine st_end ?_
 replace h5:=F.of h5;replace h9:=F.of h9;clear h25;have R:=F.r;clear F
 change (Code.ret).wp _ _ _ _
 refine wp_ret ?_
 change bodyPost Tryz.prog Tryz.f31 (fun e w'=>e=.returned (.tuple #[.pointer none,.int .i64 0,.int .i64 140])∧Keep (fun g=>g < W.heap.size) W w') .ret a122 w102
 refine ret_el3 rfl R.defers h6 h7 h8 ?_
 exact ⟨rfl,K1⟩
set_option maxRecDepth 100000 in
set_option maxHeartbeats 4000000 in
theorem find_b {W:World} {B b0 mb n:Nat} {RR:Nat→Prop} {made k:Int} {f:Int→Option Qu} {b1 vc:Nat} {m:Int} {va:Option Addr} {ps:List TP} {t:Tm} {a:Option Addr} {c:Nat}  {f0:Act} {w0:World} (R:FrS 45 f0) (h0:f0.tmps[0]? = some (.pointer (some ⟨b0,0,none⟩))) (h1:f0.tmps[1]? = some (.int .i64 k)) (h2:f0.tmps[2]? = some (.agg #[.int .i64 t.k,.string (str t.nm),.int .i64 t.i,.slice a t.args.length c])) (K1:Keep (fun g=>g < W.heap.size) W w0)  (B0:Blk w0 b0 48 #[.int .i64 made,.map (some mb)]) (HP:Hid (PoAt B RR W b0 mb made f n)) (HK:Hid ((ik k).wf=true)) (B1:Blk w0 b1 72 #[.int .i64 m,.slice va ps.length vc]) (HF:Hid (f k=some ⟨b1,m,.slice va ps.length vc,ps⟩)) (HT:Hid (TmAt W.heap.size W t a c)) (HR:Hid (t.right=false)):cq60_0.wp Tryz.prog (bodyPost Tryz.prog Tryz.f31 (fun e w'=>e=.returned (.tuple #[.pointer none,.int .i64 0,.int .i64 70])∧Keep (fun g=>g < W.heap.size) W w')) f0 w0:=by
 refine wp_seq (x:=cq60_1) (y:=cq60_2) ?_
 change (Code.region 0 Oq60_0 false).wp _ _ _ _
 refine reg_in (l:=[0,1,2,3]) rfl ?_
 have F:FE_ _ [] f0 f0:=⟨R,Ag_.refl _⟩;clear R
 have Y:(execOp f0.eval oq60_0_0).run Tryz.prog w0=.ok (.value (.pointer (some ⟨w0.heap.size,0,none⟩))) (w0.alloc (.cells #[.int .i64 t.k,.string (str t.nm),.int .i64 t.i,.slice a t.args.length c] 28)):=by have r2:=F.of h2;unfold oq60_0_0;go_simp
 have B101:=Blk.new w0 28 #[.int .i64 t.k,.string (str t.nm),.int .i64 t.i,.slice a t.args.length c]
 obtain ⟨w102,hw⟩:∃ x,x=w0.alloc (.cells #[.int .i64 t.k,.string (str t.nm),.int .i64 t.i,.slice a t.args.length c] 28):=⟨_,rfl⟩;rw [← hw] at Y B101
 obtain ⟨b101,hb⟩:∃ x,x=w0.heap.size:=⟨_,rfl⟩;rw [← hb] at Y B101
 have Nb0_b101:=nb_ hb B0;replace B0:=ba_ hw B0;have Nb1_b101:=nb_ hb B1;replace B1:=ba_ hw B1;have LK1_b101:=lk_ hb K1;replace K1:=ka_ hw K1;clear hw hb
 refine sv_ gq60_0_0 Y fun a103 e=>?_;clear Y
 have h5:=pt_ F e;replace F:=pu_ F e;clear e
 have Y:(execOp a103.eval oq60_0_1).run Tryz.prog w102=.ok (.value (Value.pointer none)) w102:=by unfold oq60_0_1;go_simp
 refine sv_ gq60_0_1 Y fun a104 e=>?_;clear Y
 have h6:=pt_ F e;replace F:=pu_ F e;replace h5:=so_ e h5;clear e
 have Y:(execOp a104.eval oq60_0_2).run Tryz.prog w102=.ok (.value (.int .i64 0)) w102:=by unfold oq60_0_2;go_simp
 refine sv_ gq60_0_2 Y fun a105 e=>?_;clear Y
 have h7:=pt_ F e;replace F:=pu_ F e;replace h5:=so_ e h5;replace h6:=so_ e h6;clear e
 have Y:(execOp a105.eval oq60_0_3).run Tryz.prog w102=.ok (.value (.int .i64 0)) w102:=by unfold oq60_0_3;go_simp
 refine sv_ gq60_0_3 Y fun a106 e=>?_;clear Y
 have h8:=pt_ F e;replace F:=pu_ F e;replace h5:=so_ e h5;replace h6:=so_ e h6;replace h7:=so_ e h7;clear e
 refine st_end ?_
 replace h0:=F.of h0;replace h1:=F.of h1;clear h2;have R:=F.r;clear F
 change (cq60_2).wp _ _ _ _
 refine wp_seq (x:=cq60_3) (y:=cq60_4) ?_
 change (Code.region 1 Oq60_1 false).wp _ _ _ _
 refine reg_in (l:=[0,1,2,3,4,5,6,7,8,9,10]) rfl ?_
 have F:FE_ _ [] a106 a106:=⟨R,Ag_.refl _⟩;clear R
 refine sv_ gq60_1_0 (ym_ rfl (F.of h0)) fun a107 e=>?_
 have h16:=pt_ F e;replace F:=pu_ F e;clear e
 have Y:(execOp a107.eval oq60_1_1).run Tryz.prog w102=.ok (.value (.pointer (some ⟨b0,0,none⟩))) w102:=by unfold oq60_1_1;go_simp
 refine sv_ gq60_1_1 Y fun a108 e=>?_;clear Y
 clear h16;have h17:=pt_ F e;replace F:=pu_ F e;clear e
 have Y:(execOp a108.eval oq60_1_2).run Tryz.prog w102=.ok (.value (.pointer (some ⟨b0,1,none⟩))) w102:=by unfold oq60_1_2;go_simp
 refine sv_ gq60_1_2 Y fun a109 e=>?_;clear Y
 clear h17;have h18:=pt_ F e;replace F:=pu_ F e;clear e
 have Y:(execOp a109.eval oq60_1_3).run Tryz.prog w102=.ok (.value (.map (some mb))) w102:=by have qq0:w102.cell? ⟨b0,0,none⟩=some (.int .i64 made):=B0.cell 0;have qq1:w102.cell? ⟨b0,1,none⟩=some (.map (some mb)):=B0.cell 1;unfold oq60_1_3;go_simp
 refine sv_ gq60_1_3 Y fun a110 e=>?_;clear Y
 clear h18;have h19:=pt_ F e;replace F:=pu_ F e;clear e
 refine sv_ gq60_1_4 (ym_ rfl (F.of h1)) fun a111 e=>?_
 have h20:=pt_ F e;replace F:=pu_ F e;replace h19:=so_ e h19;clear e
 have Y:(execOp a111.eval oq60_1_5).run Tryz.prog w102=.ok (.value (.tuple #[.pointer (some ⟨b1,0,none⟩),.bool true])) w102:=by have hl:=PoAt.look1 (HP.out.on K1) HF.out HK.out;unfold oq60_1_5;go_simp
 refine sv_ gq60_1_5 Y fun a112 e=>?_;clear Y
 clear h19 h20;have h21:=pt_ F e;replace F:=pu_ F e;clear e
 refine sv_ gq60_1_6 (ym_ rfl h21) fun a113 e=>?_
 clear h21;have h15:=pt_ F e;replace F:=pu_ F e;clear e
 refine sv_ gq60_1_7 (ye20_ rfl h15) fun a114 e=>?_
 have h22:=pt_ F e;replace F:=pu_ F e;replace h15:=so_ e h15;clear e
 refine sv_ gq60_1_8 (ye21_ rfl h15) fun a115 e=>?_
 clear h15;have h23:=pt_ F e;replace F:=pu_ F e;replace h22:=so_ e h22;clear e
 refine sv_ gq60_1_9 (ya_ rfl h22) fun a116 e=>?_
 clear h22;have h9:=pt_ F e;replace F:=pu_ F e;replace h23:=so_ e h23;clear e
 refine sv_ gq60_1_10 (ya_ rfl h23) fun a117 e=>?_
 clear h23;have h10:=pt_ F e;replace F:=pu_ F e;replace h9:=so_ e h9;clear e
 refine st_end ?_
 clear h0;clear h1;replace h5:=F.of h5;replace h6:=F.of h6;replace h7:=F.of h7;replace h8:=F.of h8;have R:=F.r;clear F
 change (cq60_4).wp _ _ _ _
 refine wp_seq (x:=cq60_5) (y:=cq60_12) ?_
 refine wp_seq (x:=cq60_6) (y:=cq60_7) ?_
 change (Code.region 2 Oq60_2 false).wp _ _ _ _
 refine reg_in (l:=[0,1]) rfl ?_
 have F:FE_ _ [] a117 a117:=⟨R,Ag_.refl _⟩;clear R
 refine sv_ gq60_2_0 (ym_ rfl (F.of h10)) fun a118 e=>?_
 have h24:=pt_ F e;replace F:=pu_ F e;clear e
 have Y:(execOp a118.eval oq60_2_1).run Tryz.prog w102=.ok (.value (.bool false)) w102:=by unfold oq60_2_1;go_simp
 refine sv_ gq60_2_1 Y fun a119 e=>?_;clear Y
 clear h24;have h25:=pt_ F e;replace F:=pu_ F e;clear e
 refine st_end ?_
 replace h5:=F.of h5;replace h6:=F.of h6;replace h7:=F.of h7;replace h8:=F.of h8;replace h9:=F.of h9;clear h10;have R:=F.r;clear F
 change (cq60_7).wp _ _ _ _
 refine wp_cond_false (x:=cq60_8) (y:=Code.skip) (eval_slot h25) ?_
 refine wp_skip ?_
 change (cq60_12).wp _ _ _ _
 refine wp_seq (x:=cq60_13) (y:=cq60_14) ?_
 change (Code.region 4 Oq60_4 false).wp _ _ _ _
 refine reg_in (l:=[0,1,2,3,4,5,6,7,8,9]) rfl ?_
 have F:FE_ _ [] a119 a119:=⟨R,Ag_.refl _⟩;clear R
 refine sv_ gq60_4_0 (yl4_ rfl (F.of h5) B101) fun a120 e=>?_
 have h27:=pt_ F e;replace F:=pu_ F e;clear e
 have Y:(execOp a120.eval oq60_4_1).run Tryz.prog w102=.ok (.enter 30 #[.agg #[.int .i64 t.k,.string (str t.nm),.int .i64 t.i,.slice a t.args.length c],.int .i64 2001]) w102:=by unfold oq60_4_1;go_simp
 obtain ⟨z,hz⟩:∃ q,q=Tm.node 0 [] 0 []:=⟨_,rfl⟩
 have hcall:=rename_sx (m:=2001) (HT.out.on K1) (ik_wf (by decide) (by decide)) (by rw [rnV_bad HR.out,← hz])
 clear hz
 refine st_call gq60_4_1 rfl (wanted_free rfl) Y ((hcall).mono ?_);clear Y
 rintro e9 w121 ⟨az,cz,rfl,-,kk⟩
 replace K1:=keep_onto K1 kk
 replace B0:=blk_on B0 kk
 replace B1:=blk_on B1 kk
 replace B101:=blk_on B101 kk
 clear hcall
 clear kk
 refine ⟨_,rfl,fun a122 e=>?_⟩
 clear h27;have h28:=pt_ F e;replace F:=pu_ F e;clear e
 refine sv_ gq60_4_2 (ym_ rfl h28) fun a123 e=>?_
 clear h28;have h26:=pt_ F e;replace F:=pu_ F e;clear e
 refine sv_ gq60_4_3 (ye30_ rfl h26) fun a124 e=>?_
 have h29:=pt_ F e;replace F:=pu_ F e;replace h26:=so_ e h26;clear e
 refine sv_ gq60_4_4 (ye31_ rfl h26) fun a125 e=>?_
 have h30:=pt_ F e;replace F:=pu_ F e;replace h26:=so_ e h26;replace h29:=so_ e h29;clear e
 refine sv_ gq60_4_5 (ye32_ rfl h26) fun a126 e=>?_
 clear h26;have h31:=pt_ F e;replace F:=pu_ F e;replace h29:=so_ e h29;replace h30:=so_ e h30;clear e
 have Y:(execOp a126.eval oq60_4_6).run Tryz.prog w121=.ok (.value (.pointer (some ⟨w121.heap.size,0,none⟩))) (w121.alloc (.cells #[.int .i64 0,.string (⟨#[]⟩),.int .i64 0,.slice none 0 0] 28)):=by unfold oq60_4_6;go_simp
 have B127:=Blk.new w121 28 #[.int .i64 0,.string (⟨#[]⟩),.int .i64 0,.slice none 0 0]
 obtain ⟨w128,hw⟩:∃ x,x=w121.alloc (.cells #[.int .i64 0,.string (⟨#[]⟩),.int .i64 0,.slice none 0 0] 28):=⟨_,rfl⟩;rw [← hw] at Y B127
 obtain ⟨b127,hb⟩:∃ x,x=w121.heap.size:=⟨_,rfl⟩;rw [← hb] at Y B127
 have Nb0_b127:=nb_ hb B0;replace B0:=ba_ hw B0;have Nb1_b127:=nb_ hb B1;replace B1:=ba_ hw B1;have Nb101_b127:=nb_ hb B101;replace B101:=ba_ hw B101;have LK1_b127:=lk_ hb K1;replace K1:=ka_ hw K1;clear hw hb
 refine sv_ gq60_4_6 Y fun a129 e=>?_;clear Y
 have h11:=pt_ F e;replace F:=pu_ F e;replace h29:=so_ e h29;replace h30:=so_ e h30;replace h31:=so_ e h31;clear e
 obtain ⟨w130,Y,hk,hB⟩:=ys4_ (o:=oq60_4_7) rfl h11 h29 B127
 replace K1:=kx_ hk K1 (Nat.not_lt.2 LK1_b127);replace B0:=bx_ hk B0 Nb0_b127;replace B1:=bx_ hk B1 Nb1_b127;replace B101:=bx_ hk B101 Nb101_b127;clear B127;have B127:=hB;clear hB hk
 refine st_skip gq60_4_7 rfl (wanted_free rfl) Y ?_;clear Y
 refine sv_ gq60_4_8 (ya_ rfl h30) fun a131 e=>?_
 clear h29 h30;replace F:=pu_ F e;replace h11:=so_ e h11;replace h31:=so_ e h31;clear e
 refine sv_ gq60_4_9 (ya_ rfl h31) fun a132 e=>?_
 clear h31;have h13:=pt_ F e;replace F:=pu_ F e;replace h11:=so_ e h11;clear e
 refine st_end ?_
 clear h5;replace h6:=F.of h6;replace h7:=F.of h7;replace h8:=F.of h8;replace h9:=F.of h9;clear h25;have R:=F.r;clear F
 change (cq60_14).wp _ _ _ _
 refine wp_seq (x:=cq60_15) (y:=cq60_22) ?_
 refine wp_seq (x:=cq60_16) (y:=cq60_17) ?_
 change (Code.region 5 Oq60_5 false).wp _ _ _ _
 refine reg_in (l:=[0,1]) rfl ?_
 have F:FE_ _ [] a132 a132:=⟨R,Ag_.refl _⟩;clear R
 refine sv_ gq60_5_0 (ym_ rfl (F.of h13)) fun a133 e=>?_
 have h32:=pt_ F e;replace F:=pu_ F e;clear e
 have Y:(execOp a133.eval oq60_5_1).run Tryz.prog w130=.ok (.value (.bool true)) w130:=by unfold oq60_5_1;go_simp
 refine sv_ gq60_5_1 Y fun a134 e=>?_;clear Y
 clear h32;have h33:=pt_ F e;replace F:=pu_ F e;clear e
 refine st_end ?_
 replace h6:=F.of h6;replace h7:=F.of h7;replace h8:=F.of h8;replace h9:=F.of h9;replace h11:=F.of h11;replace h13:=F.of h13;have R:=F.r;clear F
 change (cq60_17).wp _ _ _ _
 refine wp_cond_true (x:=cq60_18) (y:=Code.skip) (eval_slot h33) ?_
 refine wp_seq (x:=cq60_19) (y:=Code.ret) ?_
 change (Code.region 6 Oq60_6 false).wp _ _ _ _
 refine reg_in (l:=[0,1,2,3]) rfl ?_
 have F:FE_ _ [] a134 a134:=⟨R,Ag_.refl _⟩;clear R
 refine sv_ gq60_6_0 (ym_ rfl (F.of h13)) fun a135 e=>?_
 have h34:=pt_ F e;replace F:=pu_ F e;clear e
 have Y:(execOp a135.eval oq60_6_1).run Tryz.prog w130=.ok (.value (Value.pointer none)) w130:=by unfold oq60_6_1;go_simp
 refine sv_ gq60_6_1 Y fun a136 e=>?_;clear Y
 clear h6;have h6:=pt_ F e;replace F:=pu_ F e;replace h34:=so_ e h34;clear e
 have Y:(execOp a136.eval oq60_6_2).run Tryz.prog w130=.ok (.value (.int .i64 0)) w130:=by unfold oq60_6_2;go_simp
 refine sv_ gq60_6_2 Y fun a137 e=>?_;clear Y
 clear h7;have h7:=pt_ F e;replace F:=pu_ F e;replace h6:=so_ e h6;replace h34:=so_ e h34;clear e
 refine sv_ gq60_6_3 (ya_ rfl h34) fun a138 e=>?_
 clear h34 h8;have h8:=pt_ F e;replace F:=pu_ F e;replace h6:=so_ e h6;replace h7:=so_ e h7;clear e
 refine st_end ?_
 replace h9:=F.of h9;replace h11:=F.of h11;clear h13;clear h33;have R:=F.r;clear F
 change (Code.ret).wp _ _ _ _
 refine wp_ret ?_
 change bodyPost Tryz.prog Tryz.f31 (fun e w'=>e=.returned (.tuple #[.pointer none,.int .i64 0,.int .i64 70])∧Keep (fun g=>g < W.heap.size) W w') .ret a138 w130
 refine ret_el3 rfl R.defers h6 h7 h8 ?_
 exact ⟨rfl,K1⟩
set_option maxRecDepth 100000 in
set_option maxHeartbeats 4000000 in
theorem find_c {W:World} {B b0 mb n:Nat} {RR:Nat→Prop} {made k:Int} {f:Int→Option Qu} {b1 vc:Nat} {m:Int} {va:Option Addr} {ps:List TP} {t:Tm} {a:Option Addr} {c:Nat}  {f0:Act} {w0:World} (R:FrS 45 f0) (h0:f0.tmps[0]? = some (.pointer (some ⟨b0,0,none⟩))) (h1:f0.tmps[1]? = some (.int .i64 k)) (h2:f0.tmps[2]? = some (.agg #[.int .i64 t.k,.string (str t.nm),.int .i64 t.i,.slice a t.args.length c])) (K1:Keep (fun g=>g < W.heap.size) W w0)  (B0:Blk w0 b0 48 #[.int .i64 made,.map (some mb)]) (HP:Hid (PoAt B RR W b0 mb made f n)) (HK:Hid ((ik k).wf=true)) (B1:Blk w0 b1 72 #[.int .i64 m,.slice va ps.length vc]) (HF:Hid (f k=some ⟨b1,m,.slice va ps.length vc,ps⟩)) (HT:Hid (TmAt W.heap.size W t a c)) (HR:Hid (t.right=true)):cq60_0.wp Tryz.prog (bodyPost Tryz.prog Tryz.f31 (fun e w'=>(∃ y:Int,First (t.tree.ren 2001).tm ps y∧((y < 0∧e=.returned (.tuple #[.pointer none,.int .i64 0,.int .i64 141]))∨(0 ≤ y∧e=.returned (.tuple #[.pointer (some ⟨b1,0,none⟩),.int .i64 y,.int .i64 0]))))∧Keep (fun g=>g < W.heap.size) W w')) f0 w0:=by
 refine wp_seq (x:=cq60_1) (y:=cq60_2) ?_
 change (Code.region 0 Oq60_0 false).wp _ _ _ _
 refine reg_in (l:=[0,1,2,3]) rfl ?_
 have F:FE_ _ [] f0 f0:=⟨R,Ag_.refl _⟩;clear R
 have Y:(execOp f0.eval oq60_0_0).run Tryz.prog w0=.ok (.value (.pointer (some ⟨w0.heap.size,0,none⟩))) (w0.alloc (.cells #[.int .i64 t.k,.string (str t.nm),.int .i64 t.i,.slice a t.args.length c] 28)):=by have r2:=F.of h2;unfold oq60_0_0;go_simp
 have B101:=Blk.new w0 28 #[.int .i64 t.k,.string (str t.nm),.int .i64 t.i,.slice a t.args.length c]
 obtain ⟨w102,hw⟩:∃ x,x=w0.alloc (.cells #[.int .i64 t.k,.string (str t.nm),.int .i64 t.i,.slice a t.args.length c] 28):=⟨_,rfl⟩;rw [← hw] at Y B101
 obtain ⟨b101,hb⟩:∃ x,x=w0.heap.size:=⟨_,rfl⟩;rw [← hb] at Y B101
 have Nb0_b101:=nb_ hb B0;replace B0:=ba_ hw B0;have Nb1_b101:=nb_ hb B1;replace B1:=ba_ hw B1;have LK1_b101:=lk_ hb K1;replace K1:=ka_ hw K1;clear hw hb
 refine sv_ gq60_0_0 Y fun a103 e=>?_;clear Y
 have h5:=pt_ F e;replace F:=pu_ F e;clear e
 have Y:(execOp a103.eval oq60_0_1).run Tryz.prog w102=.ok (.value (Value.pointer none)) w102:=by unfold oq60_0_1;go_simp
 refine sv_ gq60_0_1 Y fun a104 e=>?_;clear Y
 have h6:=pt_ F e;replace F:=pu_ F e;replace h5:=so_ e h5;clear e
 have Y:(execOp a104.eval oq60_0_2).run Tryz.prog w102=.ok (.value (.int .i64 0)) w102:=by unfold oq60_0_2;go_simp
 refine sv_ gq60_0_2 Y fun a105 e=>?_;clear Y
 have h7:=pt_ F e;replace F:=pu_ F e;replace h5:=so_ e h5;replace h6:=so_ e h6;clear e
 have Y:(execOp a105.eval oq60_0_3).run Tryz.prog w102=.ok (.value (.int .i64 0)) w102:=by unfold oq60_0_3;go_simp
 refine sv_ gq60_0_3 Y fun a106 e=>?_;clear Y
 have h8:=pt_ F e;replace F:=pu_ F e;replace h5:=so_ e h5;replace h6:=so_ e h6;replace h7:=so_ e h7;clear e
 refine st_end ?_
 replace h0:=F.of h0;replace h1:=F.of h1;clear h2;have R:=F.r;clear F
 change (cq60_2).wp _ _ _ _
 refine wp_seq (x:=cq60_3) (y:=cq60_4) ?_
 change (Code.region 1 Oq60_1 false).wp _ _ _ _
 refine reg_in (l:=[0,1,2,3,4,5,6,7,8,9,10]) rfl ?_
 have F:FE_ _ [] a106 a106:=⟨R,Ag_.refl _⟩;clear R
 refine sv_ gq60_1_0 (ym_ rfl (F.of h0)) fun a107 e=>?_
 have h16:=pt_ F e;replace F:=pu_ F e;clear e
 have Y:(execOp a107.eval oq60_1_1).run Tryz.prog w102=.ok (.value (.pointer (some ⟨b0,0,none⟩))) w102:=by unfold oq60_1_1;go_simp
 refine sv_ gq60_1_1 Y fun a108 e=>?_;clear Y
 clear h16;have h17:=pt_ F e;replace F:=pu_ F e;clear e
 have Y:(execOp a108.eval oq60_1_2).run Tryz.prog w102=.ok (.value (.pointer (some ⟨b0,1,none⟩))) w102:=by unfold oq60_1_2;go_simp
 refine sv_ gq60_1_2 Y fun a109 e=>?_;clear Y
 clear h17;have h18:=pt_ F e;replace F:=pu_ F e;clear e
 have Y:(execOp a109.eval oq60_1_3).run Tryz.prog w102=.ok (.value (.map (some mb))) w102:=by have qq0:w102.cell? ⟨b0,0,none⟩=some (.int .i64 made):=B0.cell 0;have qq1:w102.cell? ⟨b0,1,none⟩=some (.map (some mb)):=B0.cell 1;unfold oq60_1_3;go_simp
 refine sv_ gq60_1_3 Y fun a110 e=>?_;clear Y
 clear h18;have h19:=pt_ F e;replace F:=pu_ F e;clear e
 refine sv_ gq60_1_4 (ym_ rfl (F.of h1)) fun a111 e=>?_
 have h20:=pt_ F e;replace F:=pu_ F e;replace h19:=so_ e h19;clear e
 have Y:(execOp a111.eval oq60_1_5).run Tryz.prog w102=.ok (.value (.tuple #[.pointer (some ⟨b1,0,none⟩),.bool true])) w102:=by have hl:=PoAt.look1 (HP.out.on K1) HF.out HK.out;unfold oq60_1_5;go_simp
 refine sv_ gq60_1_5 Y fun a112 e=>?_;clear Y
 clear h19 h20;have h21:=pt_ F e;replace F:=pu_ F e;clear e
 refine sv_ gq60_1_6 (ym_ rfl h21) fun a113 e=>?_
 clear h21;have h15:=pt_ F e;replace F:=pu_ F e;clear e
 refine sv_ gq60_1_7 (ye20_ rfl h15) fun a114 e=>?_
 have h22:=pt_ F e;replace F:=pu_ F e;replace h15:=so_ e h15;clear e
 refine sv_ gq60_1_8 (ye21_ rfl h15) fun a115 e=>?_
 clear h15;have h23:=pt_ F e;replace F:=pu_ F e;replace h22:=so_ e h22;clear e
 refine sv_ gq60_1_9 (ya_ rfl h22) fun a116 e=>?_
 clear h22;have h9:=pt_ F e;replace F:=pu_ F e;replace h23:=so_ e h23;clear e
 refine sv_ gq60_1_10 (ya_ rfl h23) fun a117 e=>?_
 clear h23;have h10:=pt_ F e;replace F:=pu_ F e;replace h9:=so_ e h9;clear e
 refine st_end ?_
 clear h0;clear h1;replace h5:=F.of h5;replace h6:=F.of h6;replace h7:=F.of h7;replace h8:=F.of h8;have R:=F.r;clear F
 change (cq60_4).wp _ _ _ _
 refine wp_seq (x:=cq60_5) (y:=cq60_12) ?_
 refine wp_seq (x:=cq60_6) (y:=cq60_7) ?_
 change (Code.region 2 Oq60_2 false).wp _ _ _ _
 refine reg_in (l:=[0,1]) rfl ?_
 have F:FE_ _ [] a117 a117:=⟨R,Ag_.refl _⟩;clear R
 refine sv_ gq60_2_0 (ym_ rfl (F.of h10)) fun a118 e=>?_
 have h24:=pt_ F e;replace F:=pu_ F e;clear e
 have Y:(execOp a118.eval oq60_2_1).run Tryz.prog w102=.ok (.value (.bool false)) w102:=by unfold oq60_2_1;go_simp
 refine sv_ gq60_2_1 Y fun a119 e=>?_;clear Y
 clear h24;have h25:=pt_ F e;replace F:=pu_ F e;clear e
 refine st_end ?_
 replace h5:=F.of h5;replace h6:=F.of h6;replace h7:=F.of h7;replace h8:=F.of h8;replace h9:=F.of h9;clear h10;have R:=F.r;clear F
 change (cq60_7).wp _ _ _ _
 refine wp_cond_false (x:=cq60_8) (y:=Code.skip) (eval_slot h25) ?_
 refine wp_skip ?_
 change (cq60_12).wp _ _ _ _
 refine wp_seq (x:=cq60_13) (y:=cq60_14) ?_
 change (Code.region 4 Oq60_4 false).wp _ _ _ _
 refine reg_in (l:=[0,1,2,3,4,5,6,7,8,9]) rfl ?_
 have F:FE_ _ [] a119 a119:=⟨R,Ag_.refl _⟩;clear R
 refine sv_ gq60_4_0 (yl4_ rfl (F.of h5) B101) fun a120 e=>?_
 have h27:=pt_ F e;replace F:=pu_ F e;clear e
 have Y:(execOp a120.eval oq60_4_1).run Tryz.prog w102=.ok (.enter 30 #[.agg #[.int .i64 t.k,.string (str t.nm),.int .i64 t.i,.slice a t.args.length c],.int .i64 2001]) w102:=by unfold oq60_4_1;go_simp
 obtain ⟨u,hu⟩:∃ q,(t.tree.ren 2001).tm=q:=⟨_,rfl⟩
 have hcall:=rename_sx (m:=2001) (HT.out.on K1) (ik_wf (by decide) (by decide)) (rnV_eq HR.out (by decide) (by decide))
 rw [hu] at hcall;have HUE:=Lib.hid hu;clear hu
 refine st_call gq60_4_1 rfl (wanted_free rfl) Y ((hcall).mono ?_);clear Y
 rintro e9 w121 ⟨au,cu,rfl,htu,kk⟩
 replace K1:=keep_onto K1 kk
 replace B0:=blk_on B0 kk
 replace B1:=blk_on B1 kk
 replace B101:=blk_on B101 kk
 clear hcall
 have HTU:=Lib.hid htu;clear htu
 clear kk
 have KU:=Keep.refl (fun g=>g < w121.heap.size) w121
 refine ⟨_,rfl,fun a122 e=>?_⟩
 clear h27;have h28:=pt_ F e;replace F:=pu_ F e;clear e
 refine sv_ gq60_4_2 (ym_ rfl h28) fun a123 e=>?_
 clear h28;have h26:=pt_ F e;replace F:=pu_ F e;clear e
 refine sv_ gq60_4_3 (ye30_ rfl h26) fun a124 e=>?_
 have h29:=pt_ F e;replace F:=pu_ F e;replace h26:=so_ e h26;clear e
 refine sv_ gq60_4_4 (ye31_ rfl h26) fun a125 e=>?_
 have h30:=pt_ F e;replace F:=pu_ F e;replace h26:=so_ e h26;replace h29:=so_ e h29;clear e
 refine sv_ gq60_4_5 (ye32_ rfl h26) fun a126 e=>?_
 clear h26;have h31:=pt_ F e;replace F:=pu_ F e;replace h29:=so_ e h29;replace h30:=so_ e h30;clear e
 have Y:(execOp a126.eval oq60_4_6).run Tryz.prog w121=.ok (.value (.pointer (some ⟨w121.heap.size,0,none⟩))) (w121.alloc (.cells #[.int .i64 0,.string (⟨#[]⟩),.int .i64 0,.slice none 0 0] 28)):=by unfold oq60_4_6;go_simp
 have B127:=Blk.new w121 28 #[.int .i64 0,.string (⟨#[]⟩),.int .i64 0,.slice none 0 0]
 obtain ⟨w128,hw⟩:∃ x,x=w121.alloc (.cells #[.int .i64 0,.string (⟨#[]⟩),.int .i64 0,.slice none 0 0] 28):=⟨_,rfl⟩;rw [← hw] at Y B127
 obtain ⟨b127,hb⟩:∃ x,x=w121.heap.size:=⟨_,rfl⟩;rw [← hb] at Y B127
 have Nb0_b127:=nb_ hb B0;replace B0:=ba_ hw B0;have Nb1_b127:=nb_ hb B1;replace B1:=ba_ hw B1;have Nb101_b127:=nb_ hb B101;replace B101:=ba_ hw B101;have LK1_b127:=lk_ hb K1;replace K1:=ka_ hw K1;have LKU_b127:=lk_ hb KU;replace KU:=ka_ hw KU;clear hw hb
 refine sv_ gq60_4_6 Y fun a129 e=>?_;clear Y
 have h11:=pt_ F e;replace F:=pu_ F e;replace h29:=so_ e h29;replace h30:=so_ e h30;replace h31:=so_ e h31;clear e
 obtain ⟨w130,Y,hk,hB⟩:=ys4_ (o:=oq60_4_7) rfl h11 h29 B127
 replace K1:=kx_ hk K1 (Nat.not_lt.2 LK1_b127);replace KU:=kx_ hk KU (Nat.not_lt.2 LKU_b127);replace B0:=bx_ hk B0 Nb0_b127;replace B1:=bx_ hk B1 Nb1_b127;replace B101:=bx_ hk B101 Nb101_b127;clear B127;have B127:=hB;clear hB hk
 refine st_skip gq60_4_7 rfl (wanted_free rfl) Y ?_;clear Y
 refine sv_ gq60_4_8 (ya_ rfl h30) fun a131 e=>?_
 clear h29 h30;replace F:=pu_ F e;replace h11:=so_ e h11;replace h31:=so_ e h31;clear e
 refine sv_ gq60_4_9 (ya_ rfl h31) fun a132 e=>?_
 clear h31;have h13:=pt_ F e;replace F:=pu_ F e;replace h11:=so_ e h11;clear e
 refine st_end ?_
 clear h5;replace h6:=F.of h6;replace h7:=F.of h7;replace h8:=F.of h8;replace h9:=F.of h9;clear h25;have R:=F.r;clear F
 change (cq60_14).wp _ _ _ _
 refine wp_seq (x:=cq60_15) (y:=cq60_22) ?_
 refine wp_seq (x:=cq60_16) (y:=cq60_17) ?_
 change (Code.region 5 Oq60_5 false).wp _ _ _ _
 refine reg_in (l:=[0,1]) rfl ?_
 have F:FE_ _ [] a132 a132:=⟨R,Ag_.refl _⟩;clear R
 refine sv_ gq60_5_0 (ym_ rfl (F.of h13)) fun a133 e=>?_
 have h32:=pt_ F e;replace F:=pu_ F e;clear e
 have Y:(execOp a133.eval oq60_5_1).run Tryz.prog w130=.ok (.value (.bool false)) w130:=by unfold oq60_5_1;go_simp
 refine sv_ gq60_5_1 Y fun a134 e=>?_;clear Y
 clear h32;have h33:=pt_ F e;replace F:=pu_ F e;clear e
 refine st_end ?_
 replace h6:=F.of h6;replace h7:=F.of h7;replace h8:=F.of h8;replace h9:=F.of h9;replace h11:=F.of h11;replace h13:=F.of h13;have R:=F.r;clear F
 change (cq60_17).wp _ _ _ _
 refine wp_cond_false (x:=cq60_18) (y:=Code.skip) (eval_slot h33) ?_
 refine wp_skip ?_
 change (cq60_22).wp _ _ _ _
 refine wp_seq (x:=cq60_23) (y:=cq60_24) ?_
 change (Code.region 7 Oq60_7 false).wp _ _ _ _
 refine reg_in (l:=[0,1,2,3,4,5,6]) rfl ?_
 have F:FE_ _ [] a134 a134:=⟨R,Ag_.refl _⟩;clear R
 refine sv_ gq60_7_0 (ym_ rfl (F.of h9)) fun a135 e=>?_
 have h35:=pt_ F e;replace F:=pu_ F e;clear e
 have Y:(execOp a135.eval oq60_7_1).run Tryz.prog w130=.ok (.value (.pointer (some ⟨b1,0,none⟩))) w130:=by unfold oq60_7_1;go_simp
 refine sv_ gq60_7_1 Y fun a136 e=>?_;clear Y
 clear h35;have h36:=pt_ F e;replace F:=pu_ F e;clear e
 have Y:(execOp a136.eval oq60_7_2).run Tryz.prog w130=.ok (.value (.pointer (some ⟨b1,1,none⟩))) w130:=by unfold oq60_7_2;go_simp
 refine sv_ gq60_7_2 Y fun a137 e=>?_;clear Y
 clear h36;have h37:=pt_ F e;replace F:=pu_ F e;clear e
 have Y:(execOp a137.eval oq60_7_3).run Tryz.prog w130=.ok (.value (.slice va ps.length vc)) w130:=by have qq0:w130.cell? ⟨b1,0,none⟩=some (.int .i64 m):=B1.cell 0;have qq1:w130.cell? ⟨b1,1,none⟩=some (.slice va ps.length vc):=B1.cell 1;unfold oq60_7_3;go_simp
 refine sv_ gq60_7_3 Y fun a138 e=>?_;clear Y
 clear h37;have h38:=pt_ F e;replace F:=pu_ F e;clear e
 have Y:(execOp a138.eval oq60_7_4).run Tryz.prog w130=.ok (.value (.func (.func 48) #[] #[.pointer (some ⟨b127,0,none⟩)])) w130:=by have r11:=F.of h11;unfold oq60_7_4;go_simp
 refine sv_ gq60_7_4 Y fun a139 e=>?_;clear Y
 have h39:=pt_ F e;replace F:=pu_ F e;replace h38:=so_ e h38;clear e
 have HI:=Lib.hid (index_any (sc:=vc) ((PoAt.on HP.out K1).qs k _ HF.out).tmsl B127 (HTU.out.on KU) (by rw [← HUE.out];exact (ren_facts HR.out (by decide) (by decide) (b:=1)).1) (fun p hp=>((HP.out.qs k _ HF.out).ren p hp).1) (by have h:=(HP.out.qs k _ HF.out);have h1:=h.le;have h2:=h.m1;show ps.length ≤ 1000000;simp only at h1 h2;omega))
 refine st_call gq60_7_5 rfl (wanted_free rfl) (yc2_ enq60_77 rfl h38 h39) ((HI.out).mono ?_)
 rintro e9 w140 ⟨y,rfl,hy,kk⟩
 replace K1:=keep_onto K1 kk
 replace KU:=keep_onto KU kk
 replace B0:=blk_on B0 kk
 replace B1:=blk_on B1 kk
 replace B101:=blk_on B101 kk
 replace B127:=blk_on B127 kk
 have HY:=Lib.hid hy;clear hy
 clear kk
 refine ⟨_,rfl,fun a141 e=>?_⟩
 clear h38 h39;have h40:=pt_ F e;replace F:=pu_ F e;clear e
 refine sv_ gq60_7_6 (ya_ rfl h40) fun a142 e=>?_
 clear h40;have h14:=pt_ F e;replace F:=pu_ F e;clear e
 refine st_end ?_
 replace h6:=F.of h6;replace h7:=F.of h7;replace h8:=F.of h8;replace h9:=F.of h9;clear h11;clear h13;clear h33;have R:=F.r;clear F
 change (cq60_24).wp _ _ _ _
 refine wp_seq (x:=cq60_25) (y:=cq60_32) ?_
 refine wp_seq (x:=cq60_26) (y:=cq60_27) ?_
 change (Code.region 8 Oq60_8 false).wp _ _ _ _
 refine reg_in (l:=[0,1]) rfl ?_
 have F:FE_ _ [] a142 a142:=⟨R,Ag_.refl _⟩;clear R
 refine sv_ gq60_8_0 (ym_ rfl (F.of h14)) fun a143 e=>?_
 have h41:=pt_ F e;replace F:=pu_ F e;clear e
 obtain ⟨b144,hb144⟩:∃ x,(decide ((y:Int) < (0:Int)))=x:=⟨_,rfl⟩
 have Y:(execOp a143.eval oq60_8_1).run Tryz.prog w140=.ok (.value (.bool b144)) w140:=by rw [← hb144];unfold oq60_8_1;go_simp
 refine sv_ gq60_8_1 Y fun a145 e=>?_;clear Y
 clear h41;have h42:=pt_ F e;replace F:=pu_ F e;clear e
 refine st_end ?_
 replace h6:=F.of h6;replace h7:=F.of h7;replace h8:=F.of h8;replace h9:=F.of h9;replace h14:=F.of h14;have R:=F.r;clear F
 change (cq60_27).wp _ _ _ _
 cases b144 with
 | false =>
  have fb144:=hb144;clear hb144
  simp only [decide_eq_true_eq,decide_eq_false_iff_not,bne_iff_ne,bne_eq_false_iff_eq,beq_iff_eq,beq_eq_false_iff_ne,ne_eq,Bool.not_eq_true',Bool.not_eq_false',Bool.not_eq_eq_eq_not,Bool.not_true,Bool.not_false] at fb144
  refine wp_cond_false (x:=cq60_28) (y:=Code.skip) (eval_slot h42) ?_
  refine wp_skip ?_
  change (cq60_32).wp _ _ _ _
  refine wp_seq (x:=cq60_33) (y:=Code.ret) ?_
  change (Code.region 10 Oq60_10 false).wp _ _ _ _
  refine reg_in (l:=[0,1,2,3,4]) rfl ?_
  have F:FE_ _ [] a145 a145:=⟨R,Ag_.refl _⟩;clear R
  refine sv_ gq60_10_0 (ym_ rfl (F.of h9)) fun a146 e=>?_
  have h43:=pt_ F e;replace F:=pu_ F e;clear e
  refine sv_ gq60_10_1 (ym_ rfl (F.of h14)) fun a147 e=>?_
  have h44:=pt_ F e;replace F:=pu_ F e;replace h43:=so_ e h43;clear e
  refine sv_ gq60_10_2 (ya_ rfl h43) fun a148 e=>?_
  clear h43 h6;have h6:=pt_ F e;replace F:=pu_ F e;replace h44:=so_ e h44;clear e
  refine sv_ gq60_10_3 (ya_ rfl h44) fun a149 e=>?_
  clear h44 h7;have h7:=pt_ F e;replace F:=pu_ F e;replace h6:=so_ e h6;clear e
  have Y:(execOp a149.eval oq60_10_4).run Tryz.prog w140=.ok (.value (.int .i64 0)) w140:=by unfold oq60_10_4;go_simp
  refine sv_ gq60_10_4 Y fun a150 e=>?_;clear Y
  clear h8;have h8:=pt_ F e;replace F:=pu_ F e;replace h6:=so_ e h6;replace h7:=so_ e h7;clear e
  refine st_end ?_
  clear h9;clear h14;clear h42;have R:=F.r;clear F
  change (Code.ret).wp _ _ _ _
  refine wp_ret ?_
  change bodyPost Tryz.prog Tryz.f31 (fun e w'=>(∃ y:Int,First (t.tree.ren 2001).tm ps y∧((y < 0∧e=.returned (.tuple #[.pointer none,.int .i64 0,.int .i64 141]))∨(0 ≤ y∧e=.returned (.tuple #[.pointer (some ⟨b1,0,none⟩),.int .i64 y,.int .i64 0]))))∧Keep (fun g=>g < W.heap.size) W w') .ret a150 w140
  refine ret_el3 rfl R.defers h6 h7 h8 ?_
  exact ⟨⟨y,by rw [HUE.out];exact HY.out,.inr ⟨by omega,rfl⟩⟩,K1⟩
 | true =>
  have fb144:=hb144;clear hb144
  simp only [decide_eq_true_eq,decide_eq_false_iff_not,bne_iff_ne,bne_eq_false_iff_eq,beq_iff_eq,beq_eq_false_iff_ne,ne_eq,Bool.not_eq_true',Bool.not_eq_false',Bool.not_eq_eq_eq_not,Bool.not_true,Bool.not_false] at fb144
  refine wp_cond_true (x:=cq60_28) (y:=Code.skip) (eval_slot h42) ?_
  refine wp_seq (x:=cq60_29) (y:=Code.ret) ?_
  change (Code.region 9 Oq60_9 false).wp _ _ _ _
  refine reg_in (l:=[0,1,2]) rfl ?_
  have F:FE_ _ [] a145 a145:=⟨R,Ag_.refl _⟩;clear R
  have Y:(execOp a145.eval oq60_9_0).run Tryz.prog w140=.ok (.value (Value.pointer none)) w140:=by unfold oq60_9_0;go_simp
  refine sv_ gq60_9_0 Y fun a151 e=>?_;clear Y
  clear h6;have h6:=pt_ F e;replace F:=pu_ F e;clear e
  have Y:(execOp a151.eval oq60_9_1).run Tryz.prog w140=.ok (.value (.int .i64 0)) w140:=by unfold oq60_9_1;go_simp
  refine sv_ gq60_9_1 Y fun a152 e=>?_;clear Y
  clear h7;have h7:=pt_ F e;replace F:=pu_ F e;replace h6:=so_ e h6;clear e
  have Y:(execOp a152.eval oq60_9_2).run Tryz.prog w140=.ok (.value (.int .i64 141)) w140:=by unfold oq60_9_2;go_simp
  refine sv_ gq60_9_2 Y fun a153 e=>?_;clear Y
  clear h8;have h8:=pt_ F e;replace F:=pu_ F e;replace h6:=so_ e h6;replace h7:=so_ e h7;clear e
  refine st_end ?_
  replace h9:=F.of h9;replace h14:=F.of h14;clear h42;have R:=F.r;clear F
  change (Code.ret).wp _ _ _ _
  refine wp_ret ?_
  change bodyPost Tryz.prog Tryz.f31 (fun e w'=>(∃ y:Int,First (t.tree.ren 2001).tm ps y∧((y < 0∧e=.returned (.tuple #[.pointer none,.int .i64 0,.int .i64 141]))∨(0 ≤ y∧e=.returned (.tuple #[.pointer (some ⟨b1,0,none⟩),.int .i64 y,.int .i64 0]))))∧Keep (fun g=>g < W.heap.size) W w') .ret a153 w140
  refine ret_el3 rfl R.defers h6 h7 h8 ?_
  exact ⟨⟨y,by rw [HUE.out];exact HY.out,.inl ⟨by omega,rfl⟩⟩,K1⟩
def NoMsg (f:Int→Option Qu) (k:Int) (t:Tm) (er:Int):Prop:=(f k=none∧er=140)∨∃ q,f k=some q∧((t.right=false∧er=70)∨(t.right=true∧er=141∧∀ p ∈ q.ps,¬ Fit p.1 (t.tree.ren 2001).tm))
def IsMsg (q:Qu) (t:Tm) (j:Nat) (p:TP):Prop:=t.right=true∧q.ps[j]? = some p∧Fit p.1 (t.tree.ren 2001).tm∧∀ (i:Nat) (x:TP),i < j→q.ps[i]? = some x→¬ Fit x.1 (t.tree.ren 2001).tm
section
variable {W:World} {B b0 mb n:Nat} {R:Nat→Prop} {made k er:Int} {f:Int→Option Qu} {t:Tm} {a:Option Addr} {c:Nat} {q:Qu}
theorem PoAt.cut (h:PoAt B R W b0 mb made f n) (hf:f k=some q):∃ va vc,q=⟨q.g,q.m,.slice va q.ps.length vc,q.ps⟩:=by
  obtain ⟨va,vc,hv⟩:=(h.qs k q hf).sl
  exact ⟨va,vc,by cases q;simp only at hv ⊢;rw [hv]⟩
theorem find_no (h:PoAt B R W b0 mb made f n) (hk:(ik k).wf=true) (hT:TmAt W.heap.size W t a c) (hc:NoMsg f k t er):Calls Tryz.prog 31 #[.pointer (some ⟨b0,0,none⟩),.int .i64 k,tv t a c] W fun e w'=>e=.returned (.tuple #[.pointer none,.int .i64 0,.int .i64 er])∧Keep (fun g=>g < W.heap.size) W w':=by
  rcases hc with ⟨hf,rfl⟩ | ⟨q,hf,hr⟩
  · refine enter_sx Tryz.func31 bodyq60 rfl (by show (3:Nat) ≤ 45;decide) fun f0 R0 hs=>?_
    exact find_a R0 (hs 0 _ rfl) (hs 1 _ rfl) (hs 2 _ rfl) (Keep.refl _ W) h.head (Lib.hid h) (Lib.hid hk) (Lib.hid hT) (Lib.hid hf)
  · obtain ⟨va,vc,e⟩:=h.cut hf
    rw [e] at hf
    have hq:=h.qs k _ hf
    rcases hr with ⟨hr,rfl⟩ | ⟨hr,rfl,hn⟩
    · refine enter_sx Tryz.func31 bodyq60 rfl (by show (3:Nat) ≤ 45;decide) fun f0 R0 hs=>?_
      exact find_b R0 (hs 0 _ rfl) (hs 1 _ rfl) (hs 2 _ rfl) (Keep.refl _ W) h.head (Lib.hid h) (Lib.hid hk) hq.box (Lib.hid hf) (Lib.hid hT) (Lib.hid hr)
    · refine Calls.mono (enter_sx Tryz.func31 bodyq60 rfl (by show (3:Nat) ≤ 45;decide) fun f0 R0 hs=>find_c R0 (hs 0 _ rfl) (hs 1 _ rfl) (hs 2 _ rfl) (Keep.refl _ W) h.head (Lib.hid h) (Lib.hid hk) hq.box (Lib.hid hf) (Lib.hid hT) (Lib.hid hr)) ?_
      rintro e w' ⟨⟨y,hy,h⟩,hkk⟩
      rcases h with ⟨_,h⟩ | ⟨h0,_⟩
      · exact ⟨h,hkk⟩
      · have:=hy.none hn;omega
theorem find_yes {j:Nat} {p:TP} (h:PoAt B R W b0 mb made f n) (hk:(ik k).wf=true) (hT:TmAt W.heap.size W t a c) (hf:f k=some q) (hc:IsMsg q t j p):Calls Tryz.prog 31 #[.pointer (some ⟨b0,0,none⟩),.int .i64 k,tv t a c] W fun e w'=>e=.returned (.tuple #[.pointer (some ⟨q.g,0,none⟩),.int .i64 j,.int .i64 0])∧Keep (fun g=>g < W.heap.size) W w':=by
  obtain ⟨va,vc,e⟩:=h.cut hf
  have hf2:=hf
  rw [e] at hf2
  have hq:=h.qs k _ hf2
  refine Calls.mono (enter_sx Tryz.func31 bodyq60 rfl (by show (3:Nat) ≤ 45;decide) fun f0 R0 hs=>find_c R0 (hs 0 _ rfl) (hs 1 _ rfl) (hs 2 _ rfl) (Keep.refl _ W) h.head (Lib.hid h) (Lib.hid hk) hq.box (Lib.hid hf2) (Lib.hid hT) (Lib.hid hc.1)) ?_
  rintro e w' ⟨⟨y,hy,h⟩,hkk⟩
  have hyj:=hy.at hc.2.1 hc.2.2.1 hc.2.2.2
  rcases h with ⟨h0,_⟩ | ⟨_,h⟩
  · omega
  · rw [hyj] at h;exact ⟨h,hkk⟩
end
def oq29_0_0:Oper:=⟨some 4,Op.assign (Operand.const (Value.int IntKind.i64 0)),3, "post.go:85",#[],none⟩
def oq29_0_1:Oper:=⟨some 5,Op.assign (Operand.const (Value.int IntKind.i64 0)),39, "post.go:85",#[ec_ 0],none⟩
def Oq29_0:Array Oper:=List.toArray (oq29_0_0::oq29_0_1::[])
theorem gq29_0_0:Oq29_0[0]? = some oq29_0_0:=rfl
theorem gq29_0_1:Oq29_0[1]? = some oq29_0_1:=rfl
def cq29_1:Code:=Code.region 0 Oq29_0 false
def oq29_1_0:Oper:=⟨some 9,Op.move (Operand.tmp 0),23, "post.go:86",#[],none⟩
def oq29_1_1:Oper:=⟨some 10,Op.nilCheck (Operand.tmp 9),0, "post.go:86",#[ed_ 0],none⟩
def oq29_1_2:Oper:=⟨some 11,Op.fieldAddr 48 (Operand.tmp 10) 1,0, "post.go:86",#[ed_ 1],none⟩
def oq29_1_3:Oper:=⟨some 12,Op.load 46 (Operand.tmp 11),46, "post.go:86",#[ed_ 2],none⟩
def oq29_1_4:Oper:=⟨some 13,Op.move (Operand.tmp 1),3, "post.go:86",#[],none⟩
def oq29_1_5:Oper:=⟨some 14,Op.lookup 46 (Operand.tmp 12) (Operand.tmp 13) true,70, "post.go:86",#[ed_ 3,ed_ 4],none⟩
def oq29_1_6:Oper:=⟨some 8,Op.move (Operand.tmp 14),70, "post.go:86",#[ed_ 5],none⟩
def oq29_1_7:Oper:=⟨some 15,Op.extract (Operand.tmp 8) 0,69, "post.go:86",#[ed_ 6],none⟩
def oq29_1_8:Oper:=⟨some 16,Op.extract (Operand.tmp 8) 1,4, "post.go:86",#[ed_ 6,{ on:=9,ground:=Go.Ground.gcOnly Go.Departure.lateStores }],none⟩
def oq29_1_9:Oper:=⟨some 6,Op.assign (Operand.tmp 15),69, "post.go:86",#[ed_ 7,ep_ 0,ep_ 1,ep_ 2,ep_ 3,ep_ 4,ep_ 5,ep_ 6,ep_ 7,{ on:=8,ground:=Go.Ground.textOnly Go.Departure.lateStores }],none⟩
def oq29_1_10:Oper:=⟨some 7,Op.assign (Operand.tmp 16),4, "post.go:86",#[ed_ 8,ec_ 9,ep_ 0,ep_ 1,ep_ 2,ep_ 3,ep_ 4,ep_ 5,ep_ 6,ep_ 7,ep_ 8,ep_ 9],none⟩
def Oq29_1:Array Oper:=List.toArray (oq29_1_0::oq29_1_1::oq29_1_2::oq29_1_3::oq29_1_4::oq29_1_5::oq29_1_6::oq29_1_7::oq29_1_8::oq29_1_9::oq29_1_10::[])
theorem gq29_1_0:Oq29_1[0]? = some oq29_1_0:=rfl
theorem gq29_1_1:Oq29_1[1]? = some oq29_1_1:=rfl
theorem gq29_1_2:Oq29_1[2]? = some oq29_1_2:=rfl
theorem gq29_1_3:Oq29_1[3]? = some oq29_1_3:=rfl
theorem gq29_1_4:Oq29_1[4]? = some oq29_1_4:=rfl
theorem gq29_1_5:Oq29_1[5]? = some oq29_1_5:=rfl
theorem gq29_1_6:Oq29_1[6]? = some oq29_1_6:=rfl
theorem gq29_1_7:Oq29_1[7]? = some oq29_1_7:=rfl
theorem gq29_1_8:Oq29_1[8]? = some oq29_1_8:=rfl
theorem gq29_1_9:Oq29_1[9]? = some oq29_1_9:=rfl
theorem gq29_1_10:Oq29_1[10]? = some oq29_1_10:=rfl
def cq29_3:Code:=Code.region 1 Oq29_1 false
def oq29_2_0:Oper:=⟨some 17,Op.move (Operand.tmp 7),4, "post.go:87",#[],none⟩
def oq29_2_1:Oper:=⟨some 18,Op.unOp Go.UnOp.not 4 (Operand.tmp 17),4, "post.go:87",#[ed_ 0],none⟩
def Oq29_2:Array Oper:=List.toArray (oq29_2_0::oq29_2_1::[])
theorem gq29_2_0:Oq29_2[0]? = some oq29_2_0:=rfl
theorem gq29_2_1:Oq29_2[1]? = some oq29_2_1:=rfl
def cq29_6:Code:=Code.region 2 Oq29_2 false
def oq29_3_0:Oper:=⟨some 4,Op.assign (Operand.const (Value.int IntKind.i64 0)),3, "post.go:88",#[],none⟩
def oq29_3_1:Oper:=⟨some 5,Op.assign (Operand.const (Value.int IntKind.i64 140)),39, "post.go:88",#[ec_ 0,ep_ 0],none⟩
def Oq29_3:Array Oper:=List.toArray (oq29_3_0::oq29_3_1::[])
theorem gq29_3_0:Oq29_3[0]? = some oq29_3_0:=rfl
theorem gq29_3_1:Oq29_3[1]? = some oq29_3_1:=rfl
def cq29_9:Code:=Code.region 3 Oq29_3 false
def cq29_8:Code:=Code.seq cq29_9 Code.ret
def cq29_7:Code:=Code.cond (Operand.tmp 18) cq29_8 Code.skip
def cq29_5:Code:=Code.seq cq29_6 cq29_7
def oq29_4_0:Oper:=⟨some 19,Op.move (Operand.tmp 6),69, "post.go:90",#[],none⟩
def oq29_4_1:Oper:=⟨some 20,Op.nilCheck (Operand.tmp 19),0, "post.go:90",#[ed_ 0],none⟩
def oq29_4_2:Oper:=⟨some 21,Op.fieldAddr 72 (Operand.tmp 20) 1,0, "post.go:90",#[ed_ 1],none⟩
def oq29_4_3:Oper:=⟨some 22,Op.load 26 (Operand.tmp 21),26, "post.go:90",#[ed_ 2],none⟩
def oq29_4_4:Oper:=⟨some 23,Op.call { callee:=Callee.builtin Go.Builtin.len,args:=#[Operand.tmp 22],argTypes:=#[26] },3, "post.go:90",#[ed_ 3],none⟩
def oq29_4_5:Oper:=⟨some 4,Op.assign (Operand.tmp 23),3, "post.go:90",#[ed_ 4,ep_ 0,ep_ 1,ep_ 2,ep_ 3,ep_ 4],none⟩
def oq29_4_6:Oper:=⟨some 5,Op.assign (Operand.const (Value.int IntKind.i64 0)),39, "post.go:90",#[ec_ 5,ep_ 0,ep_ 1,ep_ 2,ep_ 3,ep_ 4,ep_ 5],none⟩
def Oq29_4:Array Oper:=List.toArray (oq29_4_0::oq29_4_1::oq29_4_2::oq29_4_3::oq29_4_4::oq29_4_5::oq29_4_6::[])
theorem gq29_4_0:Oq29_4[0]? = some oq29_4_0:=rfl
theorem gq29_4_1:Oq29_4[1]? = some oq29_4_1:=rfl
theorem gq29_4_2:Oq29_4[2]? = some oq29_4_2:=rfl
theorem gq29_4_3:Oq29_4[3]? = some oq29_4_3:=rfl
theorem gq29_4_4:Oq29_4[4]? = some oq29_4_4:=rfl
theorem gq29_4_5:Oq29_4[5]? = some oq29_4_5:=rfl
theorem gq29_4_6:Oq29_4[6]? = some oq29_4_6:=rfl
def cq29_13:Code:=Code.region 4 Oq29_4 false
def cq29_12:Code:=Code.seq cq29_13 Code.ret
def cq29_4:Code:=Code.seq cq29_5 cq29_12
def cq29_2:Code:=Code.seq cq29_3 cq29_4
def cq29_0:Code:=Code.seq cq29_1 cq29_2
theorem bodyq29:Tryz.f10.body=some cq29_0:=by kernel_rfl
set_option maxRecDepth 100000 in
set_option maxHeartbeats 4000000 in
theorem len_a {W:World} {B b0 mb n:Nat} {RR:Nat→Prop} {made k:Int} {f:Int→Option Qu}  {f0:Act} {w0:World} (R:FrS 24 f0) (h0:f0.tmps[0]? = some (.pointer (some ⟨b0,0,none⟩))) (h1:f0.tmps[1]? = some (.int .i64 k)) (K1:Keep (fun g=>g < W.heap.size) W w0)  (B0:Blk w0 b0 48 #[.int .i64 made,.map (some mb)]) (HP:Hid (PoAt B RR W b0 mb made f n)) (HK:Hid ((ik k).wf=true)) (HF:Hid (f k=none)):cq29_0.wp Tryz.prog (bodyPost Tryz.prog Tryz.f10 (fun e w'=>e=.returned (.tuple #[.int .i64 0,.int .i64 140])∧Keep (fun g=>g < W.heap.size) W w')) f0 w0:=by
 refine wp_seq (x:=cq29_1) (y:=cq29_2) ?_
 change (Code.region 0 Oq29_0 false).wp _ _ _ _
 refine reg_in (l:=[0,1]) rfl ?_
 have F:FE_ _ [] f0 f0:=⟨R,Ag_.refl _⟩;clear R
 have Y:(execOp f0.eval oq29_0_0).run Tryz.prog w0=.ok (.value (.int .i64 0)) w0:=by unfold oq29_0_0;go_simp
 refine sv_ gq29_0_0 Y fun a101 e=>?_;clear Y
 have h4:=pt_ F e;replace F:=pu_ F e;clear e
 have Y:(execOp a101.eval oq29_0_1).run Tryz.prog w0=.ok (.value (.int .i64 0)) w0:=by unfold oq29_0_1;go_simp
 refine sv_ gq29_0_1 Y fun a102 e=>?_;clear Y
 have h5:=pt_ F e;replace F:=pu_ F e;replace h4:=so_ e h4;clear e
 refine st_end ?_
 replace h0:=F.of h0;replace h1:=F.of h1;have R:=F.r;clear F
 change (cq29_2).wp _ _ _ _
 refine wp_seq (x:=cq29_3) (y:=cq29_4) ?_
 change (Code.region 1 Oq29_1 false).wp _ _ _ _
 refine reg_in (l:=[0,1,2,3,4,5,6,7,8,9,10]) rfl ?_
 have F:FE_ _ [] a102 a102:=⟨R,Ag_.refl _⟩;clear R
 refine sv_ gq29_1_0 (ym_ rfl (F.of h0)) fun a103 e=>?_
 have h9:=pt_ F e;replace F:=pu_ F e;clear e
 have Y:(execOp a103.eval oq29_1_1).run Tryz.prog w0=.ok (.value (.pointer (some ⟨b0,0,none⟩))) w0:=by unfold oq29_1_1;go_simp
 refine sv_ gq29_1_1 Y fun a104 e=>?_;clear Y
 clear h9;have h10:=pt_ F e;replace F:=pu_ F e;clear e
 have Y:(execOp a104.eval oq29_1_2).run Tryz.prog w0=.ok (.value (.pointer (some ⟨b0,1,none⟩))) w0:=by unfold oq29_1_2;go_simp
 refine sv_ gq29_1_2 Y fun a105 e=>?_;clear Y
 clear h10;have h11:=pt_ F e;replace F:=pu_ F e;clear e
 have Y:(execOp a105.eval oq29_1_3).run Tryz.prog w0=.ok (.value (.map (some mb))) w0:=by have qq0:w0.cell? ⟨b0,0,none⟩=some (.int .i64 made):=B0.cell 0;have qq1:w0.cell? ⟨b0,1,none⟩=some (.map (some mb)):=B0.cell 1;unfold oq29_1_3;go_simp
 refine sv_ gq29_1_3 Y fun a106 e=>?_;clear Y
 clear h11;have h12:=pt_ F e;replace F:=pu_ F e;clear e
 refine sv_ gq29_1_4 (ym_ rfl (F.of h1)) fun a107 e=>?_
 have h13:=pt_ F e;replace F:=pu_ F e;replace h12:=so_ e h12;clear e
 have Y:(execOp a107.eval oq29_1_5).run Tryz.prog w0=.ok (.value (.tuple #[.pointer none,.bool false])) w0:=by have hl:=PoAt.look0 (HP.out.on K1) HF.out HK.out;unfold oq29_1_5;go_simp
 refine sv_ gq29_1_5 Y fun a108 e=>?_;clear Y
 clear h12 h13;have h14:=pt_ F e;replace F:=pu_ F e;clear e
 refine sv_ gq29_1_6 (ym_ rfl h14) fun a109 e=>?_
 clear h14;have h8:=pt_ F e;replace F:=pu_ F e;clear e
 refine sv_ gq29_1_7 (ye20_ rfl h8) fun a110 e=>?_
 have h15:=pt_ F e;replace F:=pu_ F e;replace h8:=so_ e h8;clear e
 refine sv_ gq29_1_8 (ye21_ rfl h8) fun a111 e=>?_
 clear h8;have h16:=pt_ F e;replace F:=pu_ F e;replace h15:=so_ e h15;clear e
 refine sv_ gq29_1_9 (ya_ rfl h15) fun a112 e=>?_
 clear h15;have h6:=pt_ F e;replace F:=pu_ F e;replace h16:=so_ e h16;clear e
 refine sv_ gq29_1_10 (ya_ rfl h16) fun a113 e=>?_
 clear h16;have h7:=pt_ F e;replace F:=pu_ F e;replace h6:=so_ e h6;clear e
 refine st_end ?_
 clear h0;clear h1;replace h4:=F.of h4;replace h5:=F.of h5;have R:=F.r;clear F
 change (cq29_4).wp _ _ _ _
 refine wp_seq (x:=cq29_5) (y:=cq29_12) ?_
 refine wp_seq (x:=cq29_6) (y:=cq29_7) ?_
 change (Code.region 2 Oq29_2 false).wp _ _ _ _
 refine reg_in (l:=[0,1]) rfl ?_
 have F:FE_ _ [] a113 a113:=⟨R,Ag_.refl _⟩;clear R
 refine sv_ gq29_2_0 (ym_ rfl (F.of h7)) fun a114 e=>?_
 have h17:=pt_ F e;replace F:=pu_ F e;clear e
 have Y:(execOp a114.eval oq29_2_1).run Tryz.prog w0=.ok (.value (.bool true)) w0:=by unfold oq29_2_1;go_simp
 refine sv_ gq29_2_1 Y fun a115 e=>?_;clear Y
 clear h17;have h18:=pt_ F e;replace F:=pu_ F e;clear e
 refine st_end ?_
 replace h4:=F.of h4;replace h5:=F.of h5;replace h6:=F.of h6;clear h7;have R:=F.r;clear F
 change (cq29_7).wp _ _ _ _
 refine wp_cond_true (x:=cq29_8) (y:=Code.skip) (eval_slot h18) ?_
 refine wp_seq (x:=cq29_9) (y:=Code.ret) ?_
 change (Code.region 3 Oq29_3 false).wp _ _ _ _
 refine reg_in (l:=[0,1]) rfl ?_
 have F:FE_ _ [] a115 a115:=⟨R,Ag_.refl _⟩;clear R
 have Y:(execOp a115.eval oq29_3_0).run Tryz.prog w0=.ok (.value (.int .i64 0)) w0:=by unfold oq29_3_0;go_simp
 refine sv_ gq29_3_0 Y fun a116 e=>?_;clear Y
 clear h4;have h4:=pt_ F e;replace F:=pu_ F e;clear e
 have Y:(execOp a116.eval oq29_3_1).run Tryz.prog w0=.ok (.value (.int .i64 140)) w0:=by unfold oq29_3_1;go_simp
 refine sv_ gq29_3_1 Y fun a117 e=>?_;clear Y
 clear h5;have h5:=pt_ F e;replace F:=pu_ F e;replace h4:=so_ e h4;clear e
 refine st_end ?_
 replace h6:=F.of h6;clear h18;have R:=F.r;clear F
 change (Code.ret).wp _ _ _ _
 refine wp_ret ?_
 change bodyPost Tryz.prog Tryz.f10 (fun e w'=>e=.returned (.tuple #[.int .i64 0,.int .i64 140])∧Keep (fun g=>g < W.heap.size) W w') .ret a117 w0
 refine ret_el2 rfl R.defers h4 h5 ?_
 exact ⟨rfl,K1⟩
set_option maxRecDepth 100000 in
set_option maxHeartbeats 4000000 in
theorem len_b {W:World} {B b0 mb n:Nat} {RR:Nat→Prop} {made k:Int} {f:Int→Option Qu} {b1 vc:Nat} {m:Int} {va:Option Addr} {ps:List TP}  {f0:Act} {w0:World} (R:FrS 24 f0) (h0:f0.tmps[0]? = some (.pointer (some ⟨b0,0,none⟩))) (h1:f0.tmps[1]? = some (.int .i64 k)) (K1:Keep (fun g=>g < W.heap.size) W w0)  (B0:Blk w0 b0 48 #[.int .i64 made,.map (some mb)]) (HP:Hid (PoAt B RR W b0 mb made f n)) (HK:Hid ((ik k).wf=true)) (B1:Blk w0 b1 72 #[.int .i64 m,.slice va ps.length vc]) (HF:Hid (f k=some ⟨b1,m,.slice va ps.length vc,ps⟩))  : cq29_0.wp Tryz.prog (bodyPost Tryz.prog Tryz.f10 (fun e w'=>e=.returned (.tuple #[.int .i64 (ps.length:Int),.int .i64 0])∧Keep (fun g=>g < W.heap.size) W w')) f0 w0:=by
 refine wp_seq (x:=cq29_1) (y:=cq29_2) ?_
 change (Code.region 0 Oq29_0 false).wp _ _ _ _
 refine reg_in (l:=[0,1]) rfl ?_
 have F:FE_ _ [] f0 f0:=⟨R,Ag_.refl _⟩;clear R
 have Y:(execOp f0.eval oq29_0_0).run Tryz.prog w0=.ok (.value (.int .i64 0)) w0:=by unfold oq29_0_0;go_simp
 refine sv_ gq29_0_0 Y fun a101 e=>?_;clear Y
 have h4:=pt_ F e;replace F:=pu_ F e;clear e
 have Y:(execOp a101.eval oq29_0_1).run Tryz.prog w0=.ok (.value (.int .i64 0)) w0:=by unfold oq29_0_1;go_simp
 refine sv_ gq29_0_1 Y fun a102 e=>?_;clear Y
 have h5:=pt_ F e;replace F:=pu_ F e;replace h4:=so_ e h4;clear e
 refine st_end ?_
 replace h0:=F.of h0;replace h1:=F.of h1;have R:=F.r;clear F
 change (cq29_2).wp _ _ _ _
 refine wp_seq (x:=cq29_3) (y:=cq29_4) ?_
 change (Code.region 1 Oq29_1 false).wp _ _ _ _
 refine reg_in (l:=[0,1,2,3,4,5,6,7,8,9,10]) rfl ?_
 have F:FE_ _ [] a102 a102:=⟨R,Ag_.refl _⟩;clear R
 refine sv_ gq29_1_0 (ym_ rfl (F.of h0)) fun a103 e=>?_
 have h9:=pt_ F e;replace F:=pu_ F e;clear e
 have Y:(execOp a103.eval oq29_1_1).run Tryz.prog w0=.ok (.value (.pointer (some ⟨b0,0,none⟩))) w0:=by unfold oq29_1_1;go_simp
 refine sv_ gq29_1_1 Y fun a104 e=>?_;clear Y
 clear h9;have h10:=pt_ F e;replace F:=pu_ F e;clear e
 have Y:(execOp a104.eval oq29_1_2).run Tryz.prog w0=.ok (.value (.pointer (some ⟨b0,1,none⟩))) w0:=by unfold oq29_1_2;go_simp
 refine sv_ gq29_1_2 Y fun a105 e=>?_;clear Y
 clear h10;have h11:=pt_ F e;replace F:=pu_ F e;clear e
 have Y:(execOp a105.eval oq29_1_3).run Tryz.prog w0=.ok (.value (.map (some mb))) w0:=by have qq0:w0.cell? ⟨b0,0,none⟩=some (.int .i64 made):=B0.cell 0;have qq1:w0.cell? ⟨b0,1,none⟩=some (.map (some mb)):=B0.cell 1;unfold oq29_1_3;go_simp
 refine sv_ gq29_1_3 Y fun a106 e=>?_;clear Y
 clear h11;have h12:=pt_ F e;replace F:=pu_ F e;clear e
 refine sv_ gq29_1_4 (ym_ rfl (F.of h1)) fun a107 e=>?_
 have h13:=pt_ F e;replace F:=pu_ F e;replace h12:=so_ e h12;clear e
 have Y:(execOp a107.eval oq29_1_5).run Tryz.prog w0=.ok (.value (.tuple #[.pointer (some ⟨b1,0,none⟩),.bool true])) w0:=by have hl:=PoAt.look1 (HP.out.on K1) HF.out HK.out;unfold oq29_1_5;go_simp
 refine sv_ gq29_1_5 Y fun a108 e=>?_;clear Y
 clear h12 h13;have h14:=pt_ F e;replace F:=pu_ F e;clear e
 refine sv_ gq29_1_6 (ym_ rfl h14) fun a109 e=>?_
 clear h14;have h8:=pt_ F e;replace F:=pu_ F e;clear e
 refine sv_ gq29_1_7 (ye20_ rfl h8) fun a110 e=>?_
 have h15:=pt_ F e;replace F:=pu_ F e;replace h8:=so_ e h8;clear e
 refine sv_ gq29_1_8 (ye21_ rfl h8) fun a111 e=>?_
 clear h8;have h16:=pt_ F e;replace F:=pu_ F e;replace h15:=so_ e h15;clear e
 refine sv_ gq29_1_9 (ya_ rfl h15) fun a112 e=>?_
 clear h15;have h6:=pt_ F e;replace F:=pu_ F e;replace h16:=so_ e h16;clear e
 refine sv_ gq29_1_10 (ya_ rfl h16) fun a113 e=>?_
 clear h16;have h7:=pt_ F e;replace F:=pu_ F e;replace h6:=so_ e h6;clear e
 refine st_end ?_
 clear h0;clear h1;replace h4:=F.of h4;replace h5:=F.of h5;have R:=F.r;clear F
 change (cq29_4).wp _ _ _ _
 refine wp_seq (x:=cq29_5) (y:=cq29_12) ?_
 refine wp_seq (x:=cq29_6) (y:=cq29_7) ?_
 change (Code.region 2 Oq29_2 false).wp _ _ _ _
 refine reg_in (l:=[0,1]) rfl ?_
 have F:FE_ _ [] a113 a113:=⟨R,Ag_.refl _⟩;clear R
 refine sv_ gq29_2_0 (ym_ rfl (F.of h7)) fun a114 e=>?_
 have h17:=pt_ F e;replace F:=pu_ F e;clear e
 have Y:(execOp a114.eval oq29_2_1).run Tryz.prog w0=.ok (.value (.bool false)) w0:=by unfold oq29_2_1;go_simp
 refine sv_ gq29_2_1 Y fun a115 e=>?_;clear Y
 clear h17;have h18:=pt_ F e;replace F:=pu_ F e;clear e
 refine st_end ?_
 replace h4:=F.of h4;replace h5:=F.of h5;replace h6:=F.of h6;clear h7;have R:=F.r;clear F
 change (cq29_7).wp _ _ _ _
 refine wp_cond_false (x:=cq29_8) (y:=Code.skip) (eval_slot h18) ?_
 refine wp_skip ?_
 change (cq29_12).wp _ _ _ _
 refine wp_seq (x:=cq29_13) (y:=Code.ret) ?_
 change (Code.region 4 Oq29_4 false).wp _ _ _ _
 refine reg_in (l:=[0,1,2,3,4,5,6]) rfl ?_
 have F:FE_ _ [] a115 a115:=⟨R,Ag_.refl _⟩;clear R
 refine sv_ gq29_4_0 (ym_ rfl (F.of h6)) fun a116 e=>?_
 have h19:=pt_ F e;replace F:=pu_ F e;clear e
 have Y:(execOp a116.eval oq29_4_1).run Tryz.prog w0=.ok (.value (.pointer (some ⟨b1,0,none⟩))) w0:=by unfold oq29_4_1;go_simp
 refine sv_ gq29_4_1 Y fun a117 e=>?_;clear Y
 clear h19;have h20:=pt_ F e;replace F:=pu_ F e;clear e
 have Y:(execOp a117.eval oq29_4_2).run Tryz.prog w0=.ok (.value (.pointer (some ⟨b1,1,none⟩))) w0:=by unfold oq29_4_2;go_simp
 refine sv_ gq29_4_2 Y fun a118 e=>?_;clear Y
 clear h20;have h21:=pt_ F e;replace F:=pu_ F e;clear e
 have Y:(execOp a118.eval oq29_4_3).run Tryz.prog w0=.ok (.value (.slice va ps.length vc)) w0:=by have qq0:w0.cell? ⟨b1,0,none⟩=some (.int .i64 m):=B1.cell 0;have qq1:w0.cell? ⟨b1,1,none⟩=some (.slice va ps.length vc):=B1.cell 1;unfold oq29_4_3;go_simp
 refine sv_ gq29_4_3 Y fun a119 e=>?_;clear Y
 clear h21;have h22:=pt_ F e;replace F:=pu_ F e;clear e
 have Y:(execOp a119.eval oq29_4_4).run Tryz.prog w0=.ok (.value (.int .i64 ps.length)) w0:=by unfold oq29_4_4;go_simp
 refine sv_ gq29_4_4 Y fun a120 e=>?_;clear Y
 clear h22;have h23:=pt_ F e;replace F:=pu_ F e;clear e
 refine sv_ gq29_4_5 (ya_ rfl h23) fun a121 e=>?_
 clear h23 h4;have h4:=pt_ F e;replace F:=pu_ F e;clear e
 have Y:(execOp a121.eval oq29_4_6).run Tryz.prog w0=.ok (.value (.int .i64 0)) w0:=by unfold oq29_4_6;go_simp
 refine sv_ gq29_4_6 Y fun a122 e=>?_;clear Y
 clear h5;have h5:=pt_ F e;replace F:=pu_ F e;replace h4:=so_ e h4;clear e
 refine st_end ?_
 clear h6;clear h18;have R:=F.r;clear F
 change (Code.ret).wp _ _ _ _
 refine wp_ret ?_
 change bodyPost Tryz.prog Tryz.f10 (fun e w'=>e=.returned (.tuple #[.int .i64 (ps.length:Int),.int .i64 0])∧Keep (fun g=>g < W.heap.size) W w') .ret a122 w0
 refine ret_el2 rfl R.defers h4 h5 ?_
 exact ⟨rfl,K1⟩
section
variable {W:World} {B b0 mb n:Nat} {R:Nat→Prop} {made k er:Int} {f:Int→Option Qu} {q:Qu}
theorem len_no (h:PoAt B R W b0 mb made f n) (hk:(ik k).wf=true) (hf:f k=none):Calls Tryz.prog 10 #[.pointer (some ⟨b0,0,none⟩),.int .i64 k] W fun e w'=>e=.returned (.tuple #[.int .i64 0,.int .i64 140])∧Keep (fun g=>g < W.heap.size) W w':=by
  refine enter_sx Tryz.func10 bodyq29 rfl (by show (2:Nat) ≤ 24;decide) fun f0 R0 hs=>?_
  exact len_a R0 (hs 0 _ rfl) (hs 1 _ rfl) (Keep.refl _ W) h.head (Lib.hid h) (Lib.hid hk) (Lib.hid hf)
theorem len_yes (h:PoAt B R W b0 mb made f n) (hk:(ik k).wf=true) (hf:f k=some q):Calls Tryz.prog 10 #[.pointer (some ⟨b0,0,none⟩),.int .i64 k] W fun e w'=>e=.returned (.tuple #[.int .i64 (q.ps.length:Int),.int .i64 0])∧Keep (fun g=>g < W.heap.size) W w':=by
  refine enter_sx Tryz.func10 bodyq29 rfl (by show (2:Nat) ≤ 24;decide) fun f0 R0 hs=>?_
  obtain ⟨va,vc,e⟩:=h.cut hf
  rw [e] at hf
  exact len_b R0 (hs 0 _ rfl) (hs 1 _ rfl) (Keep.refl _ W) h.head (Lib.hid h) (Lib.hid hk) (h.qs k _ hf).box (Lib.hid hf)
end
def oq25_0_0:Oper:=⟨some 5,Op.box 28 (Operand.tmp 2),0, "post.go:64",#[],none⟩
def oq25_0_1:Oper:=⟨some 6,Op.alloc 28,0, "post.go:64",#[],none⟩
def oq25_0_2:Oper:=⟨some 7,Op.assign (Operand.const (Value.int IntKind.i64 0)),39, "post.go:64",#[],none⟩
def Oq25_0:Array Oper:=List.toArray (oq25_0_0::oq25_0_1::oq25_0_2::[])
theorem gq25_0_0:Oq25_0[0]? = some oq25_0_0:=rfl
theorem gq25_0_1:Oq25_0[1]? = some oq25_0_1:=rfl
theorem gq25_0_2:Oq25_0[2]? = some oq25_0_2:=rfl
def cq25_1:Code:=Code.region 0 Oq25_0 false
def oq25_1_0:Oper:=⟨some 14,Op.move (Operand.tmp 0),23, "post.go:65",#[],none⟩
def oq25_1_1:Oper:=⟨some 15,Op.move (Operand.tmp 1),3, "post.go:65",#[],none⟩
def oq25_1_2:Oper:=⟨some 16,Op.load 28 (Operand.tmp 5),28, "post.go:65",#[],none⟩
def oq25_1_3:Oper:=⟨some 17,Op.call { callee:=Callee.value (Operand.func 31),args:=#[Operand.tmp 14,Operand.tmp 15,Operand.tmp 16],argTypes:=#[23,3,28] },75, "post.go:65",#[ed_ 0,ed_ 1,ed_ 2],none⟩
def oq25_1_4:Oper:=⟨some 13,Op.move (Operand.tmp 17),75, "post.go:65",#[ed_ 3],none⟩
def oq25_1_5:Oper:=⟨some 18,Op.extract (Operand.tmp 13) 0,69, "post.go:65",#[ed_ 4],none⟩
def oq25_1_6:Oper:=⟨some 19,Op.extract (Operand.tmp 13) 1,3, "post.go:65",#[ed_ 4,{ on:=8,ground:=Go.Ground.gcOnly Go.Departure.lateStores }],none⟩
def oq25_1_7:Oper:=⟨some 20,Op.extract (Operand.tmp 13) 2,39, "post.go:65",#[ed_ 4,{ on:=9,ground:=Go.Ground.gcOnly Go.Departure.lateStores }],none⟩
def oq25_1_8:Oper:=⟨some 8,Op.assign (Operand.tmp 18),69, "post.go:65",#[ed_ 5,ec_ 3,ep_ 0,ep_ 1,ep_ 2,ep_ 3,ep_ 4,ep_ 5,{ on:=6,ground:=Go.Ground.textOnly Go.Departure.lateStores },{ on:=7,ground:=Go.Ground.textOnly Go.Departure.lateStores }],none⟩
def oq25_1_9:Oper:=⟨some 9,Op.assign (Operand.tmp 19),3, "post.go:65",#[ed_ 6,ec_ 8,ep_ 0,ep_ 1,ep_ 2,ep_ 3,ep_ 4,ep_ 5,ep_ 6,{ on:=7,ground:=Go.Ground.textOnly Go.Departure.lateStores },ep_ 8],none⟩
def oq25_1_10:Oper:=⟨some 10,Op.assign (Operand.tmp 20),39, "post.go:65",#[ed_ 7,ec_ 9,ep_ 0,ep_ 1,ep_ 2,ep_ 3,ep_ 4,ep_ 5,ep_ 6,ep_ 7,ep_ 8,ep_ 9],none⟩
def Oq25_1:Array Oper:=List.toArray (oq25_1_0::oq25_1_1::oq25_1_2::oq25_1_3::oq25_1_4::oq25_1_5::oq25_1_6::oq25_1_7::oq25_1_8::oq25_1_9::oq25_1_10::[])
theorem gq25_1_0:Oq25_1[0]? = some oq25_1_0:=rfl
theorem gq25_1_1:Oq25_1[1]? = some oq25_1_1:=rfl
theorem gq25_1_2:Oq25_1[2]? = some oq25_1_2:=rfl
theorem gq25_1_3:Oq25_1[3]? = some oq25_1_3:=rfl
theorem gq25_1_4:Oq25_1[4]? = some oq25_1_4:=rfl
theorem gq25_1_5:Oq25_1[5]? = some oq25_1_5:=rfl
theorem gq25_1_6:Oq25_1[6]? = some oq25_1_6:=rfl
theorem gq25_1_7:Oq25_1[7]? = some oq25_1_7:=rfl
theorem gq25_1_8:Oq25_1[8]? = some oq25_1_8:=rfl
theorem gq25_1_9:Oq25_1[9]? = some oq25_1_9:=rfl
theorem gq25_1_10:Oq25_1[10]? = some oq25_1_10:=rfl
def cq25_3:Code:=Code.region 1 Oq25_1 false
def oq25_2_0:Oper:=⟨some 21,Op.move (Operand.tmp 10),39, "post.go:66",#[],none⟩
def oq25_2_1:Oper:=⟨some 22,Op.binOp Go.BinOp.neq 39 (Operand.tmp 21) (Operand.const (Value.int IntKind.i64 0)) 39,4, "post.go:66",#[ed_ 0],none⟩
def Oq25_2:Array Oper:=List.toArray (oq25_2_0::oq25_2_1::[])
theorem gq25_2_0:Oq25_2[0]? = some oq25_2_0:=rfl
theorem gq25_2_1:Oq25_2[1]? = some oq25_2_1:=rfl
def cq25_6:Code:=Code.region 2 Oq25_2 false
def oq25_3_0:Oper:=⟨some 23,Op.build 28 #[],28, "post.go:67",#[],none⟩
def oq25_3_1:Oper:=⟨some 24,Op.move (Operand.tmp 10),39, "post.go:67",#[{ on:=2,ground:=Go.Ground.gcOnly Go.Departure.lateStores }],none⟩
def oq25_3_2:Oper:=⟨none,Op.store 28 (Operand.tmp 6) (Operand.tmp 23),0, "post.go:67",#[ed_ 0,ep_ 0,{ on:=1,ground:=Go.Ground.textOnly Go.Departure.lateStores }],none⟩
def oq25_3_3:Oper:=⟨some 7,Op.assign (Operand.tmp 24),39, "post.go:67",#[ed_ 1,ec_ 2,ep_ 0,ep_ 1,ep_ 2],none⟩
def Oq25_3:Array Oper:=List.toArray (oq25_3_0::oq25_3_1::oq25_3_2::oq25_3_3::[])
theorem gq25_3_0:Oq25_3[0]? = some oq25_3_0:=rfl
theorem gq25_3_1:Oq25_3[1]? = some oq25_3_1:=rfl
theorem gq25_3_2:Oq25_3[2]? = some oq25_3_2:=rfl
theorem gq25_3_3:Oq25_3[3]? = some oq25_3_3:=rfl
def cq25_9:Code:=Code.region 3 Oq25_3 false
def cq25_8:Code:=Code.seq cq25_9 Code.ret
def cq25_7:Code:=Code.cond (Operand.tmp 22) cq25_8 Code.skip
def cq25_5:Code:=Code.seq cq25_6 cq25_7
def oq25_4_0:Oper:=⟨some 26,Op.move (Operand.tmp 8),69, "post.go:69",#[],none⟩
def oq25_4_1:Oper:=⟨some 27,Op.nilCheck (Operand.tmp 26),0, "post.go:69",#[ed_ 0],none⟩
def oq25_4_2:Oper:=⟨some 28,Op.fieldAddr 72 (Operand.tmp 27) 1,0, "post.go:69",#[ed_ 1],none⟩
def oq25_4_3:Oper:=⟨some 29,Op.load 26 (Operand.tmp 28),26, "post.go:69",#[ed_ 2],none⟩
def oq25_4_4:Oper:=⟨some 30,Op.move (Operand.tmp 9),3, "post.go:69",#[],none⟩
def oq25_4_5:Oper:=⟨some 31,Op.indexAddr 26 (Operand.tmp 29) (Operand.tmp 30),0, "post.go:69",#[ed_ 3,ed_ 4],none⟩
def oq25_4_6:Oper:=⟨some 32,Op.load 28 (Operand.tmp 31),28, "post.go:69",#[ed_ 5],none⟩
def oq25_4_7:Oper:=⟨some 33,Op.call { callee:=Callee.value (Operand.func 30),args:=#[Operand.tmp 32,Operand.const (Value.int IntKind.i64 1)],argTypes:=#[28,2] },73, "post.go:69",#[ed_ 6],none⟩
def oq25_4_8:Oper:=⟨some 25,Op.move (Operand.tmp 33),73, "post.go:69",#[ed_ 7],none⟩
def oq25_4_9:Oper:=⟨some 34,Op.extract (Operand.tmp 25) 0,28, "post.go:69",#[ed_ 8],none⟩
def oq25_4_10:Oper:=⟨some 35,Op.extract (Operand.tmp 25) 1,2, "post.go:69",#[ed_ 8,{ on:=13,ground:=Go.Ground.gcOnly Go.Departure.lateStores }],none⟩
def oq25_4_11:Oper:=⟨some 36,Op.extract (Operand.tmp 25) 2,39, "post.go:69",#[ed_ 8,{ on:=14,ground:=Go.Ground.gcOnly Go.Departure.lateStores }],none⟩
def oq25_4_12:Oper:=⟨some 11,Op.alloc 28,0, "post.go:69",#[],none⟩
def oq25_4_13:Oper:=⟨none,Op.store 28 (Operand.tmp 11) (Operand.tmp 34),0, "post.go:69",#[ed_ 12,ed_ 9,ec_ 7,ep_ 0,ep_ 1,ep_ 2,ep_ 3,ep_ 4,ep_ 5,ep_ 6,ep_ 7,ep_ 8,ep_ 9,{ on:=10,ground:=Go.Ground.textOnly Go.Departure.lateStores },{ on:=11,ground:=Go.Ground.textOnly Go.Departure.lateStores },ep_ 12],none⟩
def oq25_4_14:Oper:=⟨some 12,Op.assign (Operand.tmp 35),2, "post.go:69",#[ed_ 10,ec_ 13,ep_ 0,ep_ 1,ep_ 2,ep_ 3,ep_ 4,ep_ 5,ep_ 6,ep_ 7,ep_ 8,ep_ 9,ep_ 10,{ on:=11,ground:=Go.Ground.textOnly Go.Departure.lateStores },ep_ 12,ep_ 13],none⟩
def oq25_4_15:Oper:=⟨some 10,Op.assign (Operand.tmp 36),39, "post.go:69",#[ed_ 11,ec_ 14,ep_ 0,ep_ 1,ep_ 2,ep_ 3,ep_ 4,ep_ 5,ep_ 6,ep_ 7,ep_ 8,ep_ 9,ep_ 10,ep_ 11,ep_ 12,ep_ 13,ep_ 14],none⟩
def Oq25_4:Array Oper:=List.toArray (oq25_4_0::oq25_4_1::oq25_4_2::oq25_4_3::oq25_4_4::oq25_4_5::oq25_4_6::oq25_4_7::oq25_4_8::oq25_4_9::oq25_4_10::oq25_4_11::oq25_4_12::oq25_4_13::oq25_4_14::oq25_4_15::[])
theorem gq25_4_0:Oq25_4[0]? = some oq25_4_0:=rfl
theorem gq25_4_1:Oq25_4[1]? = some oq25_4_1:=rfl
theorem gq25_4_2:Oq25_4[2]? = some oq25_4_2:=rfl
theorem gq25_4_3:Oq25_4[3]? = some oq25_4_3:=rfl
theorem gq25_4_4:Oq25_4[4]? = some oq25_4_4:=rfl
theorem gq25_4_5:Oq25_4[5]? = some oq25_4_5:=rfl
theorem gq25_4_6:Oq25_4[6]? = some oq25_4_6:=rfl
theorem gq25_4_7:Oq25_4[7]? = some oq25_4_7:=rfl
theorem gq25_4_8:Oq25_4[8]? = some oq25_4_8:=rfl
theorem gq25_4_9:Oq25_4[9]? = some oq25_4_9:=rfl
theorem gq25_4_10:Oq25_4[10]? = some oq25_4_10:=rfl
theorem gq25_4_11:Oq25_4[11]? = some oq25_4_11:=rfl
theorem gq25_4_12:Oq25_4[12]? = some oq25_4_12:=rfl
theorem gq25_4_13:Oq25_4[13]? = some oq25_4_13:=rfl
theorem gq25_4_14:Oq25_4[14]? = some oq25_4_14:=rfl
theorem gq25_4_15:Oq25_4[15]? = some oq25_4_15:=rfl
def cq25_13:Code:=Code.region 4 Oq25_4 false
def oq25_5_0:Oper:=⟨some 37,Op.load 28 (Operand.tmp 11),28, "post.go:70",#[],none⟩
def oq25_5_1:Oper:=⟨some 38,Op.move (Operand.tmp 10),39, "post.go:70",#[{ on:=2,ground:=Go.Ground.gcOnly Go.Departure.lateStores }],none⟩
def oq25_5_2:Oper:=⟨none,Op.store 28 (Operand.tmp 6) (Operand.tmp 37),0, "post.go:70",#[ed_ 0,ep_ 0,{ on:=1,ground:=Go.Ground.textOnly Go.Departure.lateStores }],none⟩
def oq25_5_3:Oper:=⟨some 7,Op.assign (Operand.tmp 38),39, "post.go:70",#[ed_ 1,ec_ 2,ep_ 0,ep_ 1,ep_ 2],none⟩
def Oq25_5:Array Oper:=List.toArray (oq25_5_0::oq25_5_1::oq25_5_2::oq25_5_3::[])
theorem gq25_5_0:Oq25_5[0]? = some oq25_5_0:=rfl
theorem gq25_5_1:Oq25_5[1]? = some oq25_5_1:=rfl
theorem gq25_5_2:Oq25_5[2]? = some oq25_5_2:=rfl
theorem gq25_5_3:Oq25_5[3]? = some oq25_5_3:=rfl
def cq25_15:Code:=Code.region 5 Oq25_5 false
def cq25_14:Code:=Code.seq cq25_15 Code.ret
def cq25_12:Code:=Code.seq cq25_13 cq25_14
def cq25_4:Code:=Code.seq cq25_5 cq25_12
def cq25_2:Code:=Code.seq cq25_3 cq25_4
def cq25_0:Code:=Code.seq cq25_1 cq25_2
theorem bodyq25:Tryz.f18.body=some cq25_0:=by kernel_rfl
set_option maxRecDepth 100000 in
set_option maxHeartbeats 4000000 in
theorem peek_a {W:World} {B b0 mb n:Nat} {RR:Nat→Prop} {made k:Int} {f:Int→Option Qu} {t:Tm} {a:Option Addr} {c:Nat} {er:Int} {f0:Act} {w0:World} (R:FrS 39 f0) (h0:f0.tmps[0]? = some (.pointer (some ⟨b0,0,none⟩))) (h1:f0.tmps[1]? = some (.int .i64 k)) (h2:f0.tmps[2]? = some (.agg #[.int .i64 t.k,.string (str t.nm),.int .i64 t.i,.slice a t.args.length c])) (K1:Keep (fun g=>g < W.heap.size) W w0)  (B0:Blk w0 b0 48 #[.int .i64 made,.map (some mb)]) (HP:Hid (PoAt B RR W b0 mb made f n)) (HK:Hid ((ik k).wf=true)) (HT:Hid (TmAt W.heap.size W t a c)) (HC:Hid (NoMsg f k t er)) (HNE:Hid (¬ er=0)):cq25_0.wp Tryz.prog (bodyPost Tryz.prog Tryz.f18 (fun e w'=>e=.returned (.tuple #[.agg #[.int .i64 0,.string ⟨#[]⟩,.int .i64 0,.slice none 0 0],.int .i64 er])∧Keep (fun g=>g < W.heap.size) W w')) f0 w0:=by
 refine wp_seq (x:=cq25_1) (y:=cq25_2) ?_
 change (Code.region 0 Oq25_0 false).wp _ _ _ _
 refine reg_in (l:=[0,1,2]) rfl ?_
 have F:FE_ _ [] f0 f0:=⟨R,Ag_.refl _⟩;clear R
 have Y:(execOp f0.eval oq25_0_0).run Tryz.prog w0=.ok (.value (.pointer (some ⟨w0.heap.size,0,none⟩))) (w0.alloc (.cells #[.int .i64 t.k,.string (str t.nm),.int .i64 t.i,.slice a t.args.length c] 28)):=by have r2:=F.of h2;unfold oq25_0_0;go_simp
 have B101:=Blk.new w0 28 #[.int .i64 t.k,.string (str t.nm),.int .i64 t.i,.slice a t.args.length c]
 obtain ⟨w102,hw⟩:∃ x,x=w0.alloc (.cells #[.int .i64 t.k,.string (str t.nm),.int .i64 t.i,.slice a t.args.length c] 28):=⟨_,rfl⟩;rw [← hw] at Y B101
 obtain ⟨b101,hb⟩:∃ x,x=w0.heap.size:=⟨_,rfl⟩;rw [← hb] at Y B101
 have Nb0_b101:=nb_ hb B0;replace B0:=ba_ hw B0;have LK1_b101:=lk_ hb K1;replace K1:=ka_ hw K1;clear hw hb
 refine sv_ gq25_0_0 Y fun a103 e=>?_;clear Y
 have h5:=pt_ F e;replace F:=pu_ F e;clear e
 have Y:(execOp a103.eval oq25_0_1).run Tryz.prog w102=.ok (.value (.pointer (some ⟨w102.heap.size,0,none⟩))) (w102.alloc (.cells #[.int .i64 0,.string (⟨#[]⟩),.int .i64 0,.slice none 0 0] 28)):=by unfold oq25_0_1;go_simp
 have B104:=Blk.new w102 28 #[.int .i64 0,.string (⟨#[]⟩),.int .i64 0,.slice none 0 0]
 obtain ⟨w105,hw⟩:∃ x,x=w102.alloc (.cells #[.int .i64 0,.string (⟨#[]⟩),.int .i64 0,.slice none 0 0] 28):=⟨_,rfl⟩;rw [← hw] at Y B104
 obtain ⟨b104,hb⟩:∃ x,x=w102.heap.size:=⟨_,rfl⟩;rw [← hb] at Y B104
 have Nb0_b104:=nb_ hb B0;replace B0:=ba_ hw B0;have Nb101_b104:=nb_ hb B101;replace B101:=ba_ hw B101;have LK1_b104:=lk_ hb K1;replace K1:=ka_ hw K1;clear hw hb
 refine sv_ gq25_0_1 Y fun a106 e=>?_;clear Y
 have h6:=pt_ F e;replace F:=pu_ F e;replace h5:=so_ e h5;clear e
 have Y:(execOp a106.eval oq25_0_2).run Tryz.prog w105=.ok (.value (.int .i64 0)) w105:=by unfold oq25_0_2;go_simp
 refine sv_ gq25_0_2 Y fun a107 e=>?_;clear Y
 have h7:=pt_ F e;replace F:=pu_ F e;replace h5:=so_ e h5;replace h6:=so_ e h6;clear e
 refine st_end ?_
 replace h0:=F.of h0;replace h1:=F.of h1;clear h2;have R:=F.r;clear F
 change (cq25_2).wp _ _ _ _
 refine wp_seq (x:=cq25_3) (y:=cq25_4) ?_
 change (Code.region 1 Oq25_1 false).wp _ _ _ _
 refine reg_in (l:=[0,1,2,3,4,5,6,7,8,9,10]) rfl ?_
 have F:FE_ _ [] a107 a107:=⟨R,Ag_.refl _⟩;clear R
 refine sv_ gq25_1_0 (ym_ rfl (F.of h0)) fun a108 e=>?_
 have h14:=pt_ F e;replace F:=pu_ F e;clear e
 refine sv_ gq25_1_1 (ym_ rfl (F.of h1)) fun a109 e=>?_
 have h15:=pt_ F e;replace F:=pu_ F e;replace h14:=so_ e h14;clear e
 refine sv_ gq25_1_2 (yl4_ rfl (F.of h5) B101) fun a110 e=>?_
 have h16:=pt_ F e;replace F:=pu_ F e;replace h14:=so_ e h14;replace h15:=so_ e h15;clear e
 have Y:(execOp a110.eval oq25_1_3).run Tryz.prog w105=.ok (.enter 31 #[.pointer (some ⟨b0,0,none⟩),.int .i64 k,.agg #[.int .i64 t.k,.string (str t.nm),.int .i64 t.i,.slice a t.args.length c]]) w105:=by unfold oq25_1_3;go_simp
 refine st_call gq25_1_3 rfl (wanted_free rfl) Y ((find_no (HP.out.on K1) HK.out (HT.out.on K1) HC.out).mono ?_);clear Y
 rintro e9 w111 ⟨rfl,kk⟩
 replace K1:=keep_onto K1 kk
 replace B0:=blk_on B0 kk
 replace B101:=blk_on B101 kk
 replace B104:=blk_on B104 kk
 clear kk
 refine ⟨_,rfl,fun a112 e=>?_⟩
 clear h14 h15 h16;have h17:=pt_ F e;replace F:=pu_ F e;clear e
 refine sv_ gq25_1_4 (ym_ rfl h17) fun a113 e=>?_
 clear h17;have h13:=pt_ F e;replace F:=pu_ F e;clear e
 refine sv_ gq25_1_5 (ye30_ rfl h13) fun a114 e=>?_
 have h18:=pt_ F e;replace F:=pu_ F e;replace h13:=so_ e h13;clear e
 refine sv_ gq25_1_6 (ye31_ rfl h13) fun a115 e=>?_
 have h19:=pt_ F e;replace F:=pu_ F e;replace h13:=so_ e h13;replace h18:=so_ e h18;clear e
 refine sv_ gq25_1_7 (ye32_ rfl h13) fun a116 e=>?_
 clear h13;have h20:=pt_ F e;replace F:=pu_ F e;replace h18:=so_ e h18;replace h19:=so_ e h19;clear e
 refine sv_ gq25_1_8 (ya_ rfl h18) fun a117 e=>?_
 clear h18;have h8:=pt_ F e;replace F:=pu_ F e;replace h19:=so_ e h19;replace h20:=so_ e h20;clear e
 refine sv_ gq25_1_9 (ya_ rfl h19) fun a118 e=>?_
 clear h19;have h9:=pt_ F e;replace F:=pu_ F e;replace h8:=so_ e h8;replace h20:=so_ e h20;clear e
 refine sv_ gq25_1_10 (ya_ rfl h20) fun a119 e=>?_
 clear h20;have h10:=pt_ F e;replace F:=pu_ F e;replace h8:=so_ e h8;replace h9:=so_ e h9;clear e
 refine st_end ?_
 clear h0;clear h1;clear h5;replace h6:=F.of h6;replace h7:=F.of h7;have R:=F.r;clear F
 change (cq25_4).wp _ _ _ _
 refine wp_seq (x:=cq25_5) (y:=cq25_12) ?_
 refine wp_seq (x:=cq25_6) (y:=cq25_7) ?_
 change (Code.region 2 Oq25_2 false).wp _ _ _ _
 refine reg_in (l:=[0,1]) rfl ?_
 have F:FE_ _ [] a119 a119:=⟨R,Ag_.refl _⟩;clear R
 refine sv_ gq25_2_0 (ym_ rfl (F.of h10)) fun a120 e=>?_
 have h21:=pt_ F e;replace F:=pu_ F e;clear e
 have Y:(execOp a120.eval oq25_2_1).run Tryz.prog w111=.ok (.value (.bool true)) w111:=by have hne:=HNE.out;unfold oq25_2_1;go_simp
 refine sv_ gq25_2_1 Y fun a121 e=>?_;clear Y
 clear h21;have h22:=pt_ F e;replace F:=pu_ F e;clear e
 refine st_end ?_
 replace h6:=F.of h6;replace h7:=F.of h7;replace h8:=F.of h8;replace h9:=F.of h9;replace h10:=F.of h10;have R:=F.r;clear F
 change (cq25_7).wp _ _ _ _
 refine wp_cond_true (x:=cq25_8) (y:=Code.skip) (eval_slot h22) ?_
 refine wp_seq (x:=cq25_9) (y:=Code.ret) ?_
 change (Code.region 3 Oq25_3 false).wp _ _ _ _
 refine reg_in (l:=[0,1,2,3]) rfl ?_
 have F:FE_ _ [] a121 a121:=⟨R,Ag_.refl _⟩;clear R
 have Y:(execOp a121.eval oq25_3_0).run Tryz.prog w111=.ok (.value (.agg #[.int .i64 0,.string (⟨#[]⟩),.int .i64 0,.slice none 0 0])) w111:=by unfold oq25_3_0;go_simp
 refine sv_ gq25_3_0 Y fun a122 e=>?_;clear Y
 have h23:=pt_ F e;replace F:=pu_ F e;clear e
 refine sv_ gq25_3_1 (ym_ rfl (F.of h10)) fun a123 e=>?_
 have h24:=pt_ F e;replace F:=pu_ F e;replace h23:=so_ e h23;clear e
 obtain ⟨w124,Y,hk,hB⟩:=ys4_ (o:=oq25_3_2) rfl (F.of h6) h23 B104
 replace K1:=kx_ hk K1 (Nat.not_lt.2 LK1_b104);replace B0:=bx_ hk B0 Nb0_b104;replace B101:=bx_ hk B101 Nb101_b104;clear B104;have B104:=hB;clear hB hk
 refine st_skip gq25_3_2 rfl (wanted_free rfl) Y ?_;clear Y
 refine sv_ gq25_3_3 (ya_ rfl h24) fun a125 e=>?_
 clear h23 h24 h7;have h7:=pt_ F e;replace F:=pu_ F e;clear e
 refine st_end ?_
 replace h6:=F.of h6;replace h8:=F.of h8;replace h9:=F.of h9;replace h10:=F.of h10;clear h22;have R:=F.r;clear F
 change (Code.ret).wp _ _ _ _
 refine wp_ret ?_
 change bodyPost Tryz.prog Tryz.f18 (fun e w'=>e=.returned (.tuple #[.agg #[.int .i64 0,.string ⟨#[]⟩,.int .i64 0,.slice none 0 0],.int .i64 er])∧Keep (fun g=>g < W.heap.size) W w') .ret a125 w124
 refine ret_cell_tmp (fn:=Tryz.f18) rfl R h6 h7 B104 ?_
 exact ⟨rfl,K1⟩
theorem fr_from {w w':World} {lo lo':Nat} {t:Tm} {a:Option Addr} {c:Nat} (h:Fr 0 (fun _=>False) w lo w.heap.size t a c) (k:Keep (fun g=>lo ≤ g∧g < w.heap.size) w w') (hl:lo' ≤ lo):Fr 0 (fun _=>False) w' lo' w'.heap.size t a c :=
  (h.keepR (k.at_ (Y:=fun g=>lo ≤ g) fun g h1 h2=>⟨h2,h1⟩) fun g hg=>by rcases hg with hg | hg;omega;exact hg.1).up k.size hl
theorem keep_onto' {w W V:World} {L:Nat} (h:Keep (fun g=>g < w.heap.size) w W) (k:Keep (fun g=>g < L) W V) (hl:w.heap.size ≤ L:=by assumption):Keep (fun g=>g < w.heap.size) w V:=h.trans (k.less (fun g hg=>Nat.lt_of_lt_of_le hg hl))
set_option maxRecDepth 100000 in
set_option maxHeartbeats 4000000 in
theorem peek_b {W:World} {B b0 mb n:Nat} {RR:Nat→Prop} {made k:Int} {f:Int→Option Qu} {b1 vc:Nat} {m:Int} {va:Option Addr} {ps:List TP} {t:Tm} {a:Option Addr} {c:Nat} {j:Nat} {p:TP} {f0:Act} {w0:World} (R:FrS 39 f0) (h0:f0.tmps[0]? = some (.pointer (some ⟨b0,0,none⟩))) (h1:f0.tmps[1]? = some (.int .i64 k)) (h2:f0.tmps[2]? = some (.agg #[.int .i64 t.k,.string (str t.nm),.int .i64 t.i,.slice a t.args.length c])) (K1:Keep (fun g=>g < W.heap.size) W w0)  (B0:Blk w0 b0 48 #[.int .i64 made,.map (some mb)]) (HP:Hid (PoAt B RR W b0 mb made f n)) (HK:Hid ((ik k).wf=true)) (B1:Blk w0 b1 72 #[.int .i64 m,.slice va ps.length vc]) (HF:Hid (f k=some ⟨b1,m,.slice va ps.length vc,ps⟩)) (HT:Hid (TmAt W.heap.size W t a c)) (HC:Hid (IsMsg ⟨b1,m,.slice va ps.length vc,ps⟩ t j p)):cq25_0.wp Tryz.prog (bodyPost Tryz.prog Tryz.f18 (fun e w'=>∃ a' c',e=.returned (.tuple #[tv p.1 a' c',.int .i64 0])∧Fr 0 (fun _=>False) w' W.heap.size w'.heap.size p.1 a' c'∧Keep (fun g=>g < W.heap.size) W w')) f0 w0:=by
 refine wp_seq (x:=cq25_1) (y:=cq25_2) ?_
 change (Code.region 0 Oq25_0 false).wp _ _ _ _
 refine reg_in (l:=[0,1,2]) rfl ?_
 have F:FE_ _ [] f0 f0:=⟨R,Ag_.refl _⟩;clear R
 have Y:(execOp f0.eval oq25_0_0).run Tryz.prog w0=.ok (.value (.pointer (some ⟨w0.heap.size,0,none⟩))) (w0.alloc (.cells #[.int .i64 t.k,.string (str t.nm),.int .i64 t.i,.slice a t.args.length c] 28)):=by have r2:=F.of h2;unfold oq25_0_0;go_simp
 have B101:=Blk.new w0 28 #[.int .i64 t.k,.string (str t.nm),.int .i64 t.i,.slice a t.args.length c]
 obtain ⟨w102,hw⟩:∃ x,x=w0.alloc (.cells #[.int .i64 t.k,.string (str t.nm),.int .i64 t.i,.slice a t.args.length c] 28):=⟨_,rfl⟩;rw [← hw] at Y B101
 obtain ⟨b101,hb⟩:∃ x,x=w0.heap.size:=⟨_,rfl⟩;rw [← hb] at Y B101
 have Nb0_b101:=nb_ hb B0;replace B0:=ba_ hw B0;have Nb1_b101:=nb_ hb B1;replace B1:=ba_ hw B1;have LK1_b101:=lk_ hb K1;replace K1:=ka_ hw K1;clear hw hb
 refine sv_ gq25_0_0 Y fun a103 e=>?_;clear Y
 have h5:=pt_ F e;replace F:=pu_ F e;clear e
 have Y:(execOp a103.eval oq25_0_1).run Tryz.prog w102=.ok (.value (.pointer (some ⟨w102.heap.size,0,none⟩))) (w102.alloc (.cells #[.int .i64 0,.string (⟨#[]⟩),.int .i64 0,.slice none 0 0] 28)):=by unfold oq25_0_1;go_simp
 have B104:=Blk.new w102 28 #[.int .i64 0,.string (⟨#[]⟩),.int .i64 0,.slice none 0 0]
 obtain ⟨w105,hw⟩:∃ x,x=w102.alloc (.cells #[.int .i64 0,.string (⟨#[]⟩),.int .i64 0,.slice none 0 0] 28):=⟨_,rfl⟩;rw [← hw] at Y B104
 obtain ⟨b104,hb⟩:∃ x,x=w102.heap.size:=⟨_,rfl⟩;rw [← hb] at Y B104
 have Nb0_b104:=nb_ hb B0;replace B0:=ba_ hw B0;have Nb1_b104:=nb_ hb B1;replace B1:=ba_ hw B1;have Nb101_b104:=nb_ hb B101;replace B101:=ba_ hw B101;have LK1_b104:=lk_ hb K1;replace K1:=ka_ hw K1;clear hw hb
 refine sv_ gq25_0_1 Y fun a106 e=>?_;clear Y
 have h6:=pt_ F e;replace F:=pu_ F e;replace h5:=so_ e h5;clear e
 have Y:(execOp a106.eval oq25_0_2).run Tryz.prog w105=.ok (.value (.int .i64 0)) w105:=by unfold oq25_0_2;go_simp
 refine sv_ gq25_0_2 Y fun a107 e=>?_;clear Y
 have h7:=pt_ F e;replace F:=pu_ F e;replace h5:=so_ e h5;replace h6:=so_ e h6;clear e
 refine st_end ?_
 replace h0:=F.of h0;replace h1:=F.of h1;clear h2;have R:=F.r;clear F
 change (cq25_2).wp _ _ _ _
 refine wp_seq (x:=cq25_3) (y:=cq25_4) ?_
 change (Code.region 1 Oq25_1 false).wp _ _ _ _
 refine reg_in (l:=[0,1,2,3,4,5,6,7,8,9,10]) rfl ?_
 have F:FE_ _ [] a107 a107:=⟨R,Ag_.refl _⟩;clear R
 refine sv_ gq25_1_0 (ym_ rfl (F.of h0)) fun a108 e=>?_
 have h14:=pt_ F e;replace F:=pu_ F e;clear e
 refine sv_ gq25_1_1 (ym_ rfl (F.of h1)) fun a109 e=>?_
 have h15:=pt_ F e;replace F:=pu_ F e;replace h14:=so_ e h14;clear e
 refine sv_ gq25_1_2 (yl4_ rfl (F.of h5) B101) fun a110 e=>?_
 have h16:=pt_ F e;replace F:=pu_ F e;replace h14:=so_ e h14;replace h15:=so_ e h15;clear e
 have Y:(execOp a110.eval oq25_1_3).run Tryz.prog w105=.ok (.enter 31 #[.pointer (some ⟨b0,0,none⟩),.int .i64 k,.agg #[.int .i64 t.k,.string (str t.nm),.int .i64 t.i,.slice a t.args.length c]]) w105:=by unfold oq25_1_3;go_simp
 refine st_call gq25_1_3 rfl (wanted_free rfl) Y ((find_yes (HP.out.on K1) HK.out (HT.out.on K1) HF.out HC.out).mono ?_);clear Y
 rintro e9 w111 ⟨rfl,kk⟩
 replace K1:=keep_onto K1 kk
 replace B0:=blk_on B0 kk
 replace B1:=blk_on B1 kk
 replace B101:=blk_on B101 kk
 replace B104:=blk_on B104 kk
 clear kk
 refine ⟨_,rfl,fun a112 e=>?_⟩
 clear h14 h15 h16;have h17:=pt_ F e;replace F:=pu_ F e;clear e
 refine sv_ gq25_1_4 (ym_ rfl h17) fun a113 e=>?_
 clear h17;have h13:=pt_ F e;replace F:=pu_ F e;clear e
 refine sv_ gq25_1_5 (ye30_ rfl h13) fun a114 e=>?_
 have h18:=pt_ F e;replace F:=pu_ F e;replace h13:=so_ e h13;clear e
 refine sv_ gq25_1_6 (ye31_ rfl h13) fun a115 e=>?_
 have h19:=pt_ F e;replace F:=pu_ F e;replace h13:=so_ e h13;replace h18:=so_ e h18;clear e
 refine sv_ gq25_1_7 (ye32_ rfl h13) fun a116 e=>?_
 clear h13;have h20:=pt_ F e;replace F:=pu_ F e;replace h18:=so_ e h18;replace h19:=so_ e h19;clear e
 refine sv_ gq25_1_8 (ya_ rfl h18) fun a117 e=>?_
 clear h18;have h8:=pt_ F e;replace F:=pu_ F e;replace h19:=so_ e h19;replace h20:=so_ e h20;clear e
 refine sv_ gq25_1_9 (ya_ rfl h19) fun a118 e=>?_
 clear h19;have h9:=pt_ F e;replace F:=pu_ F e;replace h8:=so_ e h8;replace h20:=so_ e h20;clear e
 refine sv_ gq25_1_10 (ya_ rfl h20) fun a119 e=>?_
 clear h20;have h10:=pt_ F e;replace F:=pu_ F e;replace h8:=so_ e h8;replace h9:=so_ e h9;clear e
 refine st_end ?_
 clear h0;clear h1;clear h5;replace h6:=F.of h6;replace h7:=F.of h7;have R:=F.r;clear F
 change (cq25_4).wp _ _ _ _
 refine wp_seq (x:=cq25_5) (y:=cq25_12) ?_
 refine wp_seq (x:=cq25_6) (y:=cq25_7) ?_
 change (Code.region 2 Oq25_2 false).wp _ _ _ _
 refine reg_in (l:=[0,1]) rfl ?_
 have F:FE_ _ [] a119 a119:=⟨R,Ag_.refl _⟩;clear R
 refine sv_ gq25_2_0 (ym_ rfl (F.of h10)) fun a120 e=>?_
 have h21:=pt_ F e;replace F:=pu_ F e;clear e
 have Y:(execOp a120.eval oq25_2_1).run Tryz.prog w111=.ok (.value (.bool false)) w111:=by unfold oq25_2_1;go_simp
 refine sv_ gq25_2_1 Y fun a121 e=>?_;clear Y
 clear h21;have h22:=pt_ F e;replace F:=pu_ F e;clear e
 refine st_end ?_
 replace h6:=F.of h6;replace h7:=F.of h7;replace h8:=F.of h8;replace h9:=F.of h9;replace h10:=F.of h10;have R:=F.r;clear F
 change (cq25_7).wp _ _ _ _
 refine wp_cond_false (x:=cq25_8) (y:=Code.skip) (eval_slot h22) ?_
 refine wp_skip ?_
 change (cq25_12).wp _ _ _ _
 refine wp_seq (x:=cq25_13) (y:=cq25_14) ?_
 change (Code.region 4 Oq25_4 false).wp _ _ _ _
 refine reg_in (l:=[0,1,2,3,4,5,6,7,8,9,10,11,12,13,14,15]) rfl ?_
 have F:FE_ _ [] a121 a121:=⟨R,Ag_.refl _⟩;clear R
 refine sv_ gq25_4_0 (ym_ rfl (F.of h8)) fun a122 e=>?_
 have h26:=pt_ F e;replace F:=pu_ F e;clear e
 have Y:(execOp a122.eval oq25_4_1).run Tryz.prog w111=.ok (.value (.pointer (some ⟨b1,0,none⟩))) w111:=by unfold oq25_4_1;go_simp
 refine sv_ gq25_4_1 Y fun a123 e=>?_;clear Y
 clear h26;have h27:=pt_ F e;replace F:=pu_ F e;clear e
 have Y:(execOp a123.eval oq25_4_2).run Tryz.prog w111=.ok (.value (.pointer (some ⟨b1,1,none⟩))) w111:=by unfold oq25_4_2;go_simp
 refine sv_ gq25_4_2 Y fun a124 e=>?_;clear Y
 clear h27;have h28:=pt_ F e;replace F:=pu_ F e;clear e
 have Y:(execOp a124.eval oq25_4_3).run Tryz.prog w111=.ok (.value (.slice va ps.length vc)) w111:=by have qq0:w111.cell? ⟨b1,0,none⟩=some (.int .i64 m):=B1.cell 0;have qq1:w111.cell? ⟨b1,1,none⟩=some (.slice va ps.length vc):=B1.cell 1;unfold oq25_4_3;go_simp
 refine sv_ gq25_4_3 Y fun a125 e=>?_;clear Y
 clear h28;have h29:=pt_ F e;replace F:=pu_ F e;clear e
 refine sv_ gq25_4_4 (ym_ rfl (F.of h9)) fun a126 e=>?_
 have h30:=pt_ F e;replace F:=pu_ F e;replace h29:=so_ e h29;clear e
 have hp:=HC.out.2.1;simp only at hp
 have hjl:j < ps.length:=(List.getElem?_eq_some_iff.1 hp).1
 obtain ⟨bA,oA,hsA,-⟩:=tmsl_addr (HP.out.qs k _ HF.out).tmsl hjl
 have hltA:(j:Int) < (ps.length:Int):=by omega
 have HPJ:=Lib.hid hp;clear hp;have HSA:=Lib.hid hsA;clear hsA
 have Y:(execOp a126.eval oq25_4_5).run Tryz.prog w111=.ok (.value (.pointer (some ⟨bA,oA + j * 4,none⟩))) w111:=by have hA:=HSA.out;unfold oq25_4_5;go_simp
 refine sv_ gq25_4_5 Y fun a127 e=>?_;clear Y
 clear h29 h30;have h31:=pt_ F e;replace F:=pu_ F e;clear e
 have Y:(execOp a127.eval oq25_4_6).run Tryz.prog w111=.ok (.value (.agg #[.int .i64 p.1.k,.string (str p.1.nm),.int .i64 p.1.i,.slice p.2.1 p.1.args.length p.2.2])) w111:=by obtain ⟨⟨c0,c1,c2,c3⟩,-⟩:=tmsl_at ((HP.out.on K1).qs k _ HF.out).tmsl HSA.out HPJ.out;unfold oq25_4_6;go_simp
 refine sv_ gq25_4_6 Y fun a128 e=>?_;clear Y
 clear h31;have h32:=pt_ F e;replace F:=pu_ F e;clear e
 have Y:(execOp a128.eval oq25_4_7).run Tryz.prog w111=.ok (.enter 30 #[.agg #[.int .i64 p.1.k,.string (str p.1.nm),.int .i64 p.1.i,.slice p.2.1 p.1.args.length p.2.2],.int .i64 1]) w111:=by unfold oq25_4_7;go_simp
 obtain ⟨LO,hLO⟩:∃ q,q=w111.heap.size:=⟨_,rfl⟩
 have Eb0:b0 < LO:=by rw [hLO];exact B0.lt
 have Eb1:b1 < LO:=by rw [hLO];exact B1.lt
 have Eb101:b101 < LO:=by rw [hLO];exact B101.lt
 have Eb104:b104 < LO:=by rw [hLO];exact B104.lt
 have HWL:W.heap.size ≤ LO:=by rw [hLO];exact K1.size
 have hcall:=rename_fr' (m:=1) (tmsl_at ((HP.out.on K1).qs k _ HF.out).tmsl HSA.out HPJ.out).2 (ik_wf (by decide) (by decide)) (msg_ren ((HP.out.qs k _ HF.out).ren p (List.mem_of_getElem? HPJ.out)))
 rw [← hLO] at hcall;clear hLO
 refine st_call gq25_4_7 rfl (wanted_free rfl) Y ((hcall).mono ?_);clear Y
 rintro e9 w129 ⟨au,cu,rfl,hfr,kk⟩
 replace K1:=keep_onto' K1 kk
 replace B0:=B0.keep kk Eb0
 replace B1:=B1.keep kk Eb1
 replace B101:=B101.keep kk Eb101
 replace B104:=B104.keep kk Eb104
 clear kk
 have HFR:=Lib.hid hfr;clear hfr
 have KU:=Keep.refl (fun g=>LO ≤ g∧g < w129.heap.size) w129
 refine ⟨_,rfl,fun a130 e=>?_⟩
 clear h32;have h33:=pt_ F e;replace F:=pu_ F e;clear e
 refine sv_ gq25_4_8 (ym_ rfl h33) fun a131 e=>?_
 clear h33;have h25:=pt_ F e;replace F:=pu_ F e;clear e
 refine sv_ gq25_4_9 (ye30_ rfl h25) fun a132 e=>?_
 have h34:=pt_ F e;replace F:=pu_ F e;replace h25:=so_ e h25;clear e
 refine sv_ gq25_4_10 (ye31_ rfl h25) fun a133 e=>?_
 have h35:=pt_ F e;replace F:=pu_ F e;replace h25:=so_ e h25;replace h34:=so_ e h34;clear e
 refine sv_ gq25_4_11 (ye32_ rfl h25) fun a134 e=>?_
 clear h25;have h36:=pt_ F e;replace F:=pu_ F e;replace h34:=so_ e h34;replace h35:=so_ e h35;clear e
 have Y:(execOp a134.eval oq25_4_12).run Tryz.prog w129=.ok (.value (.pointer (some ⟨w129.heap.size,0,none⟩))) (w129.alloc (.cells #[.int .i64 0,.string (⟨#[]⟩),.int .i64 0,.slice none 0 0] 28)):=by unfold oq25_4_12;go_simp
 have B135:=Blk.new w129 28 #[.int .i64 0,.string (⟨#[]⟩),.int .i64 0,.slice none 0 0]
 obtain ⟨w136,hw⟩:∃ x,x=w129.alloc (.cells #[.int .i64 0,.string (⟨#[]⟩),.int .i64 0,.slice none 0 0] 28):=⟨_,rfl⟩;rw [← hw] at Y B135
 obtain ⟨b135,hb⟩:∃ x,x=w129.heap.size:=⟨_,rfl⟩;rw [← hb] at Y B135
 have Nb0_b135:=nb_ hb B0;replace B0:=ba_ hw B0;have Nb1_b135:=nb_ hb B1;replace B1:=ba_ hw B1;have Nb101_b135:=nb_ hb B101;replace B101:=ba_ hw B101;have Nb104_b135:=nb_ hb B104;replace B104:=ba_ hw B104;have LK1_b135:=lk_ hb K1;replace K1:=ka_ hw K1;have LKU_b135:=lk_ hb KU;replace KU:=ka_ hw KU;clear hw hb
 refine sv_ gq25_4_12 Y fun a137 e=>?_;clear Y
 have h11:=pt_ F e;replace F:=pu_ F e;replace h34:=so_ e h34;replace h35:=so_ e h35;replace h36:=so_ e h36;clear e
 obtain ⟨w138,Y,hk,hB⟩:=ys4_ (o:=oq25_4_13) rfl h11 h34 B135
 replace K1:=kx_ hk K1 (Nat.not_lt.2 LK1_b135);replace KU:=kx_ hk KU (fun hx=>absurd hx.2 (Nat.not_lt.2 LKU_b135));replace B0:=bx_ hk B0 Nb0_b135;replace B1:=bx_ hk B1 Nb1_b135;replace B101:=bx_ hk B101 Nb101_b135;replace B104:=bx_ hk B104 Nb104_b135;clear B135;have B135:=hB;clear hB hk
 refine st_skip gq25_4_13 rfl (wanted_free rfl) Y ?_;clear Y
 refine sv_ gq25_4_14 (ya_ rfl h35) fun a139 e=>?_
 clear h34 h35;replace F:=pu_ F e;replace h11:=so_ e h11;replace h36:=so_ e h36;clear e
 refine sv_ gq25_4_15 (ya_ rfl h36) fun a140 e=>?_
 clear h36 h10;have h10:=pt_ F e;replace F:=pu_ F e;replace h11:=so_ e h11;clear e
 refine st_end ?_
 replace h6:=F.of h6;replace h7:=F.of h7;clear h8;clear h9;clear h22;have R:=F.r;clear F
 change (cq25_14).wp _ _ _ _
 refine wp_seq (x:=cq25_15) (y:=Code.ret) ?_
 change (Code.region 5 Oq25_5 false).wp _ _ _ _
 refine reg_in (l:=[0,1,2,3]) rfl ?_
 have F:FE_ _ [] a140 a140:=⟨R,Ag_.refl _⟩;clear R
 refine sv_ gq25_5_0 (yl4_ rfl (F.of h11) B135) fun a141 e=>?_
 have h37:=pt_ F e;replace F:=pu_ F e;clear e
 refine sv_ gq25_5_1 (ym_ rfl (F.of h10)) fun a142 e=>?_
 have h38:=pt_ F e;replace F:=pu_ F e;replace h37:=so_ e h37;clear e
 obtain ⟨w143,Y,hk,hB⟩:=ys4_ (o:=oq25_5_2) rfl (F.of h6) h37 B104
 replace K1:=kx_ hk K1 (Nat.not_lt.2 LK1_b104);replace KU:=kx_ hk KU (fun hx=>absurd hx.1 (Nat.not_le.2 Eb104));replace B0:=bx_ hk B0 Nb0_b104;replace B1:=bx_ hk B1 Nb1_b104;replace B101:=bx_ hk B101 Nb101_b104;replace B135:=bx_ hk B135 (Ne.symm Nb104_b135);clear B104;have B104:=hB;clear hB hk
 refine st_skip gq25_5_2 rfl (wanted_free rfl) Y ?_;clear Y
 refine sv_ gq25_5_3 (ya_ rfl h38) fun a144 e=>?_
 clear h37 h38 h7;have h7:=pt_ F e;replace F:=pu_ F e;clear e
 refine st_end ?_
 replace h6:=F.of h6;clear h10;clear h11;have R:=F.r;clear F
 change (Code.ret).wp _ _ _ _
 refine wp_ret ?_
 change bodyPost Tryz.prog Tryz.f18 (fun e w'=>∃ a' c',e=.returned (.tuple #[tv p.1 a' c',.int .i64 0])∧Fr 0 (fun _=>False) w' W.heap.size w'.heap.size p.1 a' c'∧Keep (fun g=>g < W.heap.size) W w') .ret a144 w143
 refine ret_cell_tmp (fn:=Tryz.f18) rfl R h6 h7 B104 ?_
 exact ⟨au,cu,rfl,fr_from HFR.out KU HWL,K1⟩
section
variable {W:World} {B b0 mb n:Nat} {R:Nat→Prop} {made k er:Int} {f:Int→Option Qu} {t:Tm} {a:Option Addr} {c:Nat} {q:Qu}
theorem NoMsg.ne (h:NoMsg f k t er):¬ er=0:=by
  rcases h with ⟨_,rfl⟩ | ⟨_,_,⟨_,rfl⟩ | ⟨_,rfl,_⟩⟩ <;> decide
theorem peek_no (h:PoAt B R W b0 mb made f n) (hk:(ik k).wf=true) (hT:TmAt W.heap.size W t a c) (hc:NoMsg f k t er):Calls Tryz.prog 18 #[.pointer (some ⟨b0,0,none⟩),.int .i64 k,tv t a c] W fun e w'=>e=.returned (.tuple #[.agg #[.int .i64 0,.string ⟨#[]⟩,.int .i64 0,.slice none 0 0],.int .i64 er])∧Keep (fun g=>g < W.heap.size) W w':=by
  refine enter_sx Tryz.func18 bodyq25 rfl (by show (3:Nat) ≤ 39;decide) fun f0 R0 hs=>?_
  exact peek_a R0 (hs 0 _ rfl) (hs 1 _ rfl) (hs 2 _ rfl) (Keep.refl _ W) h.head (Lib.hid h) (Lib.hid hk) (Lib.hid hT) (Lib.hid hc) (Lib.hid hc.ne)
theorem peek_yes {j:Nat} {p:TP} (h:PoAt B R W b0 mb made f n) (hk:(ik k).wf=true) (hT:TmAt W.heap.size W t a c) (hf:f k=some q) (hc:IsMsg q t j p):Calls Tryz.prog 18 #[.pointer (some ⟨b0,0,none⟩),.int .i64 k,tv t a c] W fun e w'=>∃ a' c',e=.returned (.tuple #[tv p.1 a' c',.int .i64 0])∧Fr 0 (fun _=>False) w' W.heap.size w'.heap.size p.1 a' c'∧Keep (fun g=>g < W.heap.size) W w':=by
  refine enter_sx Tryz.func18 bodyq25 rfl (by show (3:Nat) ≤ 39;decide) fun f0 R0 hs=>?_
  obtain ⟨va,vc,e⟩:=h.cut hf
  rw [e] at hf hc
  exact peek_b R0 (hs 0 _ rfl) (hs 1 _ rfl) (hs 2 _ rfl) (Keep.refl _ W) h.head (Lib.hid h) (Lib.hid hk) (h.qs k _ hf).box (Lib.hid hf) (Lib.hid hT) (Lib.hid hc)
end
end Go.Proofs.YtnfcbalppecnfaaGreat
