/-
  The law ArithPlays, walked. No condition but where its term lies.
-/
import Derived.Test.YtmgephleogiaoaaPAr25
namespace Go.Proofs.Ytmgephleogiaoaa
open Go.RowKit Go.Maps
set_option linter.unusedVariables false
set_option linter.unusedSimpArgs false
theorem eval_gen' {W:World} {t:Tm} {a:Option Addr} {c:Nat} (hT:TmAt W.heap.size W t a c):Calls Try.prog 10 #[tv t a c] W fun e w'=>∃ a' c',e=.returned (.tuple #[.int .i64 (evW t).v,tv (evW t).b a' c',.bool (evW t).k])∧Own W.heap.size w' (evW t).b a' c'∧Keep (fun g=>g < W.heap.size) W w':=by
  refine Calls.mono (Eval_any hT) ?_
  rintro e w' ⟨a',c',rfl,h2,-,h3⟩
  exact ⟨a',c',rfl,h2,h3⟩
theorem likeP_self {b:Tm} (h:b.k=0∨b.ok=true):LikeP b b:=by
  rcases h with h | h
  · exact .inl ⟨h,h⟩
  · exact .inr ⟨h,h,rfl⟩
theorem ballV_P' (t:Tm):(ballV t).k=0∨(ballV t).ok=true:=by
  unfold ballV
  by_cases h:t.right=true
  · rw [if_pos h]
    exact .inr (ball_ok ((t.tree.tm_right).2 (Tm.tree_right (right_of.1 h))).1)
  · rw [if_neg h];exact .inl rfl
theorem resW_P' (r:Rs):(resW r).b.k=0∨(resW r).b.ok=true:=by
  unfold resW
  by_cases h:r.2=[]
  · rw [if_pos h];exact .inl rfl
  · rw [if_neg h];exact ballV_P' _
theorem woL_of (nm:List UInt8) (ts:List Tm) (ih:∀ t ∈ ts,(wo t).b.k=0∨(wo t).b.ok=true):∀ xs:List Int,(woL nm ts xs).b.k=0∨(woL nm ts xs).b.ok=true:=by
  induction ts with
  | nil=>intro xs;rw [woL];exact resW_P' _
  | cons t ts ih2 =>
    intro xs
    rw [woL]
    have h:=ih t List.mem_cons_self
    cases hw:wo t with
    | num v=>exact ih2 (fun u hu=>ih u (List.mem_cons_of_mem _ hu)) (xs ++ [v])
    | bal b=>rw [hw] at h;exact h
theorem wo_P' (t:Tm):(wo t).b.k=0∨(wo t).b.ok=true:=by
  induction t using Tm.ind with
  | h k nm i args ih =>
    rw [wo]
    by_cases h:k=2
    · rw [if_pos h];exact .inl rfl
    rw [if_neg h]
    by_cases h:k=1
    · rw [if_pos h];exact ballV_P' _
    rw [if_neg h]
    by_cases h:k=3
    · rw [if_pos h];exact ballV_P' _
    rw [if_neg h]
    by_cases h:isFn nm args.length=true
    · rw [if_pos h];exact woL_of nm args ih []
    · rw [if_neg h];exact ballV_P' _
def oA3_0_0:Oper:=⟨some 1,Op.box 24 (Operand.tmp 0),0, "law.go:29",#[],none⟩
def oA3_0_1:Oper:=⟨some 2,Op.assign (Operand.const (Value.bool false)),4, "law.go:29",#[],none⟩
def OA3_0:Array Oper:=List.toArray (oA3_0_0::oA3_0_1::[])
theorem gA3_0_0:OA3_0[0]? = some oA3_0_0:=rfl
theorem gA3_0_1:OA3_0[1]? = some oA3_0_1:=rfl
def cA3_1:Code:=Code.region 0 OA3_0 false
def oA3_1_0:Oper:=⟨some 7,Op.call { callee:=Callee.value (Operand.func 9),args:=#[],argTypes:=#[] },4, "law.go:30",#[],none⟩
def oA3_1_1:Oper:=⟨some 8,Op.unOp Go.UnOp.not 4 (Operand.tmp 7),4, "law.go:30",#[ed_ 0],none⟩
def OA3_1:Array Oper:=List.toArray (oA3_1_0::oA3_1_1::[])
theorem gA3_1_0:OA3_1[0]? = some oA3_1_0:=rfl
theorem gA3_1_1:OA3_1[1]? = some oA3_1_1:=rfl
def cA3_4:Code:=Code.region 1 OA3_1 false
def oA3_2_0:Oper:=⟨some 2,Op.assign (Operand.const (Value.bool false)),4, "law.go:31",#[],none⟩
def OA3_2:Array Oper:=List.toArray (oA3_2_0::[])
def cA3_7:Code:=Code.region 2 OA3_2 false
def cA3_6:Code:=Code.seq cA3_7 Code.ret
def cA3_5:Code:=Code.cond (Operand.tmp 8) cA3_6 Code.skip
def cA3_3:Code:=Code.seq cA3_4 cA3_5
def oA3_3_0:Oper:=⟨some 10,Op.load 24 (Operand.tmp 1),24, "law.go:33",#[],none⟩
def oA3_3_1:Oper:=⟨some 11,Op.call { callee:=Callee.value (Operand.func 10),args:=#[Operand.tmp 10],argTypes:=#[24] },26, "law.go:33",#[ed_ 0],none⟩
def oA3_3_2:Oper:=⟨some 9,Op.move (Operand.tmp 11),26, "law.go:33",#[ed_ 1],none⟩
def oA3_3_3:Oper:=⟨some 12,Op.extract (Operand.tmp 9) 0,2, "law.go:33",#[ed_ 2],none⟩
def oA3_3_4:Oper:=⟨some 13,Op.extract (Operand.tmp 9) 1,24, "law.go:33",#[ed_ 2,{ on:=7,ground:=Go.Ground.gcOnly Go.Departure.lateStores }],none⟩
def oA3_3_5:Oper:=⟨some 14,Op.extract (Operand.tmp 9) 2,4, "law.go:33",#[ed_ 2,{ on:=8,ground:=Go.Ground.gcOnly Go.Departure.lateStores }],none⟩
def oA3_3_6:Oper:=⟨some 4,Op.alloc 24,0, "law.go:33",#[],none⟩
def oA3_3_7:Oper:=⟨some 3,Op.assign (Operand.tmp 12),2, "law.go:33",#[ed_ 3,ec_ 1,ep_ 0,ep_ 1,ep_ 2,ep_ 3,{ on:=4,ground:=Go.Ground.textOnly Go.Departure.lateStores },{ on:=5,ground:=Go.Ground.textOnly Go.Departure.lateStores },ep_ 6],none⟩
def oA3_3_8:Oper:=⟨none,Op.store 24 (Operand.tmp 4) (Operand.tmp 13),0, "law.go:33",#[ed_ 6,ed_ 4,ec_ 7,ep_ 0,ep_ 1,ep_ 2,ep_ 3,ep_ 4,{ on:=5,ground:=Go.Ground.textOnly Go.Departure.lateStores },ep_ 6,ep_ 7],none⟩
def oA3_3_9:Oper:=⟨some 5,Op.assign (Operand.tmp 14),4, "law.go:33",#[ed_ 5,ec_ 8,ep_ 0,ep_ 1,ep_ 2,ep_ 3,ep_ 4,ep_ 5,ep_ 6,ep_ 7,ep_ 8],none⟩
def OA3_3:Array Oper:=List.toArray (oA3_3_0::oA3_3_1::oA3_3_2::oA3_3_3::oA3_3_4::oA3_3_5::oA3_3_6::oA3_3_7::oA3_3_8::oA3_3_9::[])
theorem gA3_3_0:OA3_3[0]? = some oA3_3_0:=rfl
theorem gA3_3_1:OA3_3[1]? = some oA3_3_1:=rfl
theorem gA3_3_2:OA3_3[2]? = some oA3_3_2:=rfl
theorem gA3_3_3:OA3_3[3]? = some oA3_3_3:=rfl
theorem gA3_3_4:OA3_3[4]? = some oA3_3_4:=rfl
theorem gA3_3_5:OA3_3[5]? = some oA3_3_5:=rfl
theorem gA3_3_6:OA3_3[6]? = some oA3_3_6:=rfl
theorem gA3_3_7:OA3_3[7]? = some oA3_3_7:=rfl
theorem gA3_3_8:OA3_3[8]? = some oA3_3_8:=rfl
theorem gA3_3_9:OA3_3[9]? = some oA3_3_9:=rfl
def cA3_11:Code:=Code.region 3 OA3_3 false
def oA3_4_0:Oper:=⟨some 15,Op.load 24 (Operand.tmp 1),24, "law.go:34",#[],none⟩
def oA3_4_1:Oper:=⟨some 16,Op.call { callee:=Callee.value (Operand.func 11),args:=#[Operand.tmp 15],argTypes:=#[24] },4, "law.go:34",#[ed_ 0],none⟩
def oA3_4_2:Oper:=⟨some 17,Op.unOp Go.UnOp.not 4 (Operand.tmp 16),4, "law.go:34",#[ed_ 1],none⟩
def OA3_4:Array Oper:=List.toArray (oA3_4_0::oA3_4_1::oA3_4_2::[])
theorem gA3_4_0:OA3_4[0]? = some oA3_4_0:=rfl
theorem gA3_4_1:OA3_4[1]? = some oA3_4_1:=rfl
theorem gA3_4_2:OA3_4[2]? = some oA3_4_2:=rfl
def cA3_14:Code:=Code.region 4 OA3_4 false
def oA3_5_0:Oper:=⟨some 18,Op.move (Operand.tmp 3),2, "law.go:35",#[],none⟩
def oA3_5_1:Oper:=⟨some 19,Op.binOp Go.BinOp.eql 2 (Operand.tmp 18) (Operand.const (Value.int IntKind.i64 0)) 2,4, "law.go:35",#[ed_ 0],none⟩
def oA3_5_2:Oper:=⟨some 20,Op.move (Operand.tmp 19),4, "law.go:35",#[ed_ 1],none⟩
def oA3_5_3:Oper:=⟨some 21,Op.fieldAddr 24 (Operand.tmp 4) 0,0, "law.go:35",#[eg_ 2],some (2,true)⟩
def oA3_5_4:Oper:=⟨some 22,Op.load 3 (Operand.tmp 21),3, "law.go:35",#[ed_ 3,eg_ 2],some (2,true)⟩
def oA3_5_5:Oper:=⟨some 23,Op.binOp Go.BinOp.eql 3 (Operand.tmp 22) (Operand.const (Value.int IntKind.i64 0)) 3,4, "law.go:35",#[ed_ 4,eg_ 2],some (2,true)⟩
def oA3_5_6:Oper:=⟨some 24,Op.pick (Operand.tmp 20) (Operand.tmp 23) (Operand.const (Value.bool false)),4, "law.go:35",#[ed_ 2,ed_ 5],none⟩
def oA3_5_7:Oper:=⟨some 25,Op.move (Operand.tmp 24),4, "law.go:35",#[ed_ 6,ec_ 2],none⟩
def oA3_5_8:Oper:=⟨some 26,Op.move (Operand.tmp 5),4, "law.go:35",#[eg_ 7],some (7,true)⟩
def oA3_5_9:Oper:=⟨some 27,Op.unOp Go.UnOp.not 4 (Operand.tmp 26),4, "law.go:35",#[ed_ 8,eg_ 7],some (7,true)⟩
def oA3_5_10:Oper:=⟨some 28,Op.pick (Operand.tmp 25) (Operand.tmp 27) (Operand.const (Value.bool false)),4, "law.go:35",#[ed_ 7,ed_ 9],none⟩
def oA3_5_11:Oper:=⟨some 2,Op.assign (Operand.tmp 28),4, "law.go:35",#[ed_ 10,ec_ 7,ep_ 0,ep_ 1,ep_ 2,ep_ 3,ep_ 4,ep_ 5,ep_ 6,ep_ 7,ep_ 8,ep_ 9,ep_ 10],none⟩
def OA3_5:Array Oper:=List.toArray (oA3_5_0::oA3_5_1::oA3_5_2::oA3_5_3::oA3_5_4::oA3_5_5::oA3_5_6::oA3_5_7::oA3_5_8::oA3_5_9::oA3_5_10::oA3_5_11::[])
theorem gA3_5_0:OA3_5[0]? = some oA3_5_0:=rfl
theorem gA3_5_1:OA3_5[1]? = some oA3_5_1:=rfl
theorem gA3_5_2:OA3_5[2]? = some oA3_5_2:=rfl
theorem gA3_5_3:OA3_5[3]? = some oA3_5_3:=rfl
theorem gA3_5_4:OA3_5[4]? = some oA3_5_4:=rfl
theorem gA3_5_5:OA3_5[5]? = some oA3_5_5:=rfl
theorem gA3_5_6:OA3_5[6]? = some oA3_5_6:=rfl
theorem gA3_5_7:OA3_5[7]? = some oA3_5_7:=rfl
theorem gA3_5_8:OA3_5[8]? = some oA3_5_8:=rfl
theorem gA3_5_9:OA3_5[9]? = some oA3_5_9:=rfl
theorem gA3_5_10:OA3_5[10]? = some oA3_5_10:=rfl
theorem gA3_5_11:OA3_5[11]? = some oA3_5_11:=rfl
def cA3_17:Code:=Code.region 5 OA3_5 false
def cA3_16:Code:=Code.seq cA3_17 Code.ret
def cA3_15:Code:=Code.cond (Operand.tmp 17) cA3_16 Code.skip
def cA3_13:Code:=Code.seq cA3_14 cA3_15
def oA3_6_0:Oper:=⟨some 29,Op.load 24 (Operand.tmp 1),24, "law.go:37",#[],none⟩
def oA3_6_1:Oper:=⟨some 30,Op.call { callee:=Callee.value (Operand.func 12),args:=#[Operand.tmp 29],argTypes:=#[24] },30, "law.go:37",#[ed_ 0],none⟩
def oA3_6_2:Oper:=⟨some 6,Op.alloc 30,0, "law.go:37",#[],none⟩
def oA3_6_3:Oper:=⟨none,Op.store 30 (Operand.tmp 6) (Operand.tmp 30),0, "law.go:37",#[ed_ 2,ed_ 1,ec_ 1,ep_ 0,ep_ 1,ep_ 2],none⟩
def OA3_6:Array Oper:=List.toArray (oA3_6_0::oA3_6_1::oA3_6_2::oA3_6_3::[])
theorem gA3_6_0:OA3_6[0]? = some oA3_6_0:=rfl
theorem gA3_6_1:OA3_6[1]? = some oA3_6_1:=rfl
theorem gA3_6_2:OA3_6[2]? = some oA3_6_2:=rfl
theorem gA3_6_3:OA3_6[3]? = some oA3_6_3:=rfl
def cA3_21:Code:=Code.region 6 OA3_6 false
def oA3_7_0:Oper:=⟨some 31,Op.move (Operand.tmp 3),2, "law.go:38",#[],none⟩
def oA3_7_1:Oper:=⟨some 32,Op.fieldAddr 30 (Operand.tmp 6) 0,0, "law.go:38",#[],none⟩
def oA3_7_2:Oper:=⟨some 33,Op.load 2 (Operand.tmp 32),2, "law.go:38",#[ed_ 1],none⟩
def oA3_7_3:Oper:=⟨some 34,Op.binOp Go.BinOp.eql 2 (Operand.tmp 31) (Operand.tmp 33) 2,4, "law.go:38",#[ed_ 0,ed_ 2],none⟩
def oA3_7_4:Oper:=⟨some 35,Op.move (Operand.tmp 34),4, "law.go:38",#[ed_ 3],none⟩
def oA3_7_5:Oper:=⟨some 36,Op.move (Operand.tmp 5),4, "law.go:38",#[eg_ 4],some (4,true)⟩
def oA3_7_6:Oper:=⟨some 37,Op.fieldAddr 30 (Operand.tmp 6) 2,0, "law.go:38",#[eg_ 4],some (4,true)⟩
def oA3_7_7:Oper:=⟨some 38,Op.load 4 (Operand.tmp 37),4, "law.go:38",#[ed_ 6,eg_ 4],some (4,true)⟩
def oA3_7_8:Oper:=⟨some 39,Op.binOp Go.BinOp.eql 4 (Operand.tmp 36) (Operand.tmp 38) 4,4, "law.go:38",#[ed_ 5,ed_ 7,eg_ 4],some (4,true)⟩
def oA3_7_9:Oper:=⟨some 40,Op.pick (Operand.tmp 35) (Operand.tmp 39) (Operand.const (Value.bool false)),4, "law.go:38",#[ed_ 4,ed_ 8],none⟩
def oA3_7_10:Oper:=⟨some 41,Op.move (Operand.tmp 40),4, "law.go:38",#[ed_ 9,ec_ 4],none⟩
def oA3_7_11:Oper:=⟨some 42,Op.load 24 (Operand.tmp 4),24, "law.go:38",#[eg_ 10],some (10,true)⟩
def oA3_7_12:Oper:=⟨some 43,Op.fieldAddr 30 (Operand.tmp 6) 1,0, "law.go:38",#[eg_ 10],some (10,true)⟩
def oA3_7_13:Oper:=⟨some 44,Op.load 24 (Operand.tmp 43),24, "law.go:38",#[ed_ 12,eg_ 10],some (10,true)⟩
def oA3_7_14:Oper:=⟨some 45,Op.call { callee:=Callee.value (Operand.func 13),args:=#[Operand.tmp 42,Operand.tmp 44],argTypes:=#[24,24] },4, "law.go:38",#[ed_ 11,ed_ 13,ec_ 10,eg_ 10],some (10,true)⟩
def oA3_7_15:Oper:=⟨some 46,Op.pick (Operand.tmp 41) (Operand.tmp 45) (Operand.const (Value.bool false)),4, "law.go:38",#[ed_ 10,ed_ 14],none⟩
def oA3_7_16:Oper:=⟨some 2,Op.assign (Operand.tmp 46),4, "law.go:38",#[ed_ 15,ec_ 14,ep_ 0,ep_ 1,ep_ 2,ep_ 3,ep_ 4,ep_ 5,ep_ 6,ep_ 7,ep_ 8,ep_ 9,ep_ 10,ep_ 11,ep_ 12,ep_ 13,ep_ 14,ep_ 15],none⟩
def OA3_7:Array Oper:=List.toArray (oA3_7_0::oA3_7_1::oA3_7_2::oA3_7_3::oA3_7_4::oA3_7_5::oA3_7_6::oA3_7_7::oA3_7_8::oA3_7_9::oA3_7_10::oA3_7_11::oA3_7_12::oA3_7_13::oA3_7_14::oA3_7_15::oA3_7_16::[])
theorem gA3_7_0:OA3_7[0]? = some oA3_7_0:=rfl
theorem gA3_7_1:OA3_7[1]? = some oA3_7_1:=rfl
theorem gA3_7_2:OA3_7[2]? = some oA3_7_2:=rfl
theorem gA3_7_3:OA3_7[3]? = some oA3_7_3:=rfl
theorem gA3_7_4:OA3_7[4]? = some oA3_7_4:=rfl
theorem gA3_7_5:OA3_7[5]? = some oA3_7_5:=rfl
theorem gA3_7_6:OA3_7[6]? = some oA3_7_6:=rfl
theorem gA3_7_7:OA3_7[7]? = some oA3_7_7:=rfl
theorem gA3_7_8:OA3_7[8]? = some oA3_7_8:=rfl
theorem gA3_7_9:OA3_7[9]? = some oA3_7_9:=rfl
theorem gA3_7_10:OA3_7[10]? = some oA3_7_10:=rfl
theorem gA3_7_11:OA3_7[11]? = some oA3_7_11:=rfl
theorem gA3_7_12:OA3_7[12]? = some oA3_7_12:=rfl
theorem gA3_7_13:OA3_7[13]? = some oA3_7_13:=rfl
theorem gA3_7_14:OA3_7[14]? = some oA3_7_14:=rfl
theorem gA3_7_15:OA3_7[15]? = some oA3_7_15:=rfl
theorem gA3_7_16:OA3_7[16]? = some oA3_7_16:=rfl
def cA3_23:Code:=Code.region 7 OA3_7 false
def cA3_22:Code:=Code.seq cA3_23 Code.ret
def cA3_20:Code:=Code.seq cA3_21 cA3_22
def cA3_12:Code:=Code.seq cA3_13 cA3_20
def cA3_10:Code:=Code.seq cA3_11 cA3_12
def cA3_2:Code:=Code.seq cA3_3 cA3_10
def cA3_0:Code:=Code.seq cA3_1 cA3_2
theorem enA3_10:Enters Try.prog 10:=enters_of Try.func10 (by kernel_rfl) rfl
theorem enA3_11:Enters Try.prog 11:=enters_of Try.func11 (by kernel_rfl) rfl
theorem enA3_12:Enters Try.prog 12:=enters_of Try.func12 (by kernel_rfl) rfl
theorem enA3_13:Enters Try.prog 13:=enters_of Try.func13 (by kernel_rfl) rfl
theorem bodyA3:Try.f3.body=some cA3_0:=by kernel_rfl
set_option maxRecDepth 100000 in
set_option maxHeartbeats 4000000 in
theorem plays_r {W:World} {t:Tm} {a:Option Addr} {c:Nat} {kz:Bool} {f0:Act} {w0:World} (R:FrS 47 f0) (h0:f0.tmps[0]? = some (.agg #[.int .i64 t.k,.string (str t.nm),.int .i64 t.i,.slice a t.args.length c])) (K1:Keep (fun g=>g < W.heap.size) W w0)  (HT:Hid (TmAt W.heap.size W t a c)) (HR:Hid (t.right=true)) (HE:Hid (evW t=wo t)) (HKZ:Hid ((wo t).k=kz)) (HP:Hid ((wo t).b.k=0∨(wo t).b.ok=true)):cA3_0.wp Try.prog (bodyPost Try.prog Try.f3 (fun e w'=>e=.returned (.bool true)∧Keep (fun g=>g < W.heap.size) W w')) f0 w0:=by
 refine wp_seq (x:=cA3_1) (y:=cA3_2) ?_
 change (Code.region 0 OA3_0 false).wp _ _ _ _
 refine reg_in (l:=[0,1]) rfl ?_
 have F:=fe_ R;clear R
 have Y:(execOp f0.eval oA3_0_0).run Try.prog w0=.ok (.value (.pointer (some ⟨w0.heap.size,0,none⟩))) (w0.alloc (.cells #[.int .i64 t.k,.string (str t.nm),.int .i64 t.i,.slice a t.args.length c] 24)):=by have r0:=F.of h0;unfold oA3_0_0;go_simp
 have B1:=Blk.new w0 24 #[.int .i64 t.k,.string (str t.nm),.int .i64 t.i,.slice a t.args.length c]
 obtain ⟨w2,hw⟩:∃ x,x=w0.alloc (.cells #[.int .i64 t.k,.string (str t.nm),.int .i64 t.i,.slice a t.args.length c] 24):=⟨_,rfl⟩;rw [← hw] at Y B1
 obtain ⟨b1,hb⟩:∃ x,x=w0.heap.size:=⟨_,rfl⟩;rw [← hb] at Y B1
 have LK1_b1:=lk_ hb K1;replace K1:=ka_ hw K1;clear hw hb
 refine sw_ gA3_0_0 Y F fun a3 F h1=>?_;clear Y
 have Y:(execOp a3.eval oA3_0_1).run Try.prog w2=.ok (.value (.bool false)) w2:=by unfold oA3_0_1;go_simp
 refine sv_ gA3_0_1 Y fun a4 e=>?_;clear Y
 have h2:=pt_ F e;replace F:=pu_ F e;replace h1:=so_ e h1;clear e
 refine st_end ?_
 clear h0;have R:=F.r;clear F
 change (cA3_2).wp _ _ _ _
 refine wp_seq (x:=cA3_3) (y:=cA3_10) ?_
 refine wp_seq (x:=cA3_4) (y:=cA3_5) ?_
 change (Code.region 1 OA3_1 false).wp _ _ _ _
 refine reg_in (l:=[0,1]) rfl ?_
 have F:=fe_ R;clear R
 have Y:(execOp a4.eval oA3_1_0).run Try.prog w2=.ok (.enter 9 #[]) w2:=by unfold oA3_1_0;go_simp
 refine st_call gA3_1_0 rfl (wanted_free rfl) Y ((alive_any _).mono ?_);clear Y
 rintro e9 w5 ⟨rfl,kk⟩
 replace K1:=keep_onto K1 kk
 replace B1:=blk_on B1 kk
 clear kk
 refine ⟨_,rfl,fun a6 e=>?_⟩
 have h7:=pt_ F e;replace F:=pu_ F e;clear e
 have Y:(execOp a6.eval oA3_1_1).run Try.prog w5=.ok (.value (.bool false)) w5:=by unfold oA3_1_1;go_simp
 refine sw_ gA3_1_1 Y F fun a7 F h8=>?_;clear Y h7
 refine st_end ?_
 replace h1:=F.of h1;replace h2:=F.of h2;have R:=F.r;clear F
 change (cA3_5).wp _ _ _ _
 refine wp_cond_false (x:=cA3_6) (y:=Code.skip) (eval_slot h8) ?_
 refine wp_skip ?_
 change (cA3_10).wp _ _ _ _
 refine wp_seq (x:=cA3_11) (y:=cA3_12) ?_
 change (Code.region 3 OA3_3 false).wp _ _ _ _
 refine reg_in (l:=[0,1,2,3,4,5,6,7,8,9]) rfl ?_
 have F:=fe_ R;clear R
 refine sv_ gA3_3_0 (yl4_ rfl (F.of h1) B1) fun a8 e=>?_
 have h10:=pt_ F e;replace F:=pu_ F e;clear e
 have hca:=eval_gen' (HT.out.on K1);rw [HE.out,HKZ.out] at hca
 refine st_call gA3_3_1 rfl (wanted_free rfl) (yc1_ enA3_10 rfl h10) ((hca).mono ?_)
 rintro e9 w9 ⟨ae,ce,rfl,hx,kk⟩
 replace K1:=keep_onto K1 kk
 replace B1:=blk_on B1 kk
 clear kk
 have HXe:=Lib.hid hx.at_;clear hx hca
 have KXe:=Keep.refl (fun g=>g < w9.heap.size) w9
 refine ⟨_,rfl,fun a10 e=>?_⟩
 clear h10;have h11:=pt_ F e;replace F:=pu_ F e;clear e
 refine sv_ gA3_3_2 (ym_ rfl h11) fun a11 e=>?_
 clear h11;have h9:=pt_ F e;replace F:=pu_ F e;clear e
 refine sv_ gA3_3_3 (ye30_ rfl h9) fun a12 e=>?_
 have h12:=pt_ F e;replace F:=pu_ F e;replace h9:=so_ e h9;clear e
 refine sv_ gA3_3_4 (ye31_ rfl h9) fun a13 e=>?_
 have h13:=pt_ F e;replace F:=pu_ F e;replace h9:=so_ e h9;replace h12:=so_ e h12;clear e
 refine sv_ gA3_3_5 (ye32_ rfl h9) fun a14 e=>?_
 clear h9;have h14:=pt_ F e;replace F:=pu_ F e;replace h12:=so_ e h12;replace h13:=so_ e h13;clear e
 have Y:(execOp a14.eval oA3_3_6).run Try.prog w9=.ok (.value (.pointer (some ⟨w9.heap.size,0,none⟩))) (w9.alloc (.cells #[.int .i64 0,.string (⟨#[]⟩),.int .i64 0,.slice none 0 0] 24)):=by unfold oA3_3_6;go_simp
 have B15:=Blk.new w9 24 #[.int .i64 0,.string (⟨#[]⟩),.int .i64 0,.slice none 0 0]
 obtain ⟨w16,hw⟩:∃ x,x=w9.alloc (.cells #[.int .i64 0,.string (⟨#[]⟩),.int .i64 0,.slice none 0 0] 24):=⟨_,rfl⟩;rw [← hw] at Y B15
 obtain ⟨b15,hb⟩:∃ x,x=w9.heap.size:=⟨_,rfl⟩;rw [← hb] at Y B15
 have Nb1_b15:=nb_ hb B1;replace B1:=ba_ hw B1;have LK1_b15:=lk_ hb K1;replace K1:=ka_ hw K1;have LKXe_b15:=lk_ hb KXe;replace KXe:=ka_ hw KXe;clear hw hb
 refine sv_ gA3_3_6 Y fun a17 e=>?_;clear Y
 have h4:=pt_ F e;replace F:=pu_ F e;replace h12:=so_ e h12;replace h13:=so_ e h13;replace h14:=so_ e h14;clear e
 refine sv_ gA3_3_7 (ya_ rfl h12) fun a18 e=>?_
 clear h12;have h3:=pt_ F e;replace F:=pu_ F e;replace h4:=so_ e h4;replace h13:=so_ e h13;replace h14:=so_ e h14;clear e
 obtain ⟨w19,Y,hk,hB⟩:=ys4_ (o:=oA3_3_8) rfl h4 h13 B15
 replace K1:=kx_ hk K1 (Nat.not_lt.2 LK1_b15);replace KXe:=kx_ hk KXe (Nat.not_lt.2 LKXe_b15);replace B1:=bx_ hk B1 Nb1_b15;clear B15;have B15:=hB;clear hB hk
 refine st_skip gA3_3_8 rfl (wanted_free rfl) Y ?_;clear Y
 refine sv_ gA3_3_9 (ya_ rfl h14) fun a20 e=>?_
 clear h13 h14;have h5:=pt_ F e;replace F:=pu_ F e;replace h3:=so_ e h3;replace h4:=so_ e h4;clear e
 refine st_end ?_
 replace h1:=F.of h1;replace h2:=F.of h2;clear h8;have R:=F.r;clear F
 change (cA3_12).wp _ _ _ _
 refine wp_seq (x:=cA3_13) (y:=cA3_20) ?_
 refine wp_seq (x:=cA3_14) (y:=cA3_15) ?_
 change (Code.region 4 OA3_4 false).wp _ _ _ _
 refine reg_in (l:=[0,1,2]) rfl ?_
 have F:=fe_ R;clear R
 refine sv_ gA3_4_0 (yl4_ rfl (F.of h1) B1) fun a21 e=>?_
 have h15:=pt_ F e;replace F:=pu_ F e;clear e
 refine st_call gA3_4_1 rfl (wanted_free rfl) (yc1_ enA3_11 rfl h15) ((right_is (HT.out.on K1) HR.out).mono ?_)
 rintro e9 w22 ⟨rfl,kk⟩
 replace K1:=keep_onto K1 kk
 replace KXe:=keep_onto KXe kk
 replace B1:=blk_on B1 kk
 replace B15:=blk_on B15 kk
 clear kk
 refine ⟨_,rfl,fun a23 e=>?_⟩
 clear h15;have h16:=pt_ F e;replace F:=pu_ F e;clear e
 have Y:(execOp a23.eval oA3_4_2).run Try.prog w22=.ok (.value (.bool false)) w22:=by unfold oA3_4_2;go_simp
 refine sw_ gA3_4_2 Y F fun a24 F h17=>?_;clear Y h16
 refine st_end ?_
 replace h1:=F.of h1;replace h2:=F.of h2;replace h3:=F.of h3;replace h4:=F.of h4;replace h5:=F.of h5;have R:=F.r;clear F
 change (cA3_15).wp _ _ _ _
 refine wp_cond_false (x:=cA3_16) (y:=Code.skip) (eval_slot h17) ?_
 refine wp_skip ?_
 change (cA3_20).wp _ _ _ _
 refine wp_seq (x:=cA3_21) (y:=cA3_22) ?_
 change (Code.region 6 OA3_6 false).wp _ _ _ _
 refine reg_in (l:=[0,1,2,3]) rfl ?_
 have F:=fe_ R;clear R
 refine sv_ gA3_6_0 (yl4_ rfl (F.of h1) B1) fun a25 e=>?_
 have h29:=pt_ F e;replace F:=pu_ F e;clear e
 have hca:=refEval_any t w22 a c (HT.out.on K1) (right_of.1 HR.out).1;unfold WA wv at hca;rw [HKZ.out] at hca
 refine st_call gA3_6_1 rfl (wanted_free rfl) (yc1_ enA3_12 rfl h29) ((hca).mono ?_)
 rintro e9 w26 ⟨⟨aw,cw,rfl,hx,kk⟩,-⟩
 replace K1:=keep_onto K1 kk
 replace KXe:=keep_onto KXe kk
 replace B1:=blk_on B1 kk
 replace B15:=blk_on B15 kk
 clear kk
 have HXw:=Lib.hid hx.at_;clear hx hca
 have KXw:=Keep.refl (fun g=>g < w26.heap.size) w26
 refine ⟨_,rfl,fun a27 e=>?_⟩
 clear h29;have h30:=pt_ F e;replace F:=pu_ F e;clear e
 have Y:(execOp a27.eval oA3_6_2).run Try.prog w26=.ok (.value (.pointer (some ⟨w26.heap.size,0,none⟩))) (w26.alloc (.cells #[.int .i64 0,.int .i64 0,.string (⟨#[]⟩),.int .i64 0,.slice none 0 0,.bool false] 30)):=by unfold oA3_6_2;go_simp
 have B28:=Blk.new w26 30 #[.int .i64 0,.int .i64 0,.string (⟨#[]⟩),.int .i64 0,.slice none 0 0,.bool false]
 obtain ⟨w29,hw⟩:∃ x,x=w26.alloc (.cells #[.int .i64 0,.int .i64 0,.string (⟨#[]⟩),.int .i64 0,.slice none 0 0,.bool false] 30):=⟨_,rfl⟩;rw [← hw] at Y B28
 obtain ⟨b28,hb⟩:∃ x,x=w26.heap.size:=⟨_,rfl⟩;rw [← hb] at Y B28
 have Nb1_b28:=nb_ hb B1;replace B1:=ba_ hw B1;have Nb15_b28:=nb_ hb B15;replace B15:=ba_ hw B15;have LK1_b28:=lk_ hb K1;replace K1:=ka_ hw K1;have LKXe_b28:=lk_ hb KXe;replace KXe:=ka_ hw KXe;have LKXw_b28:=lk_ hb KXw;replace KXw:=ka_ hw KXw;clear hw hb
 refine sv_ gA3_6_2 Y fun a30 e=>?_;clear Y
 have h6:=pt_ F e;replace F:=pu_ F e;replace h30:=so_ e h30;clear e
 obtain ⟨w31,Y,hk,hB⟩:=ys6_ (o:=oA3_6_3) rfl h6 h30 B28
 replace K1:=kx_ hk K1 (Nat.not_lt.2 LK1_b28);replace KXe:=kx_ hk KXe (Nat.not_lt.2 LKXe_b28);replace KXw:=kx_ hk KXw (Nat.not_lt.2 LKXw_b28);replace B1:=bx_ hk B1 Nb1_b28;replace B15:=bx_ hk B15 Nb15_b28;clear B28;have B28:=hB;clear hB hk
 refine st_skip gA3_6_3 rfl (wanted_free rfl) Y ?_;clear Y
 refine st_end ?_
 clear h1;replace h2:=F.of h2;replace h3:=F.of h3;replace h4:=F.of h4;replace h5:=F.of h5;clear h17;clear h30;have R:=F.r;clear F
 change (cA3_22).wp _ _ _ _
 refine wp_seq (x:=cA3_23) (y:=Code.ret) ?_
 change (Code.region 7 OA3_7 false).wp _ _ _ _
 refine reg_in (l:=[0,1,2,3,4,5,6,7,8,9,10,11,12,13,14,15,16]) rfl ?_
 have F:=fe_ R;clear R
 refine sw_ gA3_7_0 (ym_ rfl (F.of h3)) F fun a32 F h31=>?_
 have Y:(execOp a32.eval oA3_7_1).run Try.prog w31=.ok (.value (.pointer (some ⟨b28,0,none⟩))) w31:=by have r6:=F.of h6;unfold oA3_7_1;go_simp
 refine sv_ gA3_7_1 Y fun a33 e=>?_;clear Y
 have h32:=pt_ F e;replace F:=pu_ F e;replace h31:=so_ e h31;clear e
 have Y:(execOp a33.eval oA3_7_2).run Try.prog w31=.ok (.value (.int .i64 ((wo t).v))) w31:=by have qq0:w31.cell? ⟨b28,0,none⟩=some (.int .i64 ((wo t).v)):=B28.cell 0;have qq1:w31.cell? ⟨b28,1,none⟩=some (.int .i64 ((wo t).b.k)):=B28.cell 1;have qq2:w31.cell? ⟨b28,2,none⟩=some (.string (str (wo t).b.nm)):=B28.cell 2;have qq3:w31.cell? ⟨b28,3,none⟩=some (.int .i64 ((wo t).b.i)):=B28.cell 3;have qq4:w31.cell? ⟨b28,4,none⟩=some (.slice aw (wo t).b.args.length cw):=B28.cell 4;have qq5:w31.cell? ⟨b28,5,none⟩=some (.bool kz):=B28.cell 5;unfold oA3_7_2;go_simp
 refine sv_ gA3_7_2 Y fun a34 e=>?_;clear Y
 clear h32;have h33:=pt_ F e;replace F:=pu_ F e;replace h31:=so_ e h31;clear e
 have Y:(execOp a34.eval oA3_7_3).run Try.prog w31=.ok (.value (.bool true)) w31:=by unfold oA3_7_3;go_simp
 refine sw_ gA3_7_3 Y F fun a35 F h34=>?_;clear Y h31 h33
 refine sv_ gA3_7_4 (ym_ rfl h34) fun a36 e=>?_
 clear h34;have h35:=pt_ F e;replace F:=pu_ F e;clear e
 refine st_val gA3_7_5 rfl (wanted_is (j:=4) (d:=35) rfl rfl h35 rfl) (ym_ rfl (F.of h5)) fun a37 e=>?_
 have h36:=pt_ F e;replace F:=pu_ F e;replace h35:=so_ e h35;clear e
 have Y:(execOp a37.eval oA3_7_6).run Try.prog w31=.ok (.value (.pointer (some ⟨b28,5,none⟩))) w31:=by have r6:=F.of h6;unfold oA3_7_6;go_simp
 refine st_val gA3_7_6 rfl (wanted_is (j:=4) (d:=35) rfl rfl h35 rfl) Y fun a38 e=>?_;clear Y
 have h37:=pt_ F e;replace F:=pu_ F e;replace h35:=so_ e h35;replace h36:=so_ e h36;clear e
 have Y:(execOp a38.eval oA3_7_7).run Try.prog w31=.ok (.value (.bool kz)) w31:=by have qq0:w31.cell? ⟨b28,0,none⟩=some (.int .i64 ((wo t).v)):=B28.cell 0;have qq1:w31.cell? ⟨b28,1,none⟩=some (.int .i64 ((wo t).b.k)):=B28.cell 1;have qq2:w31.cell? ⟨b28,2,none⟩=some (.string (str (wo t).b.nm)):=B28.cell 2;have qq3:w31.cell? ⟨b28,3,none⟩=some (.int .i64 ((wo t).b.i)):=B28.cell 3;have qq4:w31.cell? ⟨b28,4,none⟩=some (.slice aw (wo t).b.args.length cw):=B28.cell 4;have qq5:w31.cell? ⟨b28,5,none⟩=some (.bool kz):=B28.cell 5;unfold oA3_7_7;go_simp
 refine st_val gA3_7_7 rfl (wanted_is (j:=4) (d:=35) rfl rfl h35 rfl) Y fun a39 e=>?_;clear Y
 clear h37;have h38:=pt_ F e;replace F:=pu_ F e;replace h35:=so_ e h35;replace h36:=so_ e h36;clear e
 cases kz with
 | false =>
  have Y:(execOp a39.eval oA3_7_8).run Try.prog w31=.ok (.value (.bool true)) w31:=by unfold oA3_7_8;go_simp
  refine st_val gA3_7_8 rfl (wanted_is (j:=4) (d:=35) rfl rfl h35 rfl) Y fun a40 e=>?_;clear Y
  clear h36 h38;have h39:=pt_ F e;replace F:=pu_ F e;replace h35:=so_ e h35;clear e
  have Y:(execOp a40.eval oA3_7_9).run Try.prog w31=.ok (.value (.bool true)) w31:=by unfold oA3_7_9;go_simp
  refine sw_ gA3_7_9 Y F fun a41 F h40=>?_;clear Y h35 h39
  refine sv_ gA3_7_10 (ym_ rfl h40) fun a42 e=>?_
  clear h40;have h41:=pt_ F e;replace F:=pu_ F e;clear e
  refine st_val gA3_7_11 rfl (wanted_is (j:=10) (d:=41) rfl rfl h41 rfl) (yl4_ rfl (F.of h4) B15) fun a43 e=>?_
  have h42:=pt_ F e;replace F:=pu_ F e;replace h41:=so_ e h41;clear e
  have Y:(execOp a43.eval oA3_7_12).run Try.prog w31=.ok (.value (.pointer (some ⟨b28,1,none⟩))) w31:=by have r6:=F.of h6;unfold oA3_7_12;go_simp
  refine st_val gA3_7_12 rfl (wanted_is (j:=10) (d:=41) rfl rfl h41 rfl) Y fun a44 e=>?_;clear Y
  have h43:=pt_ F e;replace F:=pu_ F e;replace h41:=so_ e h41;replace h42:=so_ e h42;clear e
  have Y:(execOp a44.eval oA3_7_13).run Try.prog w31=.ok (.value (.agg #[.int .i64 ((wo t).b.k),.string (str (wo t).b.nm),.int .i64 ((wo t).b.i),.slice aw (wo t).b.args.length cw])) w31:=by have qq0:w31.cell? ⟨b28,0,none⟩=some (.int .i64 ((wo t).v)):=B28.cell 0;have qq1:w31.cell? ⟨b28,1,none⟩=some (.int .i64 ((wo t).b.k)):=B28.cell 1;have qq2:w31.cell? ⟨b28,2,none⟩=some (.string (str (wo t).b.nm)):=B28.cell 2;have qq3:w31.cell? ⟨b28,3,none⟩=some (.int .i64 ((wo t).b.i)):=B28.cell 3;have qq4:w31.cell? ⟨b28,4,none⟩=some (.slice aw (wo t).b.args.length cw):=B28.cell 4;have qq5:w31.cell? ⟨b28,5,none⟩=some (.bool false):=B28.cell 5;unfold oA3_7_13;go_simp
  refine st_val gA3_7_13 rfl (wanted_is (j:=10) (d:=41) rfl rfl h41 rfl) Y fun a45 e=>?_;clear Y
  clear h43;have h44:=pt_ F e;replace F:=pu_ F e;replace h41:=so_ e h41;replace h42:=so_ e h42;clear e
  refine st_call gA3_7_14 rfl (wanted_is (j:=10) (d:=41) rfl rfl h41 rfl) (yc2_ enA3_13 rfl h42 h44) ((like_ok (HXe.out.on KXe) (HXw.out.on KXw) (likeP_self HP.out)).mono ?_)
  rintro e9 w46 ⟨rfl,kk⟩
  replace K1:=keep_onto K1 kk
  replace KXe:=keep_onto KXe kk
  replace KXw:=keep_onto KXw kk
  replace B1:=blk_on B1 kk
  replace B15:=blk_on B15 kk
  replace B28:=blk_on B28 kk
  clear kk
  refine ⟨_,rfl,fun a47 e=>?_⟩
  clear h42 h44;have h45:=pt_ F e;replace F:=pu_ F e;replace h41:=so_ e h41;clear e
  have Y:(execOp a47.eval oA3_7_15).run Try.prog w46=.ok (.value (.bool true)) w46:=by unfold oA3_7_15;go_simp
  refine sw_ gA3_7_15 Y F fun a48 F h46=>?_;clear Y h41 h45
  refine sv_ gA3_7_16 (ya_ rfl h46) fun a49 e=>?_
  clear h46 h2;have h2:=pt_ F e;replace F:=pu_ F e;clear e
  refine st_end ?_
  clear h3;clear h4;clear h5;clear h6;have R:=F.r;clear F
  change (Code.ret).wp _ _ _ _
  refine wp_ret ?_
  change bodyPost Try.prog Try.f3 (fun e w'=>e=.returned (.bool true)∧Keep (fun g=>g < W.heap.size) W w') .ret a49 w46
  refine ret_one rfl R h2 ?_
  exact ⟨rfl,K1⟩
 | true =>
  have Y:(execOp a39.eval oA3_7_8).run Try.prog w31=.ok (.value (.bool true)) w31:=by unfold oA3_7_8;go_simp
  refine st_val gA3_7_8 rfl (wanted_is (j:=4) (d:=35) rfl rfl h35 rfl) Y fun a50 e=>?_;clear Y
  clear h36 h38;have h39:=pt_ F e;replace F:=pu_ F e;replace h35:=so_ e h35;clear e
  have Y:(execOp a50.eval oA3_7_9).run Try.prog w31=.ok (.value (.bool true)) w31:=by unfold oA3_7_9;go_simp
  refine sw_ gA3_7_9 Y F fun a51 F h40=>?_;clear Y h35 h39
  refine sv_ gA3_7_10 (ym_ rfl h40) fun a52 e=>?_
  clear h40;have h41:=pt_ F e;replace F:=pu_ F e;clear e
  refine st_val gA3_7_11 rfl (wanted_is (j:=10) (d:=41) rfl rfl h41 rfl) (yl4_ rfl (F.of h4) B15) fun a53 e=>?_
  have h42:=pt_ F e;replace F:=pu_ F e;replace h41:=so_ e h41;clear e
  have Y:(execOp a53.eval oA3_7_12).run Try.prog w31=.ok (.value (.pointer (some ⟨b28,1,none⟩))) w31:=by have r6:=F.of h6;unfold oA3_7_12;go_simp
  refine st_val gA3_7_12 rfl (wanted_is (j:=10) (d:=41) rfl rfl h41 rfl) Y fun a54 e=>?_;clear Y
  have h43:=pt_ F e;replace F:=pu_ F e;replace h41:=so_ e h41;replace h42:=so_ e h42;clear e
  have Y:(execOp a54.eval oA3_7_13).run Try.prog w31=.ok (.value (.agg #[.int .i64 ((wo t).b.k),.string (str (wo t).b.nm),.int .i64 ((wo t).b.i),.slice aw (wo t).b.args.length cw])) w31:=by have qq0:w31.cell? ⟨b28,0,none⟩=some (.int .i64 ((wo t).v)):=B28.cell 0;have qq1:w31.cell? ⟨b28,1,none⟩=some (.int .i64 ((wo t).b.k)):=B28.cell 1;have qq2:w31.cell? ⟨b28,2,none⟩=some (.string (str (wo t).b.nm)):=B28.cell 2;have qq3:w31.cell? ⟨b28,3,none⟩=some (.int .i64 ((wo t).b.i)):=B28.cell 3;have qq4:w31.cell? ⟨b28,4,none⟩=some (.slice aw (wo t).b.args.length cw):=B28.cell 4;have qq5:w31.cell? ⟨b28,5,none⟩=some (.bool true):=B28.cell 5;unfold oA3_7_13;go_simp
  refine st_val gA3_7_13 rfl (wanted_is (j:=10) (d:=41) rfl rfl h41 rfl) Y fun a55 e=>?_;clear Y
  clear h43;have h44:=pt_ F e;replace F:=pu_ F e;replace h41:=so_ e h41;replace h42:=so_ e h42;clear e
  refine st_call gA3_7_14 rfl (wanted_is (j:=10) (d:=41) rfl rfl h41 rfl) (yc2_ enA3_13 rfl h42 h44) ((like_ok (HXe.out.on KXe) (HXw.out.on KXw) (likeP_self HP.out)).mono ?_)
  rintro e9 w56 ⟨rfl,kk⟩
  replace K1:=keep_onto K1 kk
  replace KXe:=keep_onto KXe kk
  replace KXw:=keep_onto KXw kk
  replace B1:=blk_on B1 kk
  replace B15:=blk_on B15 kk
  replace B28:=blk_on B28 kk
  clear kk
  refine ⟨_,rfl,fun a57 e=>?_⟩
  clear h42 h44;have h45:=pt_ F e;replace F:=pu_ F e;replace h41:=so_ e h41;clear e
  have Y:(execOp a57.eval oA3_7_15).run Try.prog w56=.ok (.value (.bool true)) w56:=by unfold oA3_7_15;go_simp
  refine sw_ gA3_7_15 Y F fun a58 F h46=>?_;clear Y h41 h45
  refine sv_ gA3_7_16 (ya_ rfl h46) fun a59 e=>?_
  clear h46 h2;have h2:=pt_ F e;replace F:=pu_ F e;clear e
  refine st_end ?_
  clear h3;clear h4;clear h5;clear h6;have R:=F.r;clear F
  change (Code.ret).wp _ _ _ _
  refine wp_ret ?_
  change bodyPost Try.prog Try.f3 (fun e w'=>e=.returned (.bool true)∧Keep (fun g=>g < W.heap.size) W w') .ret a59 w56
  refine ret_one rfl R h2 ?_
  exact ⟨rfl,K1⟩
set_option maxRecDepth 100000 in
set_option maxHeartbeats 4000000 in
theorem plays_w {W:World} {t:Tm} {a:Option Addr} {c:Nat} {kz:Bool} {f0:Act} {w0:World} (R:FrS 47 f0) (h0:f0.tmps[0]? = some (.agg #[.int .i64 t.k,.string (str t.nm),.int .i64 t.i,.slice a t.args.length c])) (K1:Keep (fun g=>g < W.heap.size) W w0)  (HT:Hid (TmAt W.heap.size W t a c)) (HR:Hid (t.right=false)) (HE:Hid (evW t=.bal zeroT)) (HKZ:Hid ((wo t).k=kz)) (HP:Hid ((wo t).b.k=0∨(wo t).b.ok=true)):cA3_0.wp Try.prog (bodyPost Try.prog Try.f3 (fun e w'=>e=.returned (.bool true)∧Keep (fun g=>g < W.heap.size) W w')) f0 w0:=by
 refine wp_seq (x:=cA3_1) (y:=cA3_2) ?_
 change (Code.region 0 OA3_0 false).wp _ _ _ _
 refine reg_in (l:=[0,1]) rfl ?_
 have F:=fe_ R;clear R
 have Y:(execOp f0.eval oA3_0_0).run Try.prog w0=.ok (.value (.pointer (some ⟨w0.heap.size,0,none⟩))) (w0.alloc (.cells #[.int .i64 t.k,.string (str t.nm),.int .i64 t.i,.slice a t.args.length c] 24)):=by have r0:=F.of h0;unfold oA3_0_0;go_simp
 have B60:=Blk.new w0 24 #[.int .i64 t.k,.string (str t.nm),.int .i64 t.i,.slice a t.args.length c]
 obtain ⟨w61,hw⟩:∃ x,x=w0.alloc (.cells #[.int .i64 t.k,.string (str t.nm),.int .i64 t.i,.slice a t.args.length c] 24):=⟨_,rfl⟩;rw [← hw] at Y B60
 obtain ⟨b60,hb⟩:∃ x,x=w0.heap.size:=⟨_,rfl⟩;rw [← hb] at Y B60
 have LK1_b60:=lk_ hb K1;replace K1:=ka_ hw K1;clear hw hb
 refine sw_ gA3_0_0 Y F fun a62 F h1=>?_;clear Y
 have Y:(execOp a62.eval oA3_0_1).run Try.prog w61=.ok (.value (.bool false)) w61:=by unfold oA3_0_1;go_simp
 refine sv_ gA3_0_1 Y fun a63 e=>?_;clear Y
 have h2:=pt_ F e;replace F:=pu_ F e;replace h1:=so_ e h1;clear e
 refine st_end ?_
 clear h0;have R:=F.r;clear F
 change (cA3_2).wp _ _ _ _
 refine wp_seq (x:=cA3_3) (y:=cA3_10) ?_
 refine wp_seq (x:=cA3_4) (y:=cA3_5) ?_
 change (Code.region 1 OA3_1 false).wp _ _ _ _
 refine reg_in (l:=[0,1]) rfl ?_
 have F:=fe_ R;clear R
 have Y:(execOp a63.eval oA3_1_0).run Try.prog w61=.ok (.enter 9 #[]) w61:=by unfold oA3_1_0;go_simp
 refine st_call gA3_1_0 rfl (wanted_free rfl) Y ((alive_any _).mono ?_);clear Y
 rintro e9 w64 ⟨rfl,kk⟩
 replace K1:=keep_onto K1 kk
 replace B60:=blk_on B60 kk
 clear kk
 refine ⟨_,rfl,fun a65 e=>?_⟩
 have h7:=pt_ F e;replace F:=pu_ F e;clear e
 have Y:(execOp a65.eval oA3_1_1).run Try.prog w64=.ok (.value (.bool false)) w64:=by unfold oA3_1_1;go_simp
 refine sw_ gA3_1_1 Y F fun a66 F h8=>?_;clear Y h7
 refine st_end ?_
 replace h1:=F.of h1;replace h2:=F.of h2;have R:=F.r;clear F
 change (cA3_5).wp _ _ _ _
 refine wp_cond_false (x:=cA3_6) (y:=Code.skip) (eval_slot h8) ?_
 refine wp_skip ?_
 change (cA3_10).wp _ _ _ _
 refine wp_seq (x:=cA3_11) (y:=cA3_12) ?_
 change (Code.region 3 OA3_3 false).wp _ _ _ _
 refine reg_in (l:=[0,1,2,3,4,5,6,7,8,9]) rfl ?_
 have F:=fe_ R;clear R
 refine sv_ gA3_3_0 (yl4_ rfl (F.of h1) B60) fun a67 e=>?_
 have h10:=pt_ F e;replace F:=pu_ F e;clear e
 refine st_call gA3_3_1 rfl (wanted_free rfl) (yc1_ enA3_10 rfl h10) ((eval_bal (HT.out.on K1) HE.out).mono ?_)
 rintro e9 w68 ⟨ae,ce,rfl,hx,kk⟩
 replace K1:=keep_onto K1 kk
 replace B60:=blk_on B60 kk
 clear kk
 have HXe:=Lib.hid hx.at_;clear hx
 have KXe:=Keep.refl (fun g=>g < w68.heap.size) w68
 refine ⟨_,rfl,fun a69 e=>?_⟩
 clear h10;have h11:=pt_ F e;replace F:=pu_ F e;clear e
 refine sv_ gA3_3_2 (ym_ rfl h11) fun a70 e=>?_
 clear h11;have h9:=pt_ F e;replace F:=pu_ F e;clear e
 refine sv_ gA3_3_3 (ye30_ rfl h9) fun a71 e=>?_
 have h12:=pt_ F e;replace F:=pu_ F e;replace h9:=so_ e h9;clear e
 refine sv_ gA3_3_4 (ye31_ rfl h9) fun a72 e=>?_
 have h13:=pt_ F e;replace F:=pu_ F e;replace h9:=so_ e h9;replace h12:=so_ e h12;clear e
 refine sv_ gA3_3_5 (ye32_ rfl h9) fun a73 e=>?_
 clear h9;have h14:=pt_ F e;replace F:=pu_ F e;replace h12:=so_ e h12;replace h13:=so_ e h13;clear e
 have Y:(execOp a73.eval oA3_3_6).run Try.prog w68=.ok (.value (.pointer (some ⟨w68.heap.size,0,none⟩))) (w68.alloc (.cells #[.int .i64 0,.string (⟨#[]⟩),.int .i64 0,.slice none 0 0] 24)):=by unfold oA3_3_6;go_simp
 have B74:=Blk.new w68 24 #[.int .i64 0,.string (⟨#[]⟩),.int .i64 0,.slice none 0 0]
 obtain ⟨w75,hw⟩:∃ x,x=w68.alloc (.cells #[.int .i64 0,.string (⟨#[]⟩),.int .i64 0,.slice none 0 0] 24):=⟨_,rfl⟩;rw [← hw] at Y B74
 obtain ⟨b74,hb⟩:∃ x,x=w68.heap.size:=⟨_,rfl⟩;rw [← hb] at Y B74
 have Nb60_b74:=nb_ hb B60;replace B60:=ba_ hw B60;have LK1_b74:=lk_ hb K1;replace K1:=ka_ hw K1;have LKXe_b74:=lk_ hb KXe;replace KXe:=ka_ hw KXe;clear hw hb
 refine sv_ gA3_3_6 Y fun a76 e=>?_;clear Y
 have h4:=pt_ F e;replace F:=pu_ F e;replace h12:=so_ e h12;replace h13:=so_ e h13;replace h14:=so_ e h14;clear e
 refine sv_ gA3_3_7 (ya_ rfl h12) fun a77 e=>?_
 clear h12;have h3:=pt_ F e;replace F:=pu_ F e;replace h4:=so_ e h4;replace h13:=so_ e h13;replace h14:=so_ e h14;clear e
 obtain ⟨w78,Y,hk,hB⟩:=ys4_ (o:=oA3_3_8) rfl h4 h13 B74
 replace K1:=kx_ hk K1 (Nat.not_lt.2 LK1_b74);replace KXe:=kx_ hk KXe (Nat.not_lt.2 LKXe_b74);replace B60:=bx_ hk B60 Nb60_b74;clear B74;have B74:=hB;clear hB hk
 refine st_skip gA3_3_8 rfl (wanted_free rfl) Y ?_;clear Y
 refine sv_ gA3_3_9 (ya_ rfl h14) fun a79 e=>?_
 clear h13 h14;have h5:=pt_ F e;replace F:=pu_ F e;replace h3:=so_ e h3;replace h4:=so_ e h4;clear e
 refine st_end ?_
 replace h1:=F.of h1;replace h2:=F.of h2;clear h8;have R:=F.r;clear F
 change (cA3_12).wp _ _ _ _
 refine wp_seq (x:=cA3_13) (y:=cA3_20) ?_
 refine wp_seq (x:=cA3_14) (y:=cA3_15) ?_
 change (Code.region 4 OA3_4 false).wp _ _ _ _
 refine reg_in (l:=[0,1,2]) rfl ?_
 have F:=fe_ R;clear R
 refine sv_ gA3_4_0 (yl4_ rfl (F.of h1) B60) fun a80 e=>?_
 have h15:=pt_ F e;replace F:=pu_ F e;clear e
 refine st_call gA3_4_1 rfl (wanted_free rfl) (yc1_ enA3_11 rfl h15) ((right_is (HT.out.on K1) HR.out).mono ?_)
 rintro e9 w81 ⟨rfl,kk⟩
 replace K1:=keep_onto K1 kk
 replace KXe:=keep_onto KXe kk
 replace B60:=blk_on B60 kk
 replace B74:=blk_on B74 kk
 clear kk
 refine ⟨_,rfl,fun a82 e=>?_⟩
 clear h15;have h16:=pt_ F e;replace F:=pu_ F e;clear e
 have Y:(execOp a82.eval oA3_4_2).run Try.prog w81=.ok (.value (.bool true)) w81:=by unfold oA3_4_2;go_simp
 refine sw_ gA3_4_2 Y F fun a83 F h17=>?_;clear Y h16
 refine st_end ?_
 replace h1:=F.of h1;replace h2:=F.of h2;replace h3:=F.of h3;replace h4:=F.of h4;replace h5:=F.of h5;have R:=F.r;clear F
 change (cA3_15).wp _ _ _ _
 refine wp_cond_true (x:=cA3_16) (y:=Code.skip) (eval_slot h17) ?_
 refine wp_seq (x:=cA3_17) (y:=Code.ret) ?_
 change (Code.region 5 OA3_5 false).wp _ _ _ _
 refine reg_in (l:=[0,1,2,3,4,5,6,7,8,9,10,11]) rfl ?_
 have F:=fe_ R;clear R
 refine sw_ gA3_5_0 (ym_ rfl (F.of h3)) F fun a84 F h18=>?_
 have Y:(execOp a84.eval oA3_5_1).run Try.prog w81=.ok (.value (.bool true)) w81:=by unfold oA3_5_1;go_simp
 refine sw_ gA3_5_1 Y F fun a85 F h19=>?_;clear Y h18
 refine sv_ gA3_5_2 (ym_ rfl h19) fun a86 e=>?_
 clear h19;have h20:=pt_ F e;replace F:=pu_ F e;clear e
 refine st_val gA3_5_3 rfl (wanted_is (j:=2) (d:=20) rfl rfl h20 rfl) (yf0_ rfl (F.of h4)) fun a87 e=>?_
 have h21:=pt_ F e;replace F:=pu_ F e;replace h20:=so_ e h20;clear e
 refine st_val gA3_5_4 rfl (wanted_is (j:=2) (d:=20) rfl rfl h20 rfl) (yk0_ rfl h21 B74) fun a88 e=>?_
 clear h21;have h22:=pt_ F e;replace F:=pu_ F e;replace h20:=so_ e h20;clear e
 have Y:(execOp a88.eval oA3_5_5).run Try.prog w81=.ok (.value (.bool true)) w81:=by have h8:zeroT.k=0:=rfl;unfold oA3_5_5;go_simp
 refine st_val gA3_5_5 rfl (wanted_is (j:=2) (d:=20) rfl rfl h20 rfl) Y fun a89 e=>?_;clear Y
 clear h22;have h23:=pt_ F e;replace F:=pu_ F e;replace h20:=so_ e h20;clear e
 have Y:(execOp a89.eval oA3_5_6).run Try.prog w81=.ok (.value (.bool true)) w81:=by unfold oA3_5_6;go_simp
 refine sw_ gA3_5_6 Y F fun a90 F h24=>?_;clear Y h20 h23
 refine sv_ gA3_5_7 (ym_ rfl h24) fun a91 e=>?_
 clear h24;have h25:=pt_ F e;replace F:=pu_ F e;clear e
 refine st_val gA3_5_8 rfl (wanted_is (j:=7) (d:=25) rfl rfl h25 rfl) (ym_ rfl (F.of h5)) fun a92 e=>?_
 have h26:=pt_ F e;replace F:=pu_ F e;replace h25:=so_ e h25;clear e
 have Y:(execOp a92.eval oA3_5_9).run Try.prog w81=.ok (.value (.bool true)) w81:=by unfold oA3_5_9;go_simp
 refine st_val gA3_5_9 rfl (wanted_is (j:=7) (d:=25) rfl rfl h25 rfl) Y fun a93 e=>?_;clear Y
 clear h26;have h27:=pt_ F e;replace F:=pu_ F e;replace h25:=so_ e h25;clear e
 have Y:(execOp a93.eval oA3_5_10).run Try.prog w81=.ok (.value (.bool true)) w81:=by unfold oA3_5_10;go_simp
 refine sw_ gA3_5_10 Y F fun a94 F h28=>?_;clear Y h25 h27
 refine sv_ gA3_5_11 (ya_ rfl h28) fun a95 e=>?_
 clear h28 h2;have h2:=pt_ F e;replace F:=pu_ F e;clear e
 refine st_end ?_
 replace h1:=F.of h1;replace h3:=F.of h3;replace h4:=F.of h4;replace h5:=F.of h5;clear h17;have R:=F.r;clear F
 change (Code.ret).wp _ _ _ _
 refine wp_ret ?_
 change bodyPost Try.prog Try.f3 (fun e w'=>e=.returned (.bool true)∧Keep (fun g=>g < W.heap.size) W w') .ret a95 w81
 refine ret_one rfl R h2 ?_
 exact ⟨rfl,K1⟩
theorem plays_walk {W:World} {t:Tm} {a:Option Addr} {c:Nat} (hT:TmAt W.heap.size W t a c):Calls Try.prog 3 #[tv t a c] W fun e w'=>e=.returned (.bool true)∧Keep (fun g=>g < W.heap.size) W w':=by
  refine enter_sx Try.func3 bodyA3 rfl (by show (1:Nat) ≤ 47;decide) fun f0 R hs=>?_
  cases h:t.right with
  | true=>exact plays_r R (hs 0 _ rfl) (Keep.refl _ W) (Lib.hid hT) (Lib.hid h) (Lib.hid (if_pos h)) (Lib.hid rfl) (Lib.hid (wo_P' t))
  | false=>exact plays_w R (hs 0 _ rfl) (Keep.refl _ W) (Lib.hid hT) (Lib.hid h) (Lib.hid (if_neg (by rw [h];decide))) (Lib.hid rfl) (Lib.hid (wo_P' t))
end Go.Proofs.Ytmgephleogiaoaa
