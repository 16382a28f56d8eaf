/-
  What a term is worth. No condition but where the term lies.
-/
import Derived.Test.YtmgephleogiaoaaNAr10
namespace Go.Proofs.Ytmgephleogiaoaa
open Go.RowKit Go.Maps
set_option linter.unusedVariables false
set_option linter.unusedSimpArgs false
theorem ret_tct {fn:Func} {R:Ending→World→Prop} {a:Act} {w:World} {t u s n b:Nat} {c0 c1 c2 c3 v v':Value} (hr:fn.results=#[.tmp u,.cell t 24,.tmp s]) (hF:FrS n a) (hu:a.tmps[u]? = some v) (h:a.tmps[t]? = some (.pointer (some ⟨b,0,none⟩))) (hs:a.tmps[s]? = some v') (hb:Blk w b 24 #[c0,c1,c2,c3]) (hR:R (.returned (.tuple #[v,.agg #[c0,c1,c2,c3],v'])) w):bodyPost Try.prog fn R .ret a w:=by
  refine ⟨hF.defers,.tuple #[v,.agg #[c0,c1,c2,c3],v'],?_,hR⟩
  have hl:=load_tm hb
  have e1':a.tmps[t]?.getD undef=.pointer (some ⟨b,0,none⟩):=by rw [h];rfl
  have e2':a.tmps[u]?.getD undef=v:=by rw [hu];rfl
  have e3':a.tmps[s]?.getD undef=v':=by rw [hs];rfl
  simp [results,hr,e1',e2',e3',asAddr,hl]
theorem isf_sx {w:World} {nm:List UInt8} {n:Nat} {z:Bool} (h:isFn nm n=z):Calls Try.prog 41 #[.string (str nm),.int .i64 n] w fun e w'=>e=.returned (.bool z)∧Keep (fun g=>g < w.heap.size) w w':=by
  subst h;exact isFunction_any w nm n
theorem str_empty (l:List UInt8):(str l).toList.isEmpty=l.isEmpty:=by rw [str_list]
theorem wo_2 {t:Tm} (h:t.k=2):wo t=.num t.i:=by cases t;simp only [Tm.k] at h;rw [wo,if_pos h];rfl
theorem wo_1 {t:Tm} (h:t.k=1):wo t=.bal (ballV instF):=by cases t;simp only [Tm.k] at h;rw [wo,if_neg (by omega),if_pos h]
theorem wo_3 {t:Tm} (h:t.k=3):wo t=.bal (ballV (evF t.nm 0)):=by cases t;simp only [Tm.k] at h;rw [wo,if_neg (by omega),if_neg (by omega),if_pos h];rfl
theorem wo_n {t:Tm} (h:t.k=4) (hf:isFn t.nm t.args.length=false):wo t=.bal (ballV (evF t.nm t.args.length)):=by
  cases t;simp only [Tm.k,Tm.nm,Tm.args] at *;rw [wo,if_neg (by omega),if_neg (by omega),if_neg (by omega),if_neg (by rw [hf];decide)]
theorem wo_f {t:Tm} (h:t.k=4) (hf:isFn t.nm t.args.length=true):wo t=woL t.nm t.args []:=by
  cases t;simp only [Tm.k,Tm.nm,Tm.args] at *;rw [wo,if_neg (by omega),if_neg (by omega),if_neg (by omega),if_pos hf]
theorem wo_step {t u:Tm} {xs:List Int} {j:Nat} (h:wo t=woL t.nm (t.args.drop j) xs) (hu:t.args[j]? = some u) (hk:(wo u).k=true):wo t=woL t.nm (t.args.drop (j + 1)) (xs ++ [(wo u).v]):=by
  obtain ⟨hj,he⟩:=List.getElem?_eq_some_iff.1 hu
  rw [List.drop_eq_getElem_cons hj,he,woL] at h
  rw [h]
  cases hw:wo u with
  | num v=>rfl
  | bal b=>rw [hw] at hk;cases hk
theorem wo_bal {t u:Tm} {xs:List Int} {j:Nat} (h:wo t=woL t.nm (t.args.drop j) xs) (hu:t.args[j]? = some u) (hk:(wo u).k=false):wo t=.bal (wo u).b:=by
  obtain ⟨hj,he⟩:=List.getElem?_eq_some_iff.1 hu
  rw [List.drop_eq_getElem_cons hj,he,woL] at h
  rw [h]
  cases hw:wo u with
  | num v=>rw [hw] at hk;cases hk
  | bal b=>rfl
theorem wo_end {t:Tm} {xs:List Int} {j:Nat} (h:wo t=woL t.nm (t.args.drop j) xs) (hj:t.args.length ≤ j) (hl:xs.length=t.args.length):wo t=resW (callR t.nm t.args.length (xs.getD 0 0) (xs.getD 1 0)):=by
  rw [List.drop_of_length_le hj,woL,hl] at h;exact h
theorem isFn_two {nm:List UInt8} {n:Nat} (h:isFn nm n=true):n ≤ 2:=by
  unfold isFn at h
  by_cases h1:n ≤ 2
  · exact h1
  · have a1:(n == 1)=false:=by rw [beq_eq_false_iff_ne];omega
    have a2:(n == 2)=false:=by rw [beq_eq_false_iff_ne];omega
    simp [a1,a2] at h
theorem getD_in {xs:List Int} {v:Int} (h:∀ k,inR (xs.getD k 0)) (hv:inR v):∀ k,inR ((xs ++ [v]).getD k 0):=by
  intro k
  rw [List.getD_eq_getElem?_getD]
  by_cases hk:k < xs.length
  · rw [List.getElem?_append_left hk,← List.getD_eq_getElem?_getD];exact h k
  · rw [List.getElem?_append_right (by omega)]
    by_cases h0:k - xs.length=0
    · rw [h0];exact hv
    · rw [List.getElem?_eq_none (by simp;omega)];exact inR_0
theorem yar_ {o:Oper} {a:Act} {w:World} {t u b j:Nat} {v:Int} {xs:List Int} (ho:o.op=.store 2 (.tmp t) (.tmp u)) (h:a.tmps[t]? = some (.pointer (some ⟨b,j,none⟩))) (hu:a.tmps[u]? = some (.int .i64 v)) (hb:Blk w b 60 #[.int .i64 (xs.getD 0 0),.int .i64 (xs.getD 1 0)]) (hl:xs.length=j) (hj:j < 2) :
    ∃ w',(execOp a.eval o).run Try.prog w=.ok .skip w'∧Keep (fun g=>g ≠ b) w w'∧Blk w' b 60 #[.int .i64 ((xs ++ [v]).getD 0 0),.int .i64 ((xs ++ [v]).getD 1 0)]:=by
  have z0:=hb.cell 0
  have z1:=hb.cell 1
  have f0:=hb.frozen 0;have f1:=hb.frozen 1
  match xs,hl with
  | [],hl =>
    subst hl
    refine ⟨w.setCell ⟨b,0,none⟩ (.int .i64 v),?_,(Keep.refl _ _).setCell (fun h=>h rfl) _,hb.set_ 0 _⟩
    simp at z0
    unfold execOp;simp only [ho];go_simp
  | [x],hl =>
    subst hl
    refine ⟨w.setCell ⟨b,1,none⟩ (.int .i64 v),?_,(Keep.refl _ _).setCell (fun h=>h rfl) _,hb.set_ 1 _⟩
    simp at z1 h
    unfold execOp;simp only [ho];go_simp
  | x::y::zs,hl=>simp at hl;omega
theorem resW_num {r:Rs} (h:r.2.isEmpty=true):resW r=.num r.1:=by rw [resW,if_pos (List.isEmpty_iff.1 h)]
theorem resW_bal {r:Rs} (h:¬ r.2.isEmpty=true):resW r=.bal (ballV (flF r.2)):=by rw [resW,if_neg (fun e=>h (List.isEmpty_iff.2 e))]
def WorthC (t:Tm):Prop:=∀ (W:World) (a:Option Addr) (c:Nat),TmAt W.heap.size W t a c→t.ok=true→Calls Try.prog 27 #[tv t a c] W fun e w'=>∃ a' c',e=.returned (.tuple #[.int .i64 (wo t).v,tv (wo t).b a' c',.bool (wo t).k])∧Own W.heap.size w' (wo t).b a' c'∧inR (wo t).v∧Keep (fun g=>g < W.heap.size) W w'
def oA27_0_0:Oper:=⟨some 1,Op.box 24 (Operand.tmp 0),0, "arith.go:35",#[],none⟩
def oA27_0_1:Oper:=⟨some 2,Op.assign (Operand.const (Value.int IntKind.i64 0)),2, "arith.go:35",#[],none⟩
def oA27_0_2:Oper:=⟨some 3,Op.alloc 24,0, "arith.go:35",#[],none⟩
def oA27_0_3:Oper:=⟨some 4,Op.assign (Operand.const (Value.bool false)),4, "arith.go:35",#[ec_ 1],none⟩
def OA27_0:Array Oper:=List.toArray (oA27_0_0::oA27_0_1::oA27_0_2::oA27_0_3::[])
theorem gA27_0_0:OA27_0[0]? = some oA27_0_0:=rfl
theorem gA27_0_1:OA27_0[1]? = some oA27_0_1:=rfl
theorem gA27_0_2:OA27_0[2]? = some oA27_0_2:=rfl
theorem gA27_0_3:OA27_0[3]? = some oA27_0_3:=rfl
def cA27_1:Code:=Code.region 0 OA27_0 false
def oA27_1_0:Oper:=⟨some 13,Op.fieldAddr 24 (Operand.tmp 1) 0,0, "arith.go:36",#[],none⟩
def oA27_1_1:Oper:=⟨some 14,Op.load 3 (Operand.tmp 13),3, "arith.go:36",#[ed_ 0],none⟩
def OA27_1:Array Oper:=List.toArray (oA27_1_0::oA27_1_1::[])
theorem gA27_1_0:OA27_1[0]? = some oA27_1_0:=rfl
theorem gA27_1_1:OA27_1[1]? = some oA27_1_1:=rfl
def cA27_4:Code:=Code.region 1 OA27_1 false
def oA27_2_0:Oper:=⟨some 16,Op.binOp Go.BinOp.eql 3 (Operand.tmp 14) (Operand.const (Value.int IntKind.i64 2)) 3,4, "arith.go:37",#[],none⟩
def oA27_2_1:Oper:=⟨some 15,Op.assign (Operand.tmp 16),4, "arith.go:37",#[ed_ 0],none⟩
def OA27_2:Array Oper:=List.toArray (oA27_2_0::oA27_2_1::[])
theorem gA27_2_0:OA27_2[0]? = some oA27_2_0:=rfl
theorem gA27_2_1:OA27_2[1]? = some oA27_2_1:=rfl
def cA27_7:Code:=Code.region 2 OA27_2 false
def oA27_3_0:Oper:=⟨some 17,Op.fieldAddr 24 (Operand.tmp 1) 2,0, "arith.go:38",#[],none⟩
def oA27_3_1:Oper:=⟨some 18,Op.load 2 (Operand.tmp 17),2, "arith.go:38",#[ed_ 0],none⟩
def oA27_3_2:Oper:=⟨some 19,Op.build 24 #[],24, "arith.go:38",#[{ on:=3,ground:=Go.Ground.gcOnly Go.Departure.lateStores }],none⟩
def oA27_3_3:Oper:=⟨some 2,Op.assign (Operand.tmp 18),2, "arith.go:38",#[ed_ 1,ep_ 0,ep_ 1,{ on:=2,ground:=Go.Ground.textOnly Go.Departure.lateStores }],none⟩
def oA27_3_4:Oper:=⟨none,Op.store 24 (Operand.tmp 3) (Operand.tmp 19),0, "arith.go:38",#[ed_ 2,ec_ 3,ep_ 0,ep_ 1,ep_ 2,ep_ 3],none⟩
def oA27_3_5:Oper:=⟨some 4,Op.assign (Operand.const (Value.bool true)),4, "arith.go:38",#[ec_ 4,ep_ 0,ep_ 1,ep_ 2,ep_ 3,ep_ 4],none⟩
def OA27_3:Array Oper:=List.toArray (oA27_3_0::oA27_3_1::oA27_3_2::oA27_3_3::oA27_3_4::oA27_3_5::[])
theorem gA27_3_0:OA27_3[0]? = some oA27_3_0:=rfl
theorem gA27_3_1:OA27_3[1]? = some oA27_3_1:=rfl
theorem gA27_3_2:OA27_3[2]? = some oA27_3_2:=rfl
theorem gA27_3_3:OA27_3[3]? = some oA27_3_3:=rfl
theorem gA27_3_4:OA27_3[4]? = some oA27_3_4:=rfl
theorem gA27_3_5:OA27_3[5]? = some oA27_3_5:=rfl
def cA27_10:Code:=Code.region 3 OA27_3 false
def cA27_9:Code:=Code.seq cA27_10 Code.ret
def oA27_4_0:Oper:=⟨some 21,Op.binOp Go.BinOp.eql 3 (Operand.tmp 14) (Operand.const (Value.int IntKind.i64 1)) 3,4, "arith.go:39",#[],none⟩
def oA27_4_1:Oper:=⟨some 20,Op.assign (Operand.tmp 21),4, "arith.go:39",#[ed_ 0],none⟩
def OA27_4:Array Oper:=List.toArray (oA27_4_0::oA27_4_1::[])
theorem gA27_4_0:OA27_4[0]? = some oA27_4_0:=rfl
theorem gA27_4_1:OA27_4[1]? = some oA27_4_1:=rfl
def cA27_13:Code:=Code.region 4 OA27_4 false
def oA27_5_0:Oper:=⟨some 22,Op.call { callee:=Callee.value (Operand.func 22),args:=#[Operand.const (Value.string { data:=#[105,110,115,116,97,110,116,105,97,116,105,111,110,95,101,114,114,111,114] }),Operand.const (Value.slice none 0 0)],argTypes:=#[9,22] },24, "arith.go:40",#[],none⟩
def oA27_5_1:Oper:=⟨some 2,Op.assign (Operand.const (Value.int IntKind.i64 0)),2, "arith.go:40",#[ec_ 0,{ on:=0,ground:=Go.Ground.textOnly Go.Departure.lateStoresUnsure }],none⟩
def oA27_5_2:Oper:=⟨none,Op.store 24 (Operand.tmp 3) (Operand.tmp 22),0, "arith.go:40",#[ed_ 0,ec_ 1,ep_ 0,ep_ 1],none⟩
def oA27_5_3:Oper:=⟨some 4,Op.assign (Operand.const (Value.bool false)),4, "arith.go:40",#[ec_ 2,ep_ 0,ep_ 1,ep_ 2],none⟩
def OA27_5:Array Oper:=List.toArray (oA27_5_0::oA27_5_1::oA27_5_2::oA27_5_3::[])
theorem gA27_5_0:OA27_5[0]? = some oA27_5_0:=rfl
theorem gA27_5_1:OA27_5[1]? = some oA27_5_1:=rfl
theorem gA27_5_2:OA27_5[2]? = some oA27_5_2:=rfl
theorem gA27_5_3:OA27_5[3]? = some oA27_5_3:=rfl
def cA27_16:Code:=Code.region 5 OA27_5 false
def cA27_15:Code:=Code.seq cA27_16 Code.ret
def oA27_6_0:Oper:=⟨some 24,Op.binOp Go.BinOp.eql 3 (Operand.tmp 14) (Operand.const (Value.int IntKind.i64 3)) 3,4, "arith.go:41",#[],none⟩
def oA27_6_1:Oper:=⟨some 23,Op.assign (Operand.tmp 24),4, "arith.go:41",#[ed_ 0],none⟩
def OA27_6:Array Oper:=List.toArray (oA27_6_0::oA27_6_1::[])
theorem gA27_6_0:OA27_6[0]? = some oA27_6_0:=rfl
theorem gA27_6_1:OA27_6[1]? = some oA27_6_1:=rfl
def cA27_19:Code:=Code.region 6 OA27_6 false
def oA27_7_0:Oper:=⟨some 25,Op.fieldAddr 24 (Operand.tmp 1) 1,0, "arith.go:42",#[],none⟩
def oA27_7_1:Oper:=⟨some 26,Op.load 9 (Operand.tmp 25),9, "arith.go:42",#[ed_ 0],none⟩
def oA27_7_2:Oper:=⟨some 27,Op.call { callee:=Callee.value (Operand.func 40),args:=#[Operand.tmp 26,Operand.const (Value.int IntKind.i64 0)],argTypes:=#[9,3] },24, "arith.go:42",#[ed_ 1],none⟩
def oA27_7_3:Oper:=⟨some 2,Op.assign (Operand.const (Value.int IntKind.i64 0)),2, "arith.go:42",#[ec_ 2,{ on:=0,ground:=Go.Ground.textOnly Go.Departure.lateStores },{ on:=1,ground:=Go.Ground.textOnly Go.Departure.lateStores },{ on:=2,ground:=Go.Ground.textOnly Go.Departure.lateStoresUnsure }],none⟩
def oA27_7_4:Oper:=⟨none,Op.store 24 (Operand.tmp 3) (Operand.tmp 27),0, "arith.go:42",#[ed_ 2,ec_ 3,ep_ 0,ep_ 1,ep_ 2,ep_ 3],none⟩
def oA27_7_5:Oper:=⟨some 4,Op.assign (Operand.const (Value.bool false)),4, "arith.go:42",#[ec_ 4,ep_ 0,ep_ 1,ep_ 2,ep_ 3,ep_ 4],none⟩
def OA27_7:Array Oper:=List.toArray (oA27_7_0::oA27_7_1::oA27_7_2::oA27_7_3::oA27_7_4::oA27_7_5::[])
theorem gA27_7_0:OA27_7[0]? = some oA27_7_0:=rfl
theorem gA27_7_1:OA27_7[1]? = some oA27_7_1:=rfl
theorem gA27_7_2:OA27_7[2]? = some oA27_7_2:=rfl
theorem gA27_7_3:OA27_7[3]? = some oA27_7_3:=rfl
theorem gA27_7_4:OA27_7[4]? = some oA27_7_4:=rfl
theorem gA27_7_5:OA27_7[5]? = some oA27_7_5:=rfl
def cA27_22:Code:=Code.region 7 OA27_7 false
def cA27_21:Code:=Code.seq cA27_22 Code.ret
def cA27_20:Code:=Code.cond (Operand.tmp 23) cA27_21 Code.skip
def cA27_18:Code:=Code.seq cA27_19 cA27_20
def cA27_14:Code:=Code.cond (Operand.tmp 20) cA27_15 cA27_18
def cA27_12:Code:=Code.seq cA27_13 cA27_14
def cA27_8:Code:=Code.cond (Operand.tmp 15) cA27_9 cA27_12
def cA27_6:Code:=Code.seq cA27_7 cA27_8
def cA27_5:Code:=Code.block 0 cA27_6
def cA27_3:Code:=Code.seq cA27_4 cA27_5
def oA27_8_0:Oper:=⟨some 28,Op.fieldAddr 24 (Operand.tmp 1) 1,0, "arith.go:44",#[],none⟩
def oA27_8_1:Oper:=⟨some 29,Op.load 9 (Operand.tmp 28),9, "arith.go:44",#[ed_ 0],none⟩
def oA27_8_2:Oper:=⟨some 30,Op.fieldAddr 24 (Operand.tmp 1) 3,0, "arith.go:44",#[],none⟩
def oA27_8_3:Oper:=⟨some 31,Op.load 22 (Operand.tmp 30),22, "arith.go:44",#[ed_ 2],none⟩
def oA27_8_4:Oper:=⟨some 32,Op.call { callee:=Callee.builtin Go.Builtin.len,args:=#[Operand.tmp 31],argTypes:=#[22] },3, "arith.go:44",#[ed_ 3],none⟩
def oA27_8_5:Oper:=⟨some 33,Op.call { callee:=Callee.value (Operand.func 41),args:=#[Operand.tmp 29,Operand.tmp 32],argTypes:=#[9,3] },4, "arith.go:44",#[ed_ 1,ed_ 4],none⟩
def oA27_8_6:Oper:=⟨some 34,Op.unOp Go.UnOp.not 4 (Operand.tmp 33),4, "arith.go:44",#[ed_ 5],none⟩
def OA27_8:Array Oper:=List.toArray (oA27_8_0::oA27_8_1::oA27_8_2::oA27_8_3::oA27_8_4::oA27_8_5::oA27_8_6::[])
theorem gA27_8_0:OA27_8[0]? = some oA27_8_0:=rfl
theorem gA27_8_1:OA27_8[1]? = some oA27_8_1:=rfl
theorem gA27_8_2:OA27_8[2]? = some oA27_8_2:=rfl
theorem gA27_8_3:OA27_8[3]? = some oA27_8_3:=rfl
theorem gA27_8_4:OA27_8[4]? = some oA27_8_4:=rfl
theorem gA27_8_5:OA27_8[5]? = some oA27_8_5:=rfl
theorem gA27_8_6:OA27_8[6]? = some oA27_8_6:=rfl
def cA27_27:Code:=Code.region 8 OA27_8 false
def oA27_9_0:Oper:=⟨some 35,Op.fieldAddr 24 (Operand.tmp 1) 1,0, "arith.go:45",#[],none⟩
def oA27_9_1:Oper:=⟨some 36,Op.load 9 (Operand.tmp 35),9, "arith.go:45",#[ed_ 0],none⟩
def oA27_9_2:Oper:=⟨some 37,Op.fieldAddr 24 (Operand.tmp 1) 3,0, "arith.go:45",#[],none⟩
def oA27_9_3:Oper:=⟨some 38,Op.load 22 (Operand.tmp 37),22, "arith.go:45",#[ed_ 2],none⟩
def oA27_9_4:Oper:=⟨some 39,Op.call { callee:=Callee.builtin Go.Builtin.len,args:=#[Operand.tmp 38],argTypes:=#[22] },3, "arith.go:45",#[ed_ 3],none⟩
def oA27_9_5:Oper:=⟨some 40,Op.call { callee:=Callee.value (Operand.func 40),args:=#[Operand.tmp 36,Operand.tmp 39],argTypes:=#[9,3] },24, "arith.go:45",#[ed_ 1,ed_ 4],none⟩
def oA27_9_6:Oper:=⟨some 2,Op.assign (Operand.const (Value.int IntKind.i64 0)),2, "arith.go:45",#[ec_ 5,{ on:=0,ground:=Go.Ground.textOnly Go.Departure.lateStores },{ on:=1,ground:=Go.Ground.textOnly Go.Departure.lateStores },{ on:=2,ground:=Go.Ground.textOnly Go.Departure.lateStores },{ on:=3,ground:=Go.Ground.textOnly Go.Departure.lateStores },{ on:=4,ground:=Go.Ground.textOnly Go.Departure.lateStoresUnsure },{ on:=5,ground:=Go.Ground.textOnly Go.Departure.lateStoresUnsure }],none⟩
def oA27_9_7:Oper:=⟨none,Op.store 24 (Operand.tmp 3) (Operand.tmp 40),0, "arith.go:45",#[ed_ 5,ec_ 6,ep_ 0,ep_ 1,ep_ 2,ep_ 3,ep_ 4,ep_ 5,ep_ 6],none⟩
def oA27_9_8:Oper:=⟨some 4,Op.assign (Operand.const (Value.bool false)),4, "arith.go:45",#[ec_ 7,ep_ 0,ep_ 1,ep_ 2,ep_ 3,ep_ 4,ep_ 5,ep_ 6,ep_ 7],none⟩
def OA27_9:Array Oper:=List.toArray (oA27_9_0::oA27_9_1::oA27_9_2::oA27_9_3::oA27_9_4::oA27_9_5::oA27_9_6::oA27_9_7::oA27_9_8::[])
theorem gA27_9_0:OA27_9[0]? = some oA27_9_0:=rfl
theorem gA27_9_1:OA27_9[1]? = some oA27_9_1:=rfl
theorem gA27_9_2:OA27_9[2]? = some oA27_9_2:=rfl
theorem gA27_9_3:OA27_9[3]? = some oA27_9_3:=rfl
theorem gA27_9_4:OA27_9[4]? = some oA27_9_4:=rfl
theorem gA27_9_5:OA27_9[5]? = some oA27_9_5:=rfl
theorem gA27_9_6:OA27_9[6]? = some oA27_9_6:=rfl
theorem gA27_9_7:OA27_9[7]? = some oA27_9_7:=rfl
theorem gA27_9_8:OA27_9[8]? = some oA27_9_8:=rfl
def cA27_30:Code:=Code.region 9 OA27_9 false
def cA27_29:Code:=Code.seq cA27_30 Code.ret
def cA27_28:Code:=Code.cond (Operand.tmp 34) cA27_29 Code.skip
def cA27_26:Code:=Code.seq cA27_27 cA27_28
def oA27_10_0:Oper:=⟨some 5,Op.alloc 60,0, "arith.go:47",#[],none⟩
def OA27_10:Array Oper:=List.toArray (oA27_10_0::[])
theorem gA27_10_0:OA27_10[0]? = some oA27_10_0:=rfl
def cA27_34:Code:=Code.region 10 OA27_10 false
def oA27_11_0:Oper:=⟨some 41,Op.fieldAddr 24 (Operand.tmp 1) 3,0, "arith.go:48",#[],none⟩
def oA27_11_1:Oper:=⟨some 42,Op.load 22 (Operand.tmp 41),22, "arith.go:48",#[ed_ 0],none⟩
def oA27_11_2:Oper:=⟨some 43,Op.call { callee:=Callee.builtin Go.Builtin.len,args:=#[Operand.tmp 42],argTypes:=#[22] },3, "arith.go:48",#[ed_ 1],none⟩
def oA27_11_3:Oper:=⟨some 44,Op.move (Operand.const (Value.int IntKind.i64 0)),3, "arith.go:48",#[],none⟩
def OA27_11:Array Oper:=List.toArray (oA27_11_0::oA27_11_1::oA27_11_2::oA27_11_3::[])
theorem gA27_11_0:OA27_11[0]? = some oA27_11_0:=rfl
theorem gA27_11_1:OA27_11[1]? = some oA27_11_1:=rfl
theorem gA27_11_2:OA27_11[2]? = some oA27_11_2:=rfl
theorem gA27_11_3:OA27_11[3]? = some oA27_11_3:=rfl
def cA27_37:Code:=Code.region 11 OA27_11 false
def oA27_12_0:Oper:=⟨some 45,Op.binOp Go.BinOp.lss 3 (Operand.tmp 44) (Operand.tmp 43) 3,0, "arith.go:48",#[],none⟩
def OA27_12:Array Oper:=List.toArray (oA27_12_0::[])
theorem gA27_12_0:OA27_12[0]? = some oA27_12_0:=rfl
def cA27_41:Code:=Code.region 12 OA27_12 false
def cA27_45:Code:=Code.exit 1
def cA27_43:Code:=Code.cond (Operand.tmp 45) Code.skip cA27_45
def oA27_13_0:Oper:=⟨some 46,Op.move (Operand.tmp 44),3, "arith.go:48",#[],none⟩
def oA27_13_1:Oper:=⟨some 47,Op.indexAddr 22 (Operand.tmp 42) (Operand.tmp 44),0, "arith.go:48",#[],none⟩
def oA27_13_2:Oper:=⟨some 48,Op.load 24 (Operand.tmp 47),24, "arith.go:48",#[ed_ 1],none⟩
def oA27_13_3:Oper:=⟨some 7,Op.alloc 24,0, "arith.go:48",#[],none⟩
def oA27_13_4:Oper:=⟨some 6,Op.assign (Operand.tmp 46),3, "arith.go:48",#[ed_ 0,ep_ 0,ep_ 1,ep_ 2,ep_ 3],none⟩
def oA27_13_5:Oper:=⟨none,Op.store 24 (Operand.tmp 7) (Operand.tmp 48),0, "arith.go:48",#[ed_ 3,ed_ 2,ec_ 4,ep_ 0,ep_ 1,ep_ 2,ep_ 3,ep_ 4],none⟩
def OA27_13:Array Oper:=List.toArray (oA27_13_0::oA27_13_1::oA27_13_2::oA27_13_3::oA27_13_4::oA27_13_5::[])
theorem gA27_13_0:OA27_13[0]? = some oA27_13_0:=rfl
theorem gA27_13_1:OA27_13[1]? = some oA27_13_1:=rfl
theorem gA27_13_2:OA27_13[2]? = some oA27_13_2:=rfl
theorem gA27_13_3:OA27_13[3]? = some oA27_13_3:=rfl
theorem gA27_13_4:OA27_13[4]? = some oA27_13_4:=rfl
theorem gA27_13_5:OA27_13[5]? = some oA27_13_5:=rfl
def cA27_49:Code:=Code.region 13 OA27_13 false
def oA27_14_0:Oper:=⟨some 50,Op.load 24 (Operand.tmp 7),24, "arith.go:49",#[],none⟩
def oA27_14_1:Oper:=⟨some 51,Op.call { callee:=Callee.value (Operand.func 27),args:=#[Operand.tmp 50],argTypes:=#[24] },26, "arith.go:49",#[ed_ 0],none⟩
def oA27_14_2:Oper:=⟨some 49,Op.move (Operand.tmp 51),26, "arith.go:49",#[ed_ 1],none⟩
def oA27_14_3:Oper:=⟨some 52,Op.extract (Operand.tmp 49) 0,2, "arith.go:49",#[ed_ 2],none⟩
def oA27_14_4:Oper:=⟨some 53,Op.extract (Operand.tmp 49) 1,24, "arith.go:49",#[ed_ 2,{ on:=7,ground:=Go.Ground.gcOnly Go.Departure.lateStores }],none⟩
def oA27_14_5:Oper:=⟨some 54,Op.extract (Operand.tmp 49) 2,4, "arith.go:49",#[ed_ 2,{ on:=8,ground:=Go.Ground.gcOnly Go.Departure.lateStores }],none⟩
def oA27_14_6:Oper:=⟨some 9,Op.alloc 24,0, "arith.go:49",#[],none⟩
def oA27_14_7:Oper:=⟨some 8,Op.assign (Operand.tmp 52),2, "arith.go:49",#[ed_ 3,ec_ 1,ep_ 0,ep_ 1,ep_ 2,ep_ 3,{ on:=4,ground:=Go.Ground.textOnly Go.Departure.lateStores },{ on:=5,ground:=Go.Ground.textOnly Go.Departure.lateStores },ep_ 6],none⟩
def oA27_14_8:Oper:=⟨none,Op.store 24 (Operand.tmp 9) (Operand.tmp 53),0, "arith.go:49",#[ed_ 6,ed_ 4,ec_ 7,ep_ 0,ep_ 1,ep_ 2,ep_ 3,ep_ 4,{ on:=5,ground:=Go.Ground.textOnly Go.Departure.lateStores },ep_ 6,ep_ 7],none⟩
def oA27_14_9:Oper:=⟨some 10,Op.assign (Operand.tmp 54),4, "arith.go:49",#[ed_ 5,ec_ 8,ep_ 0,ep_ 1,ep_ 2,ep_ 3,ep_ 4,ep_ 5,ep_ 6,ep_ 7,ep_ 8],none⟩
def OA27_14:Array Oper:=List.toArray (oA27_14_0::oA27_14_1::oA27_14_2::oA27_14_3::oA27_14_4::oA27_14_5::oA27_14_6::oA27_14_7::oA27_14_8::oA27_14_9::[])
theorem gA27_14_0:OA27_14[0]? = some oA27_14_0:=rfl
theorem gA27_14_1:OA27_14[1]? = some oA27_14_1:=rfl
theorem gA27_14_2:OA27_14[2]? = some oA27_14_2:=rfl
theorem gA27_14_3:OA27_14[3]? = some oA27_14_3:=rfl
theorem gA27_14_4:OA27_14[4]? = some oA27_14_4:=rfl
theorem gA27_14_5:OA27_14[5]? = some oA27_14_5:=rfl
theorem gA27_14_6:OA27_14[6]? = some oA27_14_6:=rfl
theorem gA27_14_7:OA27_14[7]? = some oA27_14_7:=rfl
theorem gA27_14_8:OA27_14[8]? = some oA27_14_8:=rfl
theorem gA27_14_9:OA27_14[9]? = some oA27_14_9:=rfl
def cA27_51:Code:=Code.region 14 OA27_14 false
def oA27_15_0:Oper:=⟨some 55,Op.move (Operand.tmp 10),4, "arith.go:50",#[],none⟩
def oA27_15_1:Oper:=⟨some 56,Op.unOp Go.UnOp.not 4 (Operand.tmp 55),4, "arith.go:50",#[ed_ 0],none⟩
def OA27_15:Array Oper:=List.toArray (oA27_15_0::oA27_15_1::[])
theorem gA27_15_0:OA27_15[0]? = some oA27_15_0:=rfl
theorem gA27_15_1:OA27_15[1]? = some oA27_15_1:=rfl
def cA27_54:Code:=Code.region 15 OA27_15 false
def oA27_16_0:Oper:=⟨some 57,Op.load 24 (Operand.tmp 9),24, "arith.go:51",#[{ on:=1,ground:=Go.Ground.gcOnly Go.Departure.lateStores }],none⟩
def oA27_16_1:Oper:=⟨some 2,Op.assign (Operand.const (Value.int IntKind.i64 0)),2, "arith.go:51",#[{ on:=0,ground:=Go.Ground.textOnly Go.Departure.lateStores }],none⟩
def oA27_16_2:Oper:=⟨none,Op.store 24 (Operand.tmp 3) (Operand.tmp 57),0, "arith.go:51",#[ed_ 0,ec_ 1,ep_ 0,ep_ 1],none⟩
def oA27_16_3:Oper:=⟨some 4,Op.assign (Operand.const (Value.bool false)),4, "arith.go:51",#[ec_ 2,ep_ 0,ep_ 1,ep_ 2],none⟩
def OA27_16:Array Oper:=List.toArray (oA27_16_0::oA27_16_1::oA27_16_2::oA27_16_3::[])
theorem gA27_16_0:OA27_16[0]? = some oA27_16_0:=rfl
theorem gA27_16_1:OA27_16[1]? = some oA27_16_1:=rfl
theorem gA27_16_2:OA27_16[2]? = some oA27_16_2:=rfl
theorem gA27_16_3:OA27_16[3]? = some oA27_16_3:=rfl
theorem nsA27_16:Region.noSelect OA27_16=true:=by kernel_rfl
def cA27_57:Code:=Code.region 16 OA27_16 true
def cA27_56:Code:=Code.seq cA27_57 Code.ret
def cA27_55:Code:=Code.cond (Operand.tmp 56) cA27_56 Code.skip
def cA27_53:Code:=Code.seq cA27_54 cA27_55
def oA27_17_0:Oper:=⟨some 58,Op.move (Operand.tmp 6),3, "arith.go:53",#[],none⟩
def oA27_17_1:Oper:=⟨some 59,Op.move (Operand.tmp 8),2, "arith.go:53",#[],none⟩
def oA27_17_2:Oper:=⟨some 60,Op.indexAddr 60 (Operand.tmp 5) (Operand.tmp 58),0, "arith.go:53",#[ed_ 0,ep_ 0,ep_ 1],none⟩
def oA27_17_3:Oper:=⟨none,Op.store 2 (Operand.tmp 60) (Operand.tmp 59),0, "arith.go:53",#[ed_ 2,ed_ 1,ep_ 0,ep_ 1],none⟩
def OA27_17:Array Oper:=List.toArray (oA27_17_0::oA27_17_1::oA27_17_2::oA27_17_3::[])
theorem gA27_17_0:OA27_17[0]? = some oA27_17_0:=rfl
theorem gA27_17_1:OA27_17[1]? = some oA27_17_1:=rfl
theorem gA27_17_2:OA27_17[2]? = some oA27_17_2:=rfl
theorem gA27_17_3:OA27_17[3]? = some oA27_17_3:=rfl
def cA27_60:Code:=Code.region 17 OA27_17 false
def cA27_52:Code:=Code.seq cA27_53 cA27_60
def cA27_50:Code:=Code.seq cA27_51 cA27_52
def cA27_48:Code:=Code.seq cA27_49 cA27_50
def cA27_47:Code:=Code.block 2 cA27_48
def oA27_18_0:Oper:=⟨some 61,Op.binOp Go.BinOp.add 3 (Operand.tmp 44) (Operand.const (Value.int IntKind.i64 1)) 3,3, "arith.go:48",#[],none⟩
def oA27_18_1:Oper:=⟨some 44,Op.move (Operand.tmp 61),3, "arith.go:48",#[ed_ 0],none⟩
def OA27_18:Array Oper:=List.toArray (oA27_18_0::oA27_18_1::[])
theorem gA27_18_0:OA27_18[0]? = some oA27_18_0:=rfl
theorem gA27_18_1:OA27_18[1]? = some oA27_18_1:=rfl
def cA27_61:Code:=Code.region 18 OA27_18 false
def cA27_46:Code:=Code.seq cA27_47 cA27_61
def cA27_42:Code:=Code.seq cA27_43 cA27_46
def cA27_40:Code:=Code.seq cA27_41 cA27_42
def cA27_39:Code:=Code.loop cA27_40
def cA27_38:Code:=Code.block 1 cA27_39
def cA27_36:Code:=Code.seq cA27_37 cA27_38
def oA27_19_0:Oper:=⟨some 63,Op.fieldAddr 24 (Operand.tmp 1) 1,0, "arith.go:55",#[],none⟩
def oA27_19_1:Oper:=⟨some 64,Op.load 9 (Operand.tmp 63),9, "arith.go:55",#[ed_ 0],none⟩
def oA27_19_2:Oper:=⟨some 65,Op.fieldAddr 24 (Operand.tmp 1) 3,0, "arith.go:55",#[],none⟩
def oA27_19_3:Oper:=⟨some 66,Op.load 22 (Operand.tmp 65),22, "arith.go:55",#[ed_ 2],none⟩
def oA27_19_4:Oper:=⟨some 67,Op.call { callee:=Callee.builtin Go.Builtin.len,args:=#[Operand.tmp 66],argTypes:=#[22] },3, "arith.go:55",#[ed_ 3],none⟩
def oA27_19_5:Oper:=⟨some 68,Op.load 60 (Operand.tmp 5),60, "arith.go:55",#[],none⟩
def oA27_19_6:Oper:=⟨some 69,Op.call { callee:=Callee.value (Operand.func 42),args:=#[Operand.tmp 64,Operand.tmp 67,Operand.tmp 68],argTypes:=#[9,3,60] },61, "arith.go:55",#[ed_ 1,ed_ 4,ed_ 5],none⟩
def oA27_19_7:Oper:=⟨some 62,Op.move (Operand.tmp 69),61, "arith.go:55",#[ed_ 6],none⟩
def oA27_19_8:Oper:=⟨some 70,Op.extract (Operand.tmp 62) 0,2, "arith.go:55",#[ed_ 7],none⟩
def oA27_19_9:Oper:=⟨some 71,Op.extract (Operand.tmp 62) 1,9, "arith.go:55",#[ed_ 7,{ on:=10,ground:=Go.Ground.gcOnly Go.Departure.lateStores }],none⟩
def oA27_19_10:Oper:=⟨some 11,Op.assign (Operand.tmp 70),2, "arith.go:55",#[ed_ 8,ec_ 6,ep_ 0,ep_ 1,ep_ 2,ep_ 3,ep_ 4,ep_ 5,ep_ 6,ep_ 7,ep_ 8,{ on:=9,ground:=Go.Ground.textOnly Go.Departure.lateStores }],none⟩
def oA27_19_11:Oper:=⟨some 12,Op.assign (Operand.tmp 71),9, "arith.go:55",#[ed_ 9,ec_ 10,ep_ 0,ep_ 1,ep_ 2,ep_ 3,ep_ 4,ep_ 5,ep_ 6,ep_ 7,ep_ 8,ep_ 9,ep_ 10],none⟩
def OA27_19:Array Oper:=List.toArray (oA27_19_0::oA27_19_1::oA27_19_2::oA27_19_3::oA27_19_4::oA27_19_5::oA27_19_6::oA27_19_7::oA27_19_8::oA27_19_9::oA27_19_10::oA27_19_11::[])
theorem gA27_19_0:OA27_19[0]? = some oA27_19_0:=rfl
theorem gA27_19_1:OA27_19[1]? = some oA27_19_1:=rfl
theorem gA27_19_2:OA27_19[2]? = some oA27_19_2:=rfl
theorem gA27_19_3:OA27_19[3]? = some oA27_19_3:=rfl
theorem gA27_19_4:OA27_19[4]? = some oA27_19_4:=rfl
theorem gA27_19_5:OA27_19[5]? = some oA27_19_5:=rfl
theorem gA27_19_6:OA27_19[6]? = some oA27_19_6:=rfl
theorem gA27_19_7:OA27_19[7]? = some oA27_19_7:=rfl
theorem gA27_19_8:OA27_19[8]? = some oA27_19_8:=rfl
theorem gA27_19_9:OA27_19[9]? = some oA27_19_9:=rfl
theorem gA27_19_10:OA27_19[10]? = some oA27_19_10:=rfl
theorem gA27_19_11:OA27_19[11]? = some oA27_19_11:=rfl
def cA27_63:Code:=Code.region 19 OA27_19 false
def oA27_20_0:Oper:=⟨some 72,Op.move (Operand.tmp 12),9, "arith.go:56",#[],none⟩
def oA27_20_1:Oper:=⟨some 73,Op.binOp Go.BinOp.neq 9 (Operand.tmp 72) (Operand.const (Value.string { data:=#[] })) 9,4, "arith.go:56",#[ed_ 0],none⟩
def OA27_20:Array Oper:=List.toArray (oA27_20_0::oA27_20_1::[])
theorem gA27_20_0:OA27_20[0]? = some oA27_20_0:=rfl
theorem gA27_20_1:OA27_20[1]? = some oA27_20_1:=rfl
def cA27_66:Code:=Code.region 20 OA27_20 false
def oA27_21_0:Oper:=⟨some 74,Op.move (Operand.tmp 12),9, "arith.go:57",#[],none⟩
def oA27_21_1:Oper:=⟨some 75,Op.call { callee:=Callee.value (Operand.func 38),args:=#[Operand.tmp 74],argTypes:=#[9] },24, "arith.go:57",#[ed_ 0],none⟩
def oA27_21_2:Oper:=⟨some 76,Op.buildSlice 22 1 #[(0,Operand.tmp 75)],22, "arith.go:57",#[ed_ 1],none⟩
def oA27_21_3:Oper:=⟨some 77,Op.call { callee:=Callee.value (Operand.func 22),args:=#[Operand.const (Value.string { data:=#[101,118,97,108,117,97,116,105,111,110,95,101,114,114,111,114] }),Operand.tmp 76],argTypes:=#[9,22] },24, "arith.go:57",#[ed_ 2,ec_ 1],none⟩
def oA27_21_4:Oper:=⟨some 2,Op.assign (Operand.const (Value.int IntKind.i64 0)),2, "arith.go:57",#[ec_ 3,{ on:=0,ground:=Go.Ground.textOnly Go.Departure.lateStores },{ on:=1,ground:=Go.Ground.textOnly Go.Departure.lateStoresUnsure },{ on:=2,ground:=Go.Ground.textOnly Go.Departure.lateStores },{ on:=3,ground:=Go.Ground.textOnly Go.Departure.lateStoresUnsure }],none⟩
def oA27_21_5:Oper:=⟨none,Op.store 24 (Operand.tmp 3) (Operand.tmp 77),0, "arith.go:57",#[ed_ 3,ec_ 4,ep_ 0,ep_ 1,ep_ 2,ep_ 3,ep_ 4],none⟩
def oA27_21_6:Oper:=⟨some 4,Op.assign (Operand.const (Value.bool false)),4, "arith.go:57",#[ec_ 5,ep_ 0,ep_ 1,ep_ 2,ep_ 3,ep_ 4,ep_ 5],none⟩
def OA27_21:Array Oper:=List.toArray (oA27_21_0::oA27_21_1::oA27_21_2::oA27_21_3::oA27_21_4::oA27_21_5::oA27_21_6::[])
theorem gA27_21_0:OA27_21[0]? = some oA27_21_0:=rfl
theorem gA27_21_1:OA27_21[1]? = some oA27_21_1:=rfl
theorem gA27_21_2:OA27_21[2]? = some oA27_21_2:=rfl
theorem gA27_21_3:OA27_21[3]? = some oA27_21_3:=rfl
theorem gA27_21_4:OA27_21[4]? = some oA27_21_4:=rfl
theorem gA27_21_5:OA27_21[5]? = some oA27_21_5:=rfl
theorem gA27_21_6:OA27_21[6]? = some oA27_21_6:=rfl
def cA27_69:Code:=Code.region 21 OA27_21 false
def cA27_68:Code:=Code.seq cA27_69 Code.ret
def cA27_67:Code:=Code.cond (Operand.tmp 73) cA27_68 Code.skip
def cA27_65:Code:=Code.seq cA27_66 cA27_67
def oA27_22_0:Oper:=⟨some 78,Op.move (Operand.tmp 11),2, "arith.go:59",#[],none⟩
def oA27_22_1:Oper:=⟨some 79,Op.build 24 #[],24, "arith.go:59",#[{ on:=2,ground:=Go.Ground.gcOnly Go.Departure.lateStores }],none⟩
def oA27_22_2:Oper:=⟨some 2,Op.assign (Operand.tmp 78),2, "arith.go:59",#[ed_ 0,ep_ 0,{ on:=1,ground:=Go.Ground.textOnly Go.Departure.lateStores }],none⟩
def oA27_22_3:Oper:=⟨none,Op.store 24 (Operand.tmp 3) (Operand.tmp 79),0, "arith.go:59",#[ed_ 1,ec_ 2,ep_ 0,ep_ 1,ep_ 2],none⟩
def oA27_22_4:Oper:=⟨some 4,Op.assign (Operand.const (Value.bool true)),4, "arith.go:59",#[ec_ 3,ep_ 0,ep_ 1,ep_ 2,ep_ 3],none⟩
def OA27_22:Array Oper:=List.toArray (oA27_22_0::oA27_22_1::oA27_22_2::oA27_22_3::oA27_22_4::[])
theorem gA27_22_0:OA27_22[0]? = some oA27_22_0:=rfl
theorem gA27_22_1:OA27_22[1]? = some oA27_22_1:=rfl
theorem gA27_22_2:OA27_22[2]? = some oA27_22_2:=rfl
theorem gA27_22_3:OA27_22[3]? = some oA27_22_3:=rfl
theorem gA27_22_4:OA27_22[4]? = some oA27_22_4:=rfl
def cA27_73:Code:=Code.region 22 OA27_22 false
def cA27_72:Code:=Code.seq cA27_73 Code.ret
def cA27_64:Code:=Code.seq cA27_65 cA27_72
def cA27_62:Code:=Code.seq cA27_63 cA27_64
def cA27_35:Code:=Code.seq cA27_36 cA27_62
def cA27_33:Code:=Code.seq cA27_34 cA27_35
def cA27_25:Code:=Code.seq cA27_26 cA27_33
def cA27_2:Code:=Code.seq cA27_3 cA27_25
def cA27_0:Code:=Code.seq cA27_1 cA27_2
theorem enA27_27:Enters Try.prog 27:=enters_of Try.func27 (by kernel_rfl) rfl
theorem enA27_38:Enters Try.prog 38:=enters_of Try.func38 (by kernel_rfl) rfl
theorem enA27_40:Enters Try.prog 40:=enters_of Try.func40 (by kernel_rfl) rfl
theorem enA27_41:Enters Try.prog 41:=enters_of Try.func41 (by kernel_rfl) rfl
theorem bodyA27:Try.f27.body=some cA27_0:=by kernel_rfl
set_option maxRecDepth 100000 in
set_option maxHeartbeats 4000000 in
theorem worth_a {W:World} {t:Tm} {a:Option Addr} {c:Nat} {f0:Act} {w0:World} (R:FrS 80 f0) (h0:f0.tmps[0]? = some (.agg #[.int .i64 t.k,.string (str t.nm),.int .i64 t.i,.slice a t.args.length c])) (K1:Keep (fun g=>g < W.heap.size) W w0)  (HT:Hid (TmAt W.heap.size W t a c)) (HOK:Hid (t.ok=true)) (HNM:Hid (t.nm.length ≤ maxLen)) (HLN:Hid (t.args.length ≤ maxLen)) (HI:Hid ((Lit.int .i64 t.i).wf=true)) (HFN:Hid (t.k=4→isFn t.nm t.args.length=false)):cA27_0.wp Try.prog (bodyPost Try.prog Try.f27 (fun e w'=>∃ a' c',e=.returned (.tuple #[.int .i64 (wo t).v,tv (wo t).b a' c',.bool (wo t).k])∧Own W.heap.size w' (wo t).b a' c'∧inR (wo t).v∧Keep (fun g=>g < W.heap.size) W w')) f0 w0:=by
 refine wp_seq (x:=cA27_1) (y:=cA27_2) ?_
 change (Code.region 0 OA27_0 false).wp _ _ _ _
 refine reg_in (l:=[0,1,2,3]) rfl ?_
 have F:=fe_ R;clear R
 have Y:(execOp f0.eval oA27_0_0).run Try.prog w0=.ok (.value (.pointer (some ⟨w0.heap.size,0,none⟩))) (w0.alloc (.cells #[.int .i64 t.k,.string (str t.nm),.int .i64 t.i,.slice a t.args.length c] 24)):=by have r0:=F.of h0;unfold oA27_0_0;go_simp
 have B1:=Blk.new w0 24 #[.int .i64 t.k,.string (str t.nm),.int .i64 t.i,.slice a t.args.length c]
 obtain ⟨w2,hw⟩:∃ x,x=w0.alloc (.cells #[.int .i64 t.k,.string (str t.nm),.int .i64 t.i,.slice a t.args.length c] 24):=⟨_,rfl⟩;rw [← hw] at Y B1
 obtain ⟨b1,hb⟩:∃ x,x=w0.heap.size:=⟨_,rfl⟩;rw [← hb] at Y B1
 have LK1_b1:=lk_ hb K1;replace K1:=ka_ hw K1;clear hw hb
 refine sw_ gA27_0_0 Y F fun a3 F h1=>?_;clear Y
 have Y:(execOp a3.eval oA27_0_1).run Try.prog w2=.ok (.value (.int .i64 0)) w2:=by unfold oA27_0_1;go_simp
 refine sv_ gA27_0_1 Y fun a4 e=>?_;clear Y
 have h2:=pt_ F e;replace F:=pu_ F e;replace h1:=so_ e h1;clear e
 have Y:(execOp a4.eval oA27_0_2).run Try.prog w2=.ok (.value (.pointer (some ⟨w2.heap.size,0,none⟩))) (w2.alloc (.cells #[.int .i64 0,.string (⟨#[]⟩),.int .i64 0,.slice none 0 0] 24)):=by unfold oA27_0_2;go_simp
 have B5:=Blk.new w2 24 #[.int .i64 0,.string (⟨#[]⟩),.int .i64 0,.slice none 0 0]
 obtain ⟨w6,hw⟩:∃ x,x=w2.alloc (.cells #[.int .i64 0,.string (⟨#[]⟩),.int .i64 0,.slice none 0 0] 24):=⟨_,rfl⟩;rw [← hw] at Y B5
 obtain ⟨b5,hb⟩:∃ x,x=w2.heap.size:=⟨_,rfl⟩;rw [← hb] at Y B5
 have Nb1_b5:=nb_ hb B1;replace B1:=ba_ hw B1;have LK1_b5:=lk_ hb K1;replace K1:=ka_ hw K1;clear hw hb
 refine sv_ gA27_0_2 Y fun a7 e=>?_;clear Y
 have h3:=pt_ F e;replace F:=pu_ F e;replace h1:=so_ e h1;replace h2:=so_ e h2;clear e
 have Y:(execOp a7.eval oA27_0_3).run Try.prog w6=.ok (.value (.bool false)) w6:=by unfold oA27_0_3;go_simp
 refine sv_ gA27_0_3 Y fun a8 e=>?_;clear Y
 have h4:=pt_ F e;replace F:=pu_ F e;replace h1:=so_ e h1;replace h2:=so_ e h2;replace h3:=so_ e h3;clear e
 refine st_end ?_
 clear h0;have R:=F.r;clear F
 change (cA27_2).wp _ _ _ _
 refine wp_seq (x:=cA27_3) (y:=cA27_25) ?_
 refine wp_seq (x:=cA27_4) (y:=cA27_5) ?_
 change (Code.region 1 OA27_1 false).wp _ _ _ _
 refine reg_in (l:=[0,1]) rfl ?_
 have F:=fe_ R;clear R
 refine sv_ gA27_1_0 (yf0_ rfl (F.of h1)) fun a9 e=>?_
 have h13:=pt_ F e;replace F:=pu_ F e;clear e
 refine sv_ gA27_1_1 (yk0_ rfl h13 B1) fun a10 e=>?_
 clear h13;have h14:=pt_ F e;replace F:=pu_ F e;clear e
 refine st_end ?_
 replace h1:=F.of h1;replace h2:=F.of h2;replace h3:=F.of h3;replace h4:=F.of h4;have R:=F.r;clear F
 change (cA27_5).wp _ _ _ _
 refine wp_block (id:=0) (c:=cA27_6) ?_
 refine wp_seq (x:=cA27_7) (y:=cA27_8) ?_
 change (Code.region 2 OA27_2 false).wp _ _ _ _
 refine reg_in (l:=[0,1]) rfl ?_
 have F:=fe_ R;clear R
 obtain ⟨b11,hb11⟩:∃ x,(((t.k:Int) == (2:Int)))=x:=⟨_,rfl⟩
 have Y:(execOp a10.eval oA27_2_0).run Try.prog w6=.ok (.value (.bool b11)) w6:=by have r14:=F.of h14;rw [← hb11];unfold oA27_2_0;go_simp
 refine sw_ gA27_2_0 Y F fun a12 F h16=>?_;clear Y
 refine sv_ gA27_2_1 (ya_ rfl h16) fun a13 e=>?_
 clear h16;have h15:=pt_ F e;replace F:=pu_ F e;clear e
 refine st_end ?_
 replace h1:=F.of h1;replace h2:=F.of h2;replace h3:=F.of h3;replace h4:=F.of h4;replace h14:=F.of h14;have R:=F.r;clear F
 change (cA27_8).wp _ _ _ _
 cases b11 with
 | false =>
  have fb11:=hb11;clear hb11
  simp only [dd_] at fb11
  refine wp_cond_false (x:=cA27_9) (y:=cA27_12) (eval_slot h15) ?_
  refine wp_seq (x:=cA27_13) (y:=cA27_14) ?_
  change (Code.region 4 OA27_4 false).wp _ _ _ _
  refine reg_in (l:=[0,1]) rfl ?_
  have F:=fe_ R;clear R
  obtain ⟨b14,hb14⟩:∃ x,(((t.k:Int) == (1:Int)))=x:=⟨_,rfl⟩
  have Y:(execOp a13.eval oA27_4_0).run Try.prog w6=.ok (.value (.bool b14)) w6:=by have r14:=F.of h14;rw [← hb14];unfold oA27_4_0;go_simp
  refine sw_ gA27_4_0 Y F fun a15 F h21=>?_;clear Y
  refine sv_ gA27_4_1 (ya_ rfl h21) fun a16 e=>?_
  clear h21;have h20:=pt_ F e;replace F:=pu_ F e;clear e
  refine st_end ?_
  replace h1:=F.of h1;replace h2:=F.of h2;replace h3:=F.of h3;replace h4:=F.of h4;replace h14:=F.of h14;clear h15;have R:=F.r;clear F
  change (cA27_14).wp _ _ _ _
  cases b14 with
  | false =>
   have fb14:=hb14;clear hb14
   simp only [dd_] at fb14
   refine wp_cond_false (x:=cA27_15) (y:=cA27_18) (eval_slot h20) ?_
   refine wp_seq (x:=cA27_19) (y:=cA27_20) ?_
   change (Code.region 6 OA27_6 false).wp _ _ _ _
   refine reg_in (l:=[0,1]) rfl ?_
   have F:=fe_ R;clear R
   obtain ⟨b17,hb17⟩:∃ x,(((t.k:Int) == (3:Int)))=x:=⟨_,rfl⟩
   have Y:(execOp a16.eval oA27_6_0).run Try.prog w6=.ok (.value (.bool b17)) w6:=by have r14:=F.of h14;rw [← hb17];unfold oA27_6_0;go_simp
   refine sw_ gA27_6_0 Y F fun a18 F h24=>?_;clear Y
   refine sv_ gA27_6_1 (ya_ rfl h24) fun a19 e=>?_
   clear h24;have h23:=pt_ F e;replace F:=pu_ F e;clear e
   refine st_end ?_
   replace h1:=F.of h1;replace h2:=F.of h2;replace h3:=F.of h3;replace h4:=F.of h4;clear h14;clear h20;have R:=F.r;clear F
   change (cA27_20).wp _ _ _ _
   cases b17 with
   | false =>
    have fb17:=hb17;clear hb17
    simp only [dd_] at fb17
    refine wp_cond_false (x:=cA27_21) (y:=Code.skip) (eval_slot h23) ?_
    refine wp_skip ?_
    change (cA27_25).wp _ _ _ _
    refine wp_seq (x:=cA27_26) (y:=cA27_33) ?_
    refine wp_seq (x:=cA27_27) (y:=cA27_28) ?_
    change (Code.region 8 OA27_8 false).wp _ _ _ _
    refine reg_in (l:=[0,1,2,3,4,5,6]) rfl ?_
    have F:=fe_ R;clear R
    refine sv_ gA27_8_0 (yf1_ rfl (F.of h1)) fun a20 e=>?_
    have h28:=pt_ F e;replace F:=pu_ F e;clear e
    refine sv_ gA27_8_1 (yk1_ rfl h28 B1) fun a21 e=>?_
    clear h28;have h29:=pt_ F e;replace F:=pu_ F e;clear e
    refine sv_ gA27_8_2 (yf3_ rfl (F.of h1)) fun a22 e=>?_
    have h30:=pt_ F e;replace F:=pu_ F e;replace h29:=so_ e h29;clear e
    refine sv_ gA27_8_3 (yk3_ rfl h30 B1) fun a23 e=>?_
    clear h30;have h31:=pt_ F e;replace F:=pu_ F e;replace h29:=so_ e h29;clear e
    have Y:(execOp a23.eval oA27_8_4).run Try.prog w6=.ok (.value (.int .i64 t.args.length)) w6:=by unfold oA27_8_4;go_simp
    refine sv_ gA27_8_4 Y fun a24 e=>?_;clear Y
    clear h31;have h32:=pt_ F e;replace F:=pu_ F e;replace h29:=so_ e h29;clear e
    refine st_call gA27_8_5 rfl (wanted_free rfl) (yc2_ enA27_41 rfl h29 h32) ((isf_sx (HFN.out (by have h9:=Tm.ok_kind HOK.out;omega))).mono ?_)
    rintro e9 w25 ⟨rfl,kk⟩
    replace K1:=keep_onto K1 kk
    replace B1:=blk_on B1 kk
    replace B5:=blk_on B5 kk
    clear kk
    refine ⟨_,rfl,fun a26 e=>?_⟩
    clear h29 h32;have h33:=pt_ F e;replace F:=pu_ F e;clear e
    have Y:(execOp a26.eval oA27_8_6).run Try.prog w25=.ok (.value (.bool true)) w25:=by unfold oA27_8_6;go_simp
    refine sw_ gA27_8_6 Y F fun a27 F h34=>?_;clear Y h33
    refine st_end ?_
    replace h1:=F.of h1;replace h2:=F.of h2;replace h3:=F.of h3;replace h4:=F.of h4;clear h23;have R:=F.r;clear F
    change (cA27_28).wp _ _ _ _
    refine wp_cond_true (x:=cA27_29) (y:=Code.skip) (eval_slot h34) ?_
    refine wp_seq (x:=cA27_30) (y:=Code.ret) ?_
    change (Code.region 9 OA27_9 false).wp _ _ _ _
    refine reg_in (l:=[0,1,2,3,4,5,6,7,8]) rfl ?_
    have F:=fe_ R;clear R
    refine sv_ gA27_9_0 (yf1_ rfl (F.of h1)) fun a28 e=>?_
    have h35:=pt_ F e;replace F:=pu_ F e;clear e
    refine sv_ gA27_9_1 (yk1_ rfl h35 B1) fun a29 e=>?_
    clear h35;have h36:=pt_ F e;replace F:=pu_ F e;clear e
    refine sv_ gA27_9_2 (yf3_ rfl (F.of h1)) fun a30 e=>?_
    have h37:=pt_ F e;replace F:=pu_ F e;replace h36:=so_ e h36;clear e
    refine sv_ gA27_9_3 (yk3_ rfl h37 B1) fun a31 e=>?_
    clear h37;have h38:=pt_ F e;replace F:=pu_ F e;replace h36:=so_ e h36;clear e
    have Y:(execOp a31.eval oA27_9_4).run Try.prog w25=.ok (.value (.int .i64 t.args.length)) w25:=by unfold oA27_9_4;go_simp
    refine sv_ gA27_9_4 Y fun a32 e=>?_;clear Y
    clear h38;have h39:=pt_ F e;replace F:=pu_ F e;replace h36:=so_ e h36;clear e
    have hca:=notEv_any (W:=w25) (nm:=t.nm) (n:=(t.args.length:Int)) HNM.out (ik_wf (by omega) (by have h8:=HLN.out;unfold maxLen at h8;omega))
    have UKX_b1:=B1.lt
    have UKX_b5:=B5.lt
    have HWKX:W.heap.size ≤ w25.heap.size:=K1.size
    refine st_call gA27_9_5 rfl (wanted_free rfl) (yc2_ enA27_40 rfl h36 h39) ((hca).mono ?_)
    rintro e9 w33 ⟨ax,cx,rfl,hx,kk⟩
    replace K1:=keep_onto K1 kk
    replace B1:=blk_on B1 kk
    replace B5:=blk_on B5 kk
    clear kk
    clear hca
    have HX:=Lib.hid hx;clear hx
    have KX:=Keep.refl (fun g=>w25.heap.size ≤ g∧g < w33.heap.size) w33
    refine ⟨_,rfl,fun a34 e=>?_⟩
    clear h36 h39;have h40:=pt_ F e;replace F:=pu_ F e;clear e
    have Y:(execOp a34.eval oA27_9_6).run Try.prog w33=.ok (.value (.int .i64 0)) w33:=by unfold oA27_9_6;go_simp
    refine sv_ gA27_9_6 Y fun a35 e=>?_;clear Y
    clear h2;have h2:=pt_ F e;replace F:=pu_ F e;replace h40:=so_ e h40;clear e
    obtain ⟨w36,Y,hk,hB⟩:=ys4_ (o:=oA27_9_7) rfl (F.of h3) h40 B5
    replace K1:=kx_ hk K1 (Nat.not_lt.2 LK1_b5);replace KX:=kx_ hk KX (fun hx=>absurd hx.1 (Nat.not_le.2 UKX_b5));replace B1:=bx_ hk B1 Nb1_b5;clear B5;have B5:=hB;clear hB hk
    refine st_skip gA27_9_7 rfl (wanted_free rfl) Y ?_;clear Y
    have Y:(execOp a35.eval oA27_9_8).run Try.prog w36=.ok (.value (.bool false)) w36:=by unfold oA27_9_8;go_simp
    refine sv_ gA27_9_8 Y fun a37 e=>?_;clear Y
    clear h40 h4;have h4:=pt_ F e;replace F:=pu_ F e;replace h2:=so_ e h2;clear e
    refine st_end ?_
    replace h1:=F.of h1;replace h3:=F.of h3;clear h34;have R:=F.r;clear F
    change (Code.ret).wp _ _ _ _
    refine wp_ret ?_
    change bodyPost Try.prog Try.f27 (fun e w'=>∃ a' c',e=.returned (.tuple #[.int .i64 (wo t).v,tv (wo t).b a' c',.bool (wo t).k])∧Own W.heap.size w' (wo t).b a' c'∧inR (wo t).v∧Keep (fun g=>g < W.heap.size) W w') .ret a37 w36
    refine ret_tct (fn:=Try.f27) rfl R h2 h3 h4 B5 ?_
    rw [wo_n (by have h9:=Tm.ok_kind HOK.out;omega) (HFN.out (by have h9:=Tm.ok_kind HOK.out;omega))];exact ⟨ax,cx,rfl,(HX.out.on KX).up HWKX,inR_0,K1⟩
   | true =>
    have fb17:=hb17;clear hb17
    simp only [dd_] at fb17
    refine wp_cond_true (x:=cA27_21) (y:=Code.skip) (eval_slot h23) ?_
    refine wp_seq (x:=cA27_22) (y:=Code.ret) ?_
    change (Code.region 7 OA27_7 false).wp _ _ _ _
    refine reg_in (l:=[0,1,2,3,4,5]) rfl ?_
    have F:=fe_ R;clear R
    refine sv_ gA27_7_0 (yf1_ rfl (F.of h1)) fun a38 e=>?_
    have h25:=pt_ F e;replace F:=pu_ F e;clear e
    refine sv_ gA27_7_1 (yk1_ rfl h25 B1) fun a39 e=>?_
    clear h25;have h26:=pt_ F e;replace F:=pu_ F e;clear e
    have Y:(execOp a39.eval oA27_7_2).run Try.prog w6=.ok (.enter 40 #[.string (str t.nm),.int .i64 0]) w6:=by unfold oA27_7_2;go_simp
    have hca:=notEv_any (W:=w6) (nm:=t.nm) (n:=0) HNM.out (by decide)
    have UKX_b1:=B1.lt
    have UKX_b5:=B5.lt
    have HWKX:W.heap.size ≤ w6.heap.size:=K1.size
    refine st_call gA27_7_2 rfl (wanted_free rfl) Y ((hca).mono ?_);clear Y
    rintro e9 w40 ⟨ax,cx,rfl,hx,kk⟩
    replace K1:=keep_onto K1 kk
    replace B1:=blk_on B1 kk
    replace B5:=blk_on B5 kk
    clear kk
    clear hca
    have HX:=Lib.hid hx;clear hx
    have KX:=Keep.refl (fun g=>w6.heap.size ≤ g∧g < w40.heap.size) w40
    refine ⟨_,rfl,fun a41 e=>?_⟩
    clear h26;have h27:=pt_ F e;replace F:=pu_ F e;clear e
    have Y:(execOp a41.eval oA27_7_3).run Try.prog w40=.ok (.value (.int .i64 0)) w40:=by unfold oA27_7_3;go_simp
    refine sv_ gA27_7_3 Y fun a42 e=>?_;clear Y
    clear h2;have h2:=pt_ F e;replace F:=pu_ F e;replace h27:=so_ e h27;clear e
    obtain ⟨w43,Y,hk,hB⟩:=ys4_ (o:=oA27_7_4) rfl (F.of h3) h27 B5
    replace K1:=kx_ hk K1 (Nat.not_lt.2 LK1_b5);replace KX:=kx_ hk KX (fun hx=>absurd hx.1 (Nat.not_le.2 UKX_b5));replace B1:=bx_ hk B1 Nb1_b5;clear B5;have B5:=hB;clear hB hk
    refine st_skip gA27_7_4 rfl (wanted_free rfl) Y ?_;clear Y
    have Y:(execOp a42.eval oA27_7_5).run Try.prog w43=.ok (.value (.bool false)) w43:=by unfold oA27_7_5;go_simp
    refine sv_ gA27_7_5 Y fun a44 e=>?_;clear Y
    clear h27 h4;have h4:=pt_ F e;replace F:=pu_ F e;replace h2:=so_ e h2;clear e
    refine st_end ?_
    replace h1:=F.of h1;replace h3:=F.of h3;clear h23;have R:=F.r;clear F
    change (Code.ret).wp _ _ _ _
    refine wp_ret ?_
    change bodyPost Try.prog Try.f27 (fun e w'=>∃ a' c',e=.returned (.tuple #[.int .i64 (wo t).v,tv (wo t).b a' c',.bool (wo t).k])∧Own W.heap.size w' (wo t).b a' c'∧inR (wo t).v∧Keep (fun g=>g < W.heap.size) W w') .ret a44 w43
    refine ret_tct (fn:=Try.f27) rfl R h2 h3 h4 B5 ?_
    rw [wo_3 (by assumption)];exact ⟨ax,cx,rfl,(HX.out.on KX).up HWKX,inR_0,K1⟩
  | true =>
   have fb14:=hb14;clear hb14
   simp only [dd_] at fb14
   refine wp_cond_true (x:=cA27_15) (y:=cA27_18) (eval_slot h20) ?_
   refine wp_seq (x:=cA27_16) (y:=Code.ret) ?_
   change (Code.region 5 OA27_5 false).wp _ _ _ _
   refine reg_in (l:=[0,1,2,3]) rfl ?_
   have F:=fe_ R;clear R
   have Y:(execOp a16.eval oA27_5_0).run Try.prog w6=.ok (.enter 22 #[.string (⟨#[105,110,115,116,97,110,116,105,97,116,105,111,110,95,101,114,114,111,114]⟩),Value.slice none 0 0]) w6:=by unfold oA27_5_0;go_simp
   have hca:=Fault_any (W:=w6) (nm:=[105,110,115,116,97,110,116,105,97,116,105,111,110,95,101,114,114,111,114]) (ts:=[]) (sa:=none) (sc:=0) (fun h=>absurd rfl h) (by decide)
   have UKX_b1:=B1.lt
   have UKX_b5:=B5.lt
   have HWKX:W.heap.size ≤ w6.heap.size:=K1.size
   refine st_call gA27_5_0 rfl (wanted_free rfl) Y ((hca).mono ?_);clear Y
   rintro e9 w45 ⟨ax,cx,rfl,hx,kk⟩
   replace K1:=keep_onto K1 kk
   replace B1:=blk_on B1 kk
   replace B5:=blk_on B5 kk
   clear kk
   clear hca
   have HX:=Lib.hid hx;clear hx
   have KX:=Keep.refl (fun g=>w6.heap.size ≤ g∧g < w45.heap.size) w45
   refine ⟨_,rfl,fun a46 e=>?_⟩
   have h22:=pt_ F e;replace F:=pu_ F e;clear e
   have Y:(execOp a46.eval oA27_5_1).run Try.prog w45=.ok (.value (.int .i64 0)) w45:=by unfold oA27_5_1;go_simp
   refine sv_ gA27_5_1 Y fun a47 e=>?_;clear Y
   clear h2;have h2:=pt_ F e;replace F:=pu_ F e;replace h22:=so_ e h22;clear e
   obtain ⟨w48,Y,hk,hB⟩:=ys4_ (o:=oA27_5_2) rfl (F.of h3) h22 B5
   replace K1:=kx_ hk K1 (Nat.not_lt.2 LK1_b5);replace KX:=kx_ hk KX (fun hx=>absurd hx.1 (Nat.not_le.2 UKX_b5));replace B1:=bx_ hk B1 Nb1_b5;clear B5;have B5:=hB;clear hB hk
   refine st_skip gA27_5_2 rfl (wanted_free rfl) Y ?_;clear Y
   have Y:(execOp a47.eval oA27_5_3).run Try.prog w48=.ok (.value (.bool false)) w48:=by unfold oA27_5_3;go_simp
   refine sv_ gA27_5_3 Y fun a49 e=>?_;clear Y
   clear h22 h4;have h4:=pt_ F e;replace F:=pu_ F e;replace h2:=so_ e h2;clear e
   refine st_end ?_
   replace h1:=F.of h1;replace h3:=F.of h3;replace h14:=F.of h14;clear h20;have R:=F.r;clear F
   change (Code.ret).wp _ _ _ _
   refine wp_ret ?_
   change bodyPost Try.prog Try.f27 (fun e w'=>∃ a' c',e=.returned (.tuple #[.int .i64 (wo t).v,tv (wo t).b a' c',.bool (wo t).k])∧Own W.heap.size w' (wo t).b a' c'∧inR (wo t).v∧Keep (fun g=>g < W.heap.size) W w') .ret a49 w48
   refine ret_tct (fn:=Try.f27) rfl R h2 h3 h4 B5 ?_
   rw [wo_1 (by assumption)];exact ⟨ax,cx,rfl,(HX.out.on KX).up HWKX,inR_0,K1⟩
 | true =>
  have fb11:=hb11;clear hb11
  simp only [dd_] at fb11
  refine wp_cond_true (x:=cA27_9) (y:=cA27_12) (eval_slot h15) ?_
  refine wp_seq (x:=cA27_10) (y:=Code.ret) ?_
  change (Code.region 3 OA27_3 false).wp _ _ _ _
  refine reg_in (l:=[0,1,2,3,4,5]) rfl ?_
  have F:=fe_ R;clear R
  refine sv_ gA27_3_0 (yf2_ rfl (F.of h1)) fun a50 e=>?_
  have h17:=pt_ F e;replace F:=pu_ F e;clear e
  refine sv_ gA27_3_1 (yk2_ rfl h17 B1) fun a51 e=>?_
  clear h17;have h18:=pt_ F e;replace F:=pu_ F e;clear e
  have Y:(execOp a51.eval oA27_3_2).run Try.prog w6=.ok (.value (.agg #[.int .i64 0,.string (⟨#[]⟩),.int .i64 0,.slice none 0 0])) w6:=by unfold oA27_3_2;go_simp
  refine sv_ gA27_3_2 Y fun a52 e=>?_;clear Y
  have h19:=pt_ F e;replace F:=pu_ F e;replace h18:=so_ e h18;clear e
  refine sv_ gA27_3_3 (ya_ rfl h18) fun a53 e=>?_
  clear h18 h2;have h2:=pt_ F e;replace F:=pu_ F e;replace h19:=so_ e h19;clear e
  obtain ⟨w54,Y,hk,hB⟩:=ys4_ (o:=oA27_3_4) rfl (F.of h3) h19 B5
  replace K1:=kx_ hk K1 (Nat.not_lt.2 LK1_b5);replace B1:=bx_ hk B1 Nb1_b5;clear B5;have B5:=hB;clear hB hk
  refine st_skip gA27_3_4 rfl (wanted_free rfl) Y ?_;clear Y
  have Y:(execOp a53.eval oA27_3_5).run Try.prog w54=.ok (.value (.bool true)) w54:=by unfold oA27_3_5;go_simp
  refine sv_ gA27_3_5 Y fun a55 e=>?_;clear Y
  clear h19 h4;have h4:=pt_ F e;replace F:=pu_ F e;replace h2:=so_ e h2;clear e
  refine st_end ?_
  replace h1:=F.of h1;replace h3:=F.of h3;replace h14:=F.of h14;clear h15;have R:=F.r;clear F
  change (Code.ret).wp _ _ _ _
  refine wp_ret ?_
  change bodyPost Try.prog Try.f27 (fun e w'=>∃ a' c',e=.returned (.tuple #[.int .i64 (wo t).v,tv (wo t).b a' c',.bool (wo t).k])∧Own W.heap.size w' (wo t).b a' c'∧inR (wo t).v∧Keep (fun g=>g < W.heap.size) W w') .ret a55 w54
  refine ret_tct (fn:=Try.f27) rfl R h2 h3 h4 B5 ?_
  rw [wo_2 (by assumption)];exact ⟨none,0,rfl,own_zero,inR_of HI.out,K1⟩
set_option maxRecDepth 100000 in
set_option maxHeartbeats 4000000 in
theorem worth_b {W:World} {t:Tm} {a:Option Addr} {c:Nat} {f0:Act} {w0:World} (R:FrS 80 f0) (h0:f0.tmps[0]? = some (.agg #[.int .i64 t.k,.string (str t.nm),.int .i64 t.i,.slice a t.args.length c])) (K1:Keep (fun g=>g < W.heap.size) W w0)  (HT:Hid (TmAt W.heap.size W t a c)) (HOK:Hid (t.ok=true)) (HNM:Hid (t.nm.length ≤ maxLen)) (HLN:Hid (t.args.length ≤ maxLen)) (HI:Hid ((Lit.int .i64 t.i).wf=true)) (HK:Hid (t.k=4)) (HFN:Hid (isFn t.nm t.args.length=true)) (HIH:Hid (∀ u ∈ t.args,WorthC u)):cA27_0.wp Try.prog (bodyPost Try.prog Try.f27 (fun e w'=>∃ a' c',e=.returned (.tuple #[.int .i64 (wo t).v,tv (wo t).b a' c',.bool (wo t).k])∧Own W.heap.size w' (wo t).b a' c'∧inR (wo t).v∧Keep (fun g=>g < W.heap.size) W w')) f0 w0:=by
 refine wp_seq (x:=cA27_1) (y:=cA27_2) ?_
 change (Code.region 0 OA27_0 false).wp _ _ _ _
 refine reg_in (l:=[0,1,2,3]) rfl ?_
 have F:=fe_ R;clear R
 have Y:(execOp f0.eval oA27_0_0).run Try.prog w0=.ok (.value (.pointer (some ⟨w0.heap.size,0,none⟩))) (w0.alloc (.cells #[.int .i64 t.k,.string (str t.nm),.int .i64 t.i,.slice a t.args.length c] 24)):=by have r0:=F.of h0;unfold oA27_0_0;go_simp
 have B56:=Blk.new w0 24 #[.int .i64 t.k,.string (str t.nm),.int .i64 t.i,.slice a t.args.length c]
 obtain ⟨w57,hw⟩:∃ x,x=w0.alloc (.cells #[.int .i64 t.k,.string (str t.nm),.int .i64 t.i,.slice a t.args.length c] 24):=⟨_,rfl⟩;rw [← hw] at Y B56
 obtain ⟨b56,hb⟩:∃ x,x=w0.heap.size:=⟨_,rfl⟩;rw [← hb] at Y B56
 have LK1_b56:=lk_ hb K1;replace K1:=ka_ hw K1;clear hw hb
 refine sw_ gA27_0_0 Y F fun a58 F h1=>?_;clear Y
 have Y:(execOp a58.eval oA27_0_1).run Try.prog w57=.ok (.value (.int .i64 0)) w57:=by unfold oA27_0_1;go_simp
 refine sv_ gA27_0_1 Y fun a59 e=>?_;clear Y
 have h2:=pt_ F e;replace F:=pu_ F e;replace h1:=so_ e h1;clear e
 have Y:(execOp a59.eval oA27_0_2).run Try.prog w57=.ok (.value (.pointer (some ⟨w57.heap.size,0,none⟩))) (w57.alloc (.cells #[.int .i64 0,.string (⟨#[]⟩),.int .i64 0,.slice none 0 0] 24)):=by unfold oA27_0_2;go_simp
 have B60:=Blk.new w57 24 #[.int .i64 0,.string (⟨#[]⟩),.int .i64 0,.slice none 0 0]
 obtain ⟨w61,hw⟩:∃ x,x=w57.alloc (.cells #[.int .i64 0,.string (⟨#[]⟩),.int .i64 0,.slice none 0 0] 24):=⟨_,rfl⟩;rw [← hw] at Y B60
 obtain ⟨b60,hb⟩:∃ x,x=w57.heap.size:=⟨_,rfl⟩;rw [← hb] at Y B60
 have Nb56_b60:=nb_ hb B56;replace B56:=ba_ hw B56;have LK1_b60:=lk_ hb K1;replace K1:=ka_ hw K1;clear hw hb
 refine sv_ gA27_0_2 Y fun a62 e=>?_;clear Y
 have h3:=pt_ F e;replace F:=pu_ F e;replace h1:=so_ e h1;replace h2:=so_ e h2;clear e
 have Y:(execOp a62.eval oA27_0_3).run Try.prog w61=.ok (.value (.bool false)) w61:=by unfold oA27_0_3;go_simp
 refine sv_ gA27_0_3 Y fun a63 e=>?_;clear Y
 have h4:=pt_ F e;replace F:=pu_ F e;replace h1:=so_ e h1;replace h2:=so_ e h2;replace h3:=so_ e h3;clear e
 refine st_end ?_
 clear h0;have R:=F.r;clear F
 change (cA27_2).wp _ _ _ _
 refine wp_seq (x:=cA27_3) (y:=cA27_25) ?_
 refine wp_seq (x:=cA27_4) (y:=cA27_5) ?_
 change (Code.region 1 OA27_1 false).wp _ _ _ _
 refine reg_in (l:=[0,1]) rfl ?_
 have F:=fe_ R;clear R
 refine sv_ gA27_1_0 (yf0_ rfl (F.of h1)) fun a64 e=>?_
 have h13:=pt_ F e;replace F:=pu_ F e;clear e
 refine sv_ gA27_1_1 (yk0_ rfl h13 B56) fun a65 e=>?_
 clear h13;have h14:=pt_ F e;replace F:=pu_ F e;clear e
 refine st_end ?_
 replace h1:=F.of h1;replace h2:=F.of h2;replace h3:=F.of h3;replace h4:=F.of h4;have R:=F.r;clear F
 change (cA27_5).wp _ _ _ _
 refine wp_block (id:=0) (c:=cA27_6) ?_
 refine wp_seq (x:=cA27_7) (y:=cA27_8) ?_
 change (Code.region 2 OA27_2 false).wp _ _ _ _
 refine reg_in (l:=[0,1]) rfl ?_
 have F:=fe_ R;clear R
 have Y:(execOp a65.eval oA27_2_0).run Try.prog w61=.ok (.value (.bool false)) w61:=by have r14:=F.of h14;have hk:=HK.out;unfold oA27_2_0;go_simp
 refine sw_ gA27_2_0 Y F fun a66 F h16=>?_;clear Y
 refine sv_ gA27_2_1 (ya_ rfl h16) fun a67 e=>?_
 clear h16;have h15:=pt_ F e;replace F:=pu_ F e;clear e
 refine st_end ?_
 replace h1:=F.of h1;replace h2:=F.of h2;replace h3:=F.of h3;replace h4:=F.of h4;replace h14:=F.of h14;have R:=F.r;clear F
 change (cA27_8).wp _ _ _ _
 refine wp_cond_false (x:=cA27_9) (y:=cA27_12) (eval_slot h15) ?_
 refine wp_seq (x:=cA27_13) (y:=cA27_14) ?_
 change (Code.region 4 OA27_4 false).wp _ _ _ _
 refine reg_in (l:=[0,1]) rfl ?_
 have F:=fe_ R;clear R
 have Y:(execOp a67.eval oA27_4_0).run Try.prog w61=.ok (.value (.bool false)) w61:=by have r14:=F.of h14;have hk:=HK.out;unfold oA27_4_0;go_simp
 refine sw_ gA27_4_0 Y F fun a68 F h21=>?_;clear Y
 refine sv_ gA27_4_1 (ya_ rfl h21) fun a69 e=>?_
 clear h21;have h20:=pt_ F e;replace F:=pu_ F e;clear e
 refine st_end ?_
 replace h1:=F.of h1;replace h2:=F.of h2;replace h3:=F.of h3;replace h4:=F.of h4;replace h14:=F.of h14;clear h15;have R:=F.r;clear F
 change (cA27_14).wp _ _ _ _
 refine wp_cond_false (x:=cA27_15) (y:=cA27_18) (eval_slot h20) ?_
 refine wp_seq (x:=cA27_19) (y:=cA27_20) ?_
 change (Code.region 6 OA27_6 false).wp _ _ _ _
 refine reg_in (l:=[0,1]) rfl ?_
 have F:=fe_ R;clear R
 have Y:(execOp a69.eval oA27_6_0).run Try.prog w61=.ok (.value (.bool false)) w61:=by have r14:=F.of h14;have hk:=HK.out;unfold oA27_6_0;go_simp
 refine sw_ gA27_6_0 Y F fun a70 F h24=>?_;clear Y
 refine sv_ gA27_6_1 (ya_ rfl h24) fun a71 e=>?_
 clear h24;have h23:=pt_ F e;replace F:=pu_ F e;clear e
 refine st_end ?_
 replace h1:=F.of h1;replace h2:=F.of h2;replace h3:=F.of h3;replace h4:=F.of h4;clear h14;clear h20;have R:=F.r;clear F
 change (cA27_20).wp _ _ _ _
 refine wp_cond_false (x:=cA27_21) (y:=Code.skip) (eval_slot h23) ?_
 refine wp_skip ?_
 change (cA27_25).wp _ _ _ _
 refine wp_seq (x:=cA27_26) (y:=cA27_33) ?_
 refine wp_seq (x:=cA27_27) (y:=cA27_28) ?_
 change (Code.region 8 OA27_8 false).wp _ _ _ _
 refine reg_in (l:=[0,1,2,3,4,5,6]) rfl ?_
 have F:=fe_ R;clear R
 refine sv_ gA27_8_0 (yf1_ rfl (F.of h1)) fun a72 e=>?_
 have h28:=pt_ F e;replace F:=pu_ F e;clear e
 refine sv_ gA27_8_1 (yk1_ rfl h28 B56) fun a73 e=>?_
 clear h28;have h29:=pt_ F e;replace F:=pu_ F e;clear e
 refine sv_ gA27_8_2 (yf3_ rfl (F.of h1)) fun a74 e=>?_
 have h30:=pt_ F e;replace F:=pu_ F e;replace h29:=so_ e h29;clear e
 refine sv_ gA27_8_3 (yk3_ rfl h30 B56) fun a75 e=>?_
 clear h30;have h31:=pt_ F e;replace F:=pu_ F e;replace h29:=so_ e h29;clear e
 have Y:(execOp a75.eval oA27_8_4).run Try.prog w61=.ok (.value (.int .i64 t.args.length)) w61:=by unfold oA27_8_4;go_simp
 refine sv_ gA27_8_4 Y fun a76 e=>?_;clear Y
 clear h31;have h32:=pt_ F e;replace F:=pu_ F e;replace h29:=so_ e h29;clear e
 refine st_call gA27_8_5 rfl (wanted_free rfl) (yc2_ enA27_41 rfl h29 h32) ((isf_sx HFN.out).mono ?_)
 rintro e9 w77 ⟨rfl,kk⟩
 replace K1:=keep_onto K1 kk
 replace B56:=blk_on B56 kk
 replace B60:=blk_on B60 kk
 clear kk
 refine ⟨_,rfl,fun a78 e=>?_⟩
 clear h29 h32;have h33:=pt_ F e;replace F:=pu_ F e;clear e
 have Y:(execOp a78.eval oA27_8_6).run Try.prog w77=.ok (.value (.bool false)) w77:=by unfold oA27_8_6;go_simp
 refine sw_ gA27_8_6 Y F fun a79 F h34=>?_;clear Y h33
 refine st_end ?_
 replace h1:=F.of h1;replace h2:=F.of h2;replace h3:=F.of h3;replace h4:=F.of h4;clear h23;have R:=F.r;clear F
 change (cA27_28).wp _ _ _ _
 refine wp_cond_false (x:=cA27_29) (y:=Code.skip) (eval_slot h34) ?_
 refine wp_skip ?_
 change (cA27_33).wp _ _ _ _
 refine wp_seq (x:=cA27_34) (y:=cA27_35) ?_
 change (Code.region 10 OA27_10 false).wp _ _ _ _
 refine reg_in (l:=[0]) rfl ?_
 have F:=fe_ R;clear R
 have Y:(execOp a79.eval oA27_10_0).run Try.prog w77=.ok (.value (.pointer (some ⟨w77.heap.size,0,none⟩))) (w77.alloc (.cells #[.int .i64 0,.int .i64 0] 60)):=by unfold oA27_10_0;go_simp
 have B80:=Blk.new w77 60 #[.int .i64 0,.int .i64 0]
 obtain ⟨w81,hw⟩:∃ x,x=w77.alloc (.cells #[.int .i64 0,.int .i64 0] 60):=⟨_,rfl⟩;rw [← hw] at Y B80
 obtain ⟨b80,hb⟩:∃ x,x=w77.heap.size:=⟨_,rfl⟩;rw [← hb] at Y B80
 have Nb56_b80:=nb_ hb B56;replace B56:=ba_ hw B56;have Nb60_b80:=nb_ hb B60;replace B60:=ba_ hw B60;have LK1_b80:=lk_ hb K1;replace K1:=ka_ hw K1;clear hw hb
 refine sw_ gA27_10_0 Y F fun a82 F h5=>?_;clear Y
 refine st_end ?_
 replace h1:=F.of h1;replace h2:=F.of h2;replace h3:=F.of h3;replace h4:=F.of h4;clear h34;have R:=F.r;clear F
 change (cA27_35).wp _ _ _ _
 refine wp_seq (x:=cA27_36) (y:=cA27_62) ?_
 refine wp_seq (x:=cA27_37) (y:=cA27_38) ?_
 change (Code.region 11 OA27_11 false).wp _ _ _ _
 refine reg_in (l:=[0,1,2,3]) rfl ?_
 have F:=fe_ R;clear R
 refine sv_ gA27_11_0 (yf3_ rfl (F.of h1)) fun a83 e=>?_
 have h41:=pt_ F e;replace F:=pu_ F e;clear e
 refine sv_ gA27_11_1 (yk3_ rfl h41 B56) fun a84 e=>?_
 clear h41;have h42:=pt_ F e;replace F:=pu_ F e;clear e
 have Y:(execOp a84.eval oA27_11_2).run Try.prog w81=.ok (.value (.int .i64 t.args.length)) w81:=by unfold oA27_11_2;go_simp
 refine sv_ gA27_11_2 Y fun a85 e=>?_;clear Y
 have h43:=pt_ F e;replace F:=pu_ F e;replace h42:=so_ e h42;clear e
 have Y:(execOp a85.eval oA27_11_3).run Try.prog w81=.ok (.value (.int .i64 0)) w81:=by unfold oA27_11_3;go_simp
 refine sv_ gA27_11_3 Y fun a86 e=>?_;clear Y
 have h44:=pt_ F e;replace F:=pu_ F e;replace h42:=so_ e h42;replace h43:=so_ e h43;clear e
 refine st_end ?_
 replace h1:=F.of h1;replace h2:=F.of h2;replace h3:=F.of h3;replace h4:=F.of h4;replace h5:=F.of h5;have R:=F.r;clear F
 change (cA27_38).wp _ _ _ _
 refine wp_block (id:=1) (c:=cA27_39) ?_
 have hl2:=isFn_two HFN.out
 refine wp_loop_ghost (c:=cA27_40) (fun n fX wX=>∃ j:Nat,∃ xs:List Int,n=t.args.length - j∧FrS 80 fX∧fX.tmps[1]? = some (.pointer (some ⟨b56,0,none⟩))∧fX.tmps[2]? = some (.int .i64 0)∧fX.tmps[3]? = some (.pointer (some ⟨b60,0,none⟩))∧fX.tmps[4]? = some (.bool false)∧fX.tmps[5]? = some (.pointer (some ⟨b80,0,none⟩))∧fX.tmps[42]? = some (.slice a t.args.length c)∧fX.tmps[43]? = some (.int .i64 t.args.length)∧fX.tmps[44]? = some (.int .i64 (j:Int))∧Keep (fun g=>g < W.heap.size) W wX∧Blk wX b56 24 #[.int .i64 t.k,.string (str t.nm),.int .i64 t.i,.slice a t.args.length c]∧Blk wX b60 24 #[.int .i64 0,.string (⟨#[]⟩),.int .i64 0,.slice none 0 0]∧Blk wX b80 60 #[.int .i64 (xs.getD 0 0),.int .i64 (xs.getD 1 0)]∧j ≤ t.args.length∧wo t=woL t.nm (t.args.drop j) xs∧(∀ k,inR (xs.getD k 0))∧xs.length=j) (t.args.length - 0) ⟨0,[],rfl,R,h1,h2,h3,h4,h5,h42,h43,h44,K1,B56,B60,B80,(Nat.zero_le _),(wo_f HK.out HFN.out),(fun k=>inR_0),rfl⟩ ?_
 clear R h1 h2 h3 h4 h5 h42 h43 h44 K1 B56 B60 B80
 rintro n89 a87 w88 ⟨j,xs,rfl,R,h1,h2,h3,h4,h5,h42,h43,h44,K1,B56,B60,B80,hj,hwo,hxi,hxl⟩
 have HWO:=Lib.hid hwo;have HXI:=Lib.hid hxi;have HXL:=Lib.hid hxl;clear hwo hxi hxl
 refine wp_seq (x:=cA27_41) (y:=cA27_42) ?_
 change (Code.region 12 OA27_12 false).wp _ _ _ _
 refine reg_in (l:=[0]) rfl ?_
 have F:=fe_ R;clear R
 obtain ⟨b90,hb90⟩:∃ x,(decide ((j:Int) < (t.args.length:Int)))=x:=⟨_,rfl⟩
 have Y:(execOp a87.eval oA27_12_0).run Try.prog w88=.ok (.value (.bool b90)) w88:=by have r43:=F.of h43;have r44:=F.of h44;rw [← hb90];unfold oA27_12_0;go_simp
 refine sw_ gA27_12_0 Y F fun a91 F h45=>?_;clear Y
 refine st_end ?_
 replace h1:=F.of h1;replace h2:=F.of h2;replace h3:=F.of h3;replace h4:=F.of h4;replace h5:=F.of h5;replace h42:=F.of h42;replace h43:=F.of h43;replace h44:=F.of h44;have R:=F.r;clear F
 change (cA27_42).wp _ _ _ _
 refine wp_seq (x:=cA27_43) (y:=cA27_46) ?_
 cases b90 with
 | false =>
  have fb90:=hb90;clear hb90
  simp only [dd_] at fb90
  refine wp_cond_false (x:=Code.skip) (y:=cA27_45) (eval_slot h45) ?_
  refine wp_exit ?_
  change (cA27_62).wp _ _ _ _
  refine wp_seq (x:=cA27_63) (y:=cA27_64) ?_
  change (Code.region 19 OA27_19 false).wp _ _ _ _
  refine reg_in (l:=[0,1,2,3,4,5,6,7,8,9,10,11]) rfl ?_
  have F:=fe_ R;clear R
  refine sv_ gA27_19_0 (yf1_ rfl (F.of h1)) fun a92 e=>?_
  have h63:=pt_ F e;replace F:=pu_ F e;clear e
  refine sv_ gA27_19_1 (yk1_ rfl h63 B56) fun a93 e=>?_
  clear h63;have h64:=pt_ F e;replace F:=pu_ F e;clear e
  refine sv_ gA27_19_2 (yf3_ rfl (F.of h1)) fun a94 e=>?_
  have h65:=pt_ F e;replace F:=pu_ F e;replace h64:=so_ e h64;clear e
  refine sv_ gA27_19_3 (yk3_ rfl h65 B56) fun a95 e=>?_
  clear h65;have h66:=pt_ F e;replace F:=pu_ F e;replace h64:=so_ e h64;clear e
  have Y:(execOp a95.eval oA27_19_4).run Try.prog w88=.ok (.value (.int .i64 t.args.length)) w88:=by unfold oA27_19_4;go_simp
  refine sv_ gA27_19_4 Y fun a96 e=>?_;clear Y
  clear h66;have h67:=pt_ F e;replace F:=pu_ F e;replace h64:=so_ e h64;clear e
  have Y:(execOp a96.eval oA27_19_5).run Try.prog w88=.ok (.value (.agg #[.int .i64 (xs.getD 0 0),.int .i64 (xs.getD 1 0)])) w88:=by have r5:=F.of h5;have qq0:w88.cell? ⟨b80,0,none⟩=some (.int .i64 (xs.getD 0 0)):=B80.cell 0;have qq1:w88.cell? ⟨b80,1,none⟩=some (.int .i64 (xs.getD 1 0)):=B80.cell 1;unfold oA27_19_5;go_simp
  refine sv_ gA27_19_5 Y fun a97 e=>?_;clear Y
  have h68:=pt_ F e;replace F:=pu_ F e;replace h64:=so_ e h64;replace h67:=so_ e h67;clear e
  have Y:(execOp a97.eval oA27_19_6).run Try.prog w88=.ok (.enter 42 #[.string (str t.nm),.int .i64 t.args.length,.agg #[.int .i64 (xs.getD 0 0),.int .i64 (xs.getD 1 0)]]) w88:=by unfold oA27_19_6;go_simp
  obtain ⟨rr,hrr⟩:∃ q:Rs,callR t.nm t.args.length (xs.getD 0 0) (xs.getD 1 0)=q:=⟨_,rfl⟩
  have hca:=call_any w88 t.nm t.args.length _ _ (HXI.out 0) (HXI.out 1)
  rw [hrr] at hca
  have HIN9:Hid (inR rr.1):=Lib.hid (by rw [← hrr];exact call_in (HXI.out 0) (HXI.out 1))
  have HFL9:Hid (FlP rr):=Lib.hid (by rw [← hrr];exact fl_of _ _ _ _)
  have HRR:=Lib.hid hrr;clear hrr;have hq:=str_empty rr.2
  refine st_call gA27_19_6 rfl (wanted_free rfl) Y ((hca).mono ?_);clear Y
  rintro e9 w98 ⟨rfl,kk⟩
  replace K1:=keep_onto K1 kk
  replace B56:=blk_on B56 kk
  replace B60:=blk_on B60 kk
  replace B80:=blk_on B80 kk
  clear kk
  clear hca
  refine ⟨_,rfl,fun a99 e=>?_⟩
  clear h64 h67 h68;have h69:=pt_ F e;replace F:=pu_ F e;clear e
  refine sv_ gA27_19_7 (ym_ rfl h69) fun a100 e=>?_
  clear h69;have h62:=pt_ F e;replace F:=pu_ F e;clear e
  refine sv_ gA27_19_8 (ye20_ rfl h62) fun a101 e=>?_
  have h70:=pt_ F e;replace F:=pu_ F e;replace h62:=so_ e h62;clear e
  refine sv_ gA27_19_9 (ye21_ rfl h62) fun a102 e=>?_
  clear h62;have h71:=pt_ F e;replace F:=pu_ F e;replace h70:=so_ e h70;clear e
  refine sv_ gA27_19_10 (ya_ rfl h70) fun a103 e=>?_
  clear h70;have h11:=pt_ F e;replace F:=pu_ F e;replace h71:=so_ e h71;clear e
  refine sv_ gA27_19_11 (ya_ rfl h71) fun a104 e=>?_
  clear h71;have h12:=pt_ F e;replace F:=pu_ F e;replace h11:=so_ e h11;clear e
  refine st_end ?_
  clear h1;replace h2:=F.of h2;replace h3:=F.of h3;replace h4:=F.of h4;replace h5:=F.of h5;replace h42:=F.of h42;replace h43:=F.of h43;replace h44:=F.of h44;replace h45:=F.of h45;have R:=F.r;clear F
  change (cA27_64).wp _ _ _ _
  refine wp_seq (x:=cA27_65) (y:=cA27_72) ?_
  refine wp_seq (x:=cA27_66) (y:=cA27_67) ?_
  change (Code.region 20 OA27_20 false).wp _ _ _ _
  refine reg_in (l:=[0,1]) rfl ?_
  have F:=fe_ R;clear R
  refine sw_ gA27_20_0 (ym_ rfl (F.of h12)) F fun a105 F h72=>?_
  obtain ⟨b106,hb106⟩:∃ x,(!rr.2.isEmpty)=x:=⟨_,rfl⟩
  have Y:(execOp a105.eval oA27_20_1).run Try.prog w98=.ok (.value (.bool b106)) w98:=by rw [← hb106];unfold oA27_20_1;go_simp
  refine sw_ gA27_20_1 Y F fun a107 F h73=>?_;clear Y h72
  refine st_end ?_
  replace h2:=F.of h2;replace h3:=F.of h3;replace h4:=F.of h4;replace h5:=F.of h5;replace h11:=F.of h11;replace h12:=F.of h12;replace h42:=F.of h42;replace h43:=F.of h43;replace h44:=F.of h44;replace h45:=F.of h45;have R:=F.r;clear F
  change (cA27_67).wp _ _ _ _
  cases b106 with
  | false =>
   have fb106:=hb106;clear hb106
   simp only [dd_] at fb106
   refine wp_cond_false (x:=cA27_68) (y:=Code.skip) (eval_slot h73) ?_
   refine wp_skip ?_
   change (cA27_72).wp _ _ _ _
   refine wp_seq (x:=cA27_73) (y:=Code.ret) ?_
   change (Code.region 22 OA27_22 false).wp _ _ _ _
   refine reg_in (l:=[0,1,2,3,4]) rfl ?_
   have F:=fe_ R;clear R
   have Y:(execOp a107.eval oA27_22_0).run Try.prog w98=.ok (.value (.int .i64 rr.1)) w98:=by have r11:=F.of h11;unfold oA27_22_0;go_simp
   refine sw_ gA27_22_0 Y F fun a108 F h78=>?_;clear Y
   have Y:(execOp a108.eval oA27_22_1).run Try.prog w98=.ok (.value (.agg #[.int .i64 0,.string (⟨#[]⟩),.int .i64 0,.slice none 0 0])) w98:=by unfold oA27_22_1;go_simp
   refine sv_ gA27_22_1 Y fun a109 e=>?_;clear Y
   have h79:=pt_ F e;replace F:=pu_ F e;replace h78:=so_ e h78;clear e
   refine sv_ gA27_22_2 (ya_ rfl h78) fun a110 e=>?_
   clear h78 h2;have h2:=pt_ F e;replace F:=pu_ F e;replace h79:=so_ e h79;clear e
   obtain ⟨w111,Y,hk,hB⟩:=ys4_ (o:=oA27_22_3) rfl (F.of h3) h79 B60
   replace K1:=kx_ hk K1 (Nat.not_lt.2 LK1_b60);replace B56:=bx_ hk B56 Nb56_b60;replace B80:=bx_ hk B80 (Ne.symm Nb60_b80);clear B60;have B60:=hB;clear hB hk
   refine st_skip gA27_22_3 rfl (wanted_free rfl) Y ?_;clear Y
   have Y:(execOp a110.eval oA27_22_4).run Try.prog w111=.ok (.value (.bool true)) w111:=by unfold oA27_22_4;go_simp
   refine sv_ gA27_22_4 Y fun a112 e=>?_;clear Y
   clear h79 h4;have h4:=pt_ F e;replace F:=pu_ F e;replace h2:=so_ e h2;clear e
   refine st_end ?_
   replace h3:=F.of h3;replace h5:=F.of h5;clear h11;clear h12;replace h42:=F.of h42;replace h43:=F.of h43;replace h44:=F.of h44;replace h45:=F.of h45;clear h73;have R:=F.r;clear F
   change (Code.ret).wp _ _ _ _
   refine wp_ret ?_
   change bodyPost Try.prog Try.f27 (fun e w'=>∃ a' c',e=.returned (.tuple #[.int .i64 (wo t).v,tv (wo t).b a' c',.bool (wo t).k])∧Own W.heap.size w' (wo t).b a' c'∧inR (wo t).v∧Keep (fun g=>g < W.heap.size) W w') .ret a112 w111
   refine ret_tct (fn:=Try.f27) rfl R h2 h3 h4 B60 ?_
   have hwe:=wo_end HWO.out (by omega) (by rw [HXL.out];omega);rw [HRR.out] at hwe;rw [resW_num (by simpa using fb106)] at hwe;rw [hwe];exact ⟨none,0,rfl,own_zero,HIN9.out,K1⟩
  | true =>
   have fb106:=hb106;clear hb106
   simp only [dd_] at fb106
   refine wp_cond_true (x:=cA27_68) (y:=Code.skip) (eval_slot h73) ?_
   refine wp_seq (x:=cA27_69) (y:=Code.ret) ?_
   change (Code.region 21 OA27_21 false).wp _ _ _ _
   refine reg_in (l:=[0,1,2,3,4,5,6]) rfl ?_
   have F:=fe_ R;clear R
   refine sw_ gA27_21_0 (ym_ rfl (F.of h12)) F fun a113 F h74=>?_
   have hwe:=wo_end HWO.out (by omega) (by rw [HXL.out];omega);rw [HRR.out] at hwe;rw [resW_bal (by simpa using fb106)] at hwe
   refine st_call gA27_21_1 rfl (wanted_free rfl) (yc1_ enA27_38 rfl h74) ((atomX _ rr.2).mono ?_)
   rintro e9 w114 ⟨rfl,kk⟩
   replace K1:=keep_onto K1 kk
   replace B56:=blk_on B56 kk
   replace B60:=blk_on B60 kk
   replace B80:=blk_on B80 kk
   clear kk
   refine ⟨_,rfl,fun a115 e=>?_⟩
   clear h74;have h75:=pt_ F e;replace F:=pu_ F e;clear e
   have Y:(execOp a115.eval oA27_21_2).run Try.prog w114=.ok (.value (.slice (some ⟨w114.heap.size,0,none⟩) 1 1)) (w114.alloc (.cells #[.int .i64 ((Tm.node 3 rr.2 0 []).k),.string (str (Tm.node 3 rr.2 0 []).nm),.int .i64 ((Tm.node 3 rr.2 0 []).i),.slice none (Tm.node 3 rr.2 0 []).args.length 0] 24)):=by unfold oA27_21_2;go_simp
   have B116:=Blk.new w114 24 #[.int .i64 ((Tm.node 3 rr.2 0 []).k),.string (str (Tm.node 3 rr.2 0 []).nm),.int .i64 ((Tm.node 3 rr.2 0 []).i),.slice none (Tm.node 3 rr.2 0 []).args.length 0]
   obtain ⟨w117,hw⟩:∃ x,x=w114.alloc (.cells #[.int .i64 ((Tm.node 3 rr.2 0 []).k),.string (str (Tm.node 3 rr.2 0 []).nm),.int .i64 ((Tm.node 3 rr.2 0 []).i),.slice none (Tm.node 3 rr.2 0 []).args.length 0] 24):=⟨_,rfl⟩;rw [← hw] at Y B116
   obtain ⟨b116,hb⟩:∃ x,x=w114.heap.size:=⟨_,rfl⟩;rw [← hb] at Y B116
   have Nb56_b116:=nb_ hb B56;replace B56:=ba_ hw B56;have Nb60_b116:=nb_ hb B60;replace B60:=ba_ hw B60;have Nb80_b116:=nb_ hb B80;replace B80:=ba_ hw B80;have LK1_b116:=lk_ hb K1;replace K1:=ka_ hw K1;clear hw hb
   refine sw_ gA27_21_2 Y F fun a118 F h76=>?_;clear Y h75
   have Y:(execOp a118.eval oA27_21_3).run Try.prog w117=.ok (.enter 22 #[.string (⟨#[101,118,97,108,117,97,116,105,111,110,95,101,114,114,111,114]⟩),.slice (some ⟨b116,0,none⟩) 1 1]) w117:=by unfold oA27_21_3;go_simp
   have hfl:rr.2.length ≤ maxLen:=by have h9:=HFL9.out;unfold FlP at h9;rcases h9 with h9 | h9 | h9 | h9 <;> rw [h9] <;> decide
   have h1:TmAt w117.heap.size w117 (flF rr.2) (some ⟨b116,0,none⟩) 1:=comp_at (ps:=[(.node 3 rr.2 0 [],none,0)]) B116 (fun p hp=>by rw [List.mem_singleton.1 hp];exact tm_leaf (by decide) (by decide) hfl) (by decide) (Nat.le_of_ble_eq_true rfl)
   have hca:=Fault_any (W:=w117) (nm:=[101,118,97,108,117,97,116,105,111,110,95,101,114,114,111,114]) (ts:=(flF rr.2).args) (sa:=some ⟨b116,0,none⟩) (sc:=1) (fun _=>h1) (by decide);clear h1 hfl
   have UKX_b56:=B56.lt
   have UKX_b60:=B60.lt
   have UKX_b80:=B80.lt
   have UKX_b116:=B116.lt
   have HWKX:W.heap.size ≤ w117.heap.size:=K1.size
   refine st_call gA27_21_3 rfl (wanted_free rfl) Y ((hca).mono ?_);clear Y
   rintro e9 w119 ⟨ax,cx,rfl,hx,kk⟩
   replace K1:=keep_onto K1 kk
   replace B56:=blk_on B56 kk
   replace B60:=blk_on B60 kk
   replace B80:=blk_on B80 kk
   replace B116:=blk_on B116 kk
   clear kk
   clear hca
   have HX:=Lib.hid hx;clear hx
   have KX:=Keep.refl (fun g=>w117.heap.size ≤ g∧g < w119.heap.size) w119
   refine ⟨_,rfl,fun a120 e=>?_⟩
   clear h76;have h77:=pt_ F e;replace F:=pu_ F e;clear e
   have Y:(execOp a120.eval oA27_21_4).run Try.prog w119=.ok (.value (.int .i64 0)) w119:=by unfold oA27_21_4;go_simp
   refine sv_ gA27_21_4 Y fun a121 e=>?_;clear Y
   clear h2;have h2:=pt_ F e;replace F:=pu_ F e;replace h77:=so_ e h77;clear e
   obtain ⟨w122,Y,hk,hB⟩:=ys4_ (o:=oA27_21_5) rfl (F.of h3) h77 B60
   replace K1:=kx_ hk K1 (Nat.not_lt.2 LK1_b60);replace KX:=kx_ hk KX (fun hx=>absurd hx.1 (Nat.not_le.2 UKX_b60));replace B56:=bx_ hk B56 Nb56_b60;replace B80:=bx_ hk B80 (Ne.symm Nb60_b80);replace B116:=bx_ hk B116 (Ne.symm Nb60_b116);clear B60;have B60:=hB;clear hB hk
   refine st_skip gA27_21_5 rfl (wanted_free rfl) Y ?_;clear Y
   have Y:(execOp a121.eval oA27_21_6).run Try.prog w122=.ok (.value (.bool false)) w122:=by unfold oA27_21_6;go_simp
   refine sv_ gA27_21_6 Y fun a123 e=>?_;clear Y
   clear h77 h4;have h4:=pt_ F e;replace F:=pu_ F e;replace h2:=so_ e h2;clear e
   refine st_end ?_
   replace h3:=F.of h3;replace h5:=F.of h5;replace h11:=F.of h11;clear h12;replace h42:=F.of h42;replace h43:=F.of h43;replace h44:=F.of h44;replace h45:=F.of h45;clear h73;have R:=F.r;clear F
   change (Code.ret).wp _ _ _ _
   refine wp_ret ?_
   change bodyPost Try.prog Try.f27 (fun e w'=>∃ a' c',e=.returned (.tuple #[.int .i64 (wo t).v,tv (wo t).b a' c',.bool (wo t).k])∧Own W.heap.size w' (wo t).b a' c'∧inR (wo t).v∧Keep (fun g=>g < W.heap.size) W w') .ret a123 w122
   refine ret_tct (fn:=Try.f27) rfl R h2 h3 h4 B60 ?_
   rw [hwe];exact ⟨ax,cx,rfl,(HX.out.on KX).up HWKX,inR_0,K1⟩
 | true =>
  have fb90:=hb90;clear hb90
  simp only [dd_] at fb90
  refine wp_cond_true (x:=Code.skip) (y:=cA27_45) (eval_slot h45) ?_
  refine wp_skip ?_
  change (cA27_46).wp _ _ _ _
  refine wp_seq (x:=cA27_47) (y:=cA27_61) ?_
  refine wp_block (id:=2) (c:=cA27_48) ?_
  refine wp_seq (x:=cA27_49) (y:=cA27_50) ?_
  change (Code.region 13 OA27_13 false).wp _ _ _ _
  refine reg_in (l:=[0,1,2,3,4,5]) rfl ?_
  have F:=fe_ R;clear R
  refine sw_ gA27_13_0 (ym_ rfl (F.of h44)) F fun a124 F h46=>?_
  obtain ⟨y0,hx0⟩:∃ q,t.args[j]? = some q:=⟨_,List.getElem?_eq_getElem (by omega)⟩
  obtain ⟨bA,oA,ay,cy,hA,hbA,hTx,u0,u1,u2,u3⟩:=(HT.out.on K1).arg hx0
  simp only [← Nat.add_assoc] at u0 u1 u2 u3
  have HU:=Lib.hid (And.intro u0 (And.intro u1 (And.intro u2 u3)));clear u0 u1 u2 u3
  have HX0:=Lib.hid hx0;clear hx0;have HTX:=Lib.hid hTx;clear hTx;have HA:=Lib.hid hA;clear hA
  have KY:=Keep.refl (fun g=>g < w88.heap.size) w88
  have hltA:(j:Int) < (t.args.length:Int):=by omega
  have Y:(execOp a124.eval oA27_13_1).run Try.prog w88=.ok (.value (.pointer (some ⟨bA,oA + j * 4,none⟩))) w88:=by have r42:=F.of h42;have r44:=F.of h44;have hA:=HA.out;unfold oA27_13_1;go_simp
  refine sv_ gA27_13_1 Y fun a125 e=>?_;clear Y
  have h47:=pt_ F e;replace F:=pu_ F e;replace h46:=so_ e h46;clear e
  have Y:(execOp a125.eval oA27_13_2).run Try.prog w88=.ok (.value (.agg #[.int .i64 y0.k,.string (str y0.nm),.int .i64 y0.i,.slice ay y0.args.length cy])) w88:=by obtain ⟨u0,u1,u2,u3⟩:=HU.out;unfold oA27_13_2;go_simp
  refine sv_ gA27_13_2 Y fun a126 e=>?_;clear Y
  have h48:=pt_ F e;replace F:=pu_ F e;replace h46:=so_ e h46;replace h47:=so_ e h47;clear e
  have Y:(execOp a126.eval oA27_13_3).run Try.prog w88=.ok (.value (.pointer (some ⟨w88.heap.size,0,none⟩))) (w88.alloc (.cells #[.int .i64 0,.string (⟨#[]⟩),.int .i64 0,.slice none 0 0] 24)):=by unfold oA27_13_3;go_simp
  have B127:=Blk.new w88 24 #[.int .i64 0,.string (⟨#[]⟩),.int .i64 0,.slice none 0 0]
  obtain ⟨w128,hw⟩:∃ x,x=w88.alloc (.cells #[.int .i64 0,.string (⟨#[]⟩),.int .i64 0,.slice none 0 0] 24):=⟨_,rfl⟩;rw [← hw] at Y B127
  obtain ⟨b127,hb⟩:∃ x,x=w88.heap.size:=⟨_,rfl⟩;rw [← hb] at Y B127
  have Nb56_b127:=nb_ hb B56;replace B56:=ba_ hw B56;have Nb60_b127:=nb_ hb B60;replace B60:=ba_ hw B60;have Nb80_b127:=nb_ hb B80;replace B80:=ba_ hw B80;have LK1_b127:=lk_ hb K1;replace K1:=ka_ hw K1;have LKY_b127:=lk_ hb KY;replace KY:=ka_ hw KY;clear hw hb
  refine sv_ gA27_13_3 Y fun a129 e=>?_;clear Y
  have h7:=pt_ F e;replace F:=pu_ F e;replace h46:=so_ e h46;replace h47:=so_ e h47;replace h48:=so_ e h48;clear e
  refine sv_ gA27_13_4 (ya_ rfl h46) fun a130 e=>?_
  have h6:=pt_ F e;replace F:=pu_ F e;replace h7:=so_ e h7;replace h46:=so_ e h46;replace h47:=so_ e h47;replace h48:=so_ e h48;clear e
  obtain ⟨w131,Y,hk,hB⟩:=ys4_ (o:=oA27_13_5) rfl h7 h48 B127
  replace K1:=kx_ hk K1 (Nat.not_lt.2 LK1_b127);replace KY:=kx_ hk KY (Nat.not_lt.2 LKY_b127);replace B56:=bx_ hk B56 Nb56_b127;replace B60:=bx_ hk B60 Nb60_b127;replace B80:=bx_ hk B80 Nb80_b127;clear B127;have B127:=hB;clear hB hk
  refine st_skip gA27_13_5 rfl (wanted_free rfl) Y ?_;clear Y
  refine st_end ?_
  replace h1:=F.of h1;replace h2:=F.of h2;replace h3:=F.of h3;replace h4:=F.of h4;replace h5:=F.of h5;replace h42:=F.of h42;replace h43:=F.of h43;replace h44:=F.of h44;replace h45:=F.of h45;have R:=F.r;clear F
  change (cA27_50).wp _ _ _ _
  refine wp_seq (x:=cA27_51) (y:=cA27_52) ?_
  change (Code.region 14 OA27_14 false).wp _ _ _ _
  refine reg_in (l:=[0,1,2,3,4,5,6,7,8,9]) rfl ?_
  have F:=fe_ R;clear R
  refine sv_ gA27_14_0 (yl4_ rfl (F.of h7) B127) fun a132 e=>?_
  have h50:=pt_ F e;replace F:=pu_ F e;clear e
  obtain ⟨z,hz⟩:∃ q,(wo y0).k=q:=⟨_,rfl⟩
  have hca:=HIH.out y0 (List.mem_of_getElem? HX0.out) w131 ay cy (HTX.out.on KY) ((Tm.ok_args HOK.out HK.out).2.2.1 y0 (List.mem_of_getElem? HX0.out))
  rw [hz] at hca
  have UKX_b56:=B56.lt
  have UKX_b60:=B60.lt
  have UKX_b80:=B80.lt
  have UKX_b127:=B127.lt
  have HWKX:W.heap.size ≤ w131.heap.size:=K1.size
  refine st_call gA27_14_1 rfl (wanted_free rfl) (yc1_ enA27_27 rfl h50) ((hca).mono ?_)
  rintro e9 w133 ⟨ax,cx,rfl,hx,hiy,kk⟩
  replace K1:=keep_onto K1 kk
  replace KY:=keep_onto KY kk
  replace B56:=blk_on B56 kk
  replace B60:=blk_on B60 kk
  replace B80:=blk_on B80 kk
  replace B127:=blk_on B127 kk
  clear kk
  clear hca;have HIY:=Lib.hid hiy;clear hiy
  have HX:=Lib.hid hx;clear hx
  have KX:=Keep.refl (fun g=>w131.heap.size ≤ g∧g < w133.heap.size) w133
  refine ⟨_,rfl,fun a134 e=>?_⟩
  have h51:=pt_ F e;replace F:=pu_ F e;replace h50:=so_ e h50;clear e
  refine sv_ gA27_14_2 (ym_ rfl h51) fun a135 e=>?_
  have h49:=pt_ F e;replace F:=pu_ F e;replace h50:=so_ e h50;replace h51:=so_ e h51;clear e
  refine sv_ gA27_14_3 (ye30_ rfl h49) fun a136 e=>?_
  have h52:=pt_ F e;replace F:=pu_ F e;replace h49:=so_ e h49;replace h50:=so_ e h50;replace h51:=so_ e h51;clear e
  refine sv_ gA27_14_4 (ye31_ rfl h49) fun a137 e=>?_
  have h53:=pt_ F e;replace F:=pu_ F e;replace h49:=so_ e h49;replace h50:=so_ e h50;replace h51:=so_ e h51;replace h52:=so_ e h52;clear e
  refine sv_ gA27_14_5 (ye32_ rfl h49) fun a138 e=>?_
  have h54:=pt_ F e;replace F:=pu_ F e;replace h49:=so_ e h49;replace h50:=so_ e h50;replace h51:=so_ e h51;replace h52:=so_ e h52;replace h53:=so_ e h53;clear e
  have Y:(execOp a138.eval oA27_14_6).run Try.prog w133=.ok (.value (.pointer (some ⟨w133.heap.size,0,none⟩))) (w133.alloc (.cells #[.int .i64 0,.string (⟨#[]⟩),.int .i64 0,.slice none 0 0] 24)):=by unfold oA27_14_6;go_simp
  have B139:=Blk.new w133 24 #[.int .i64 0,.string (⟨#[]⟩),.int .i64 0,.slice none 0 0]
  obtain ⟨w140,hw⟩:∃ x,x=w133.alloc (.cells #[.int .i64 0,.string (⟨#[]⟩),.int .i64 0,.slice none 0 0] 24):=⟨_,rfl⟩;rw [← hw] at Y B139
  obtain ⟨b139,hb⟩:∃ x,x=w133.heap.size:=⟨_,rfl⟩;rw [← hb] at Y B139
  have Nb56_b139:=nb_ hb B56;replace B56:=ba_ hw B56;have Nb60_b139:=nb_ hb B60;replace B60:=ba_ hw B60;have Nb80_b139:=nb_ hb B80;replace B80:=ba_ hw B80;have Nb127_b139:=nb_ hb B127;replace B127:=ba_ hw B127;have LK1_b139:=lk_ hb K1;replace K1:=ka_ hw K1;have LKY_b139:=lk_ hb KY;replace KY:=ka_ hw KY;have LKX_b139:=lk_ hb KX;replace KX:=ka_ hw KX;clear hw hb
  refine sv_ gA27_14_6 Y fun a141 e=>?_;clear Y
  have h9:=pt_ F e;replace F:=pu_ F e;replace h49:=so_ e h49;replace h50:=so_ e h50;replace h51:=so_ e h51;replace h52:=so_ e h52;replace h53:=so_ e h53;replace h54:=so_ e h54;clear e
  refine sv_ gA27_14_7 (ya_ rfl h52) fun a142 e=>?_
  have h8:=pt_ F e;replace F:=pu_ F e;replace h9:=so_ e h9;replace h49:=so_ e h49;replace h50:=so_ e h50;replace h51:=so_ e h51;replace h52:=so_ e h52;replace h53:=so_ e h53;replace h54:=so_ e h54;clear e
  obtain ⟨w143,Y,hk,hB⟩:=ys4_ (o:=oA27_14_8) rfl h9 h53 B139
  replace K1:=kx_ hk K1 (Nat.not_lt.2 LK1_b139);replace KY:=kx_ hk KY (Nat.not_lt.2 LKY_b139);replace KX:=kx_ hk KX (fun hx=>absurd hx.2 (Nat.not_lt.2 LKX_b139));replace B56:=bx_ hk B56 Nb56_b139;replace B60:=bx_ hk B60 Nb60_b139;replace B80:=bx_ hk B80 Nb80_b139;replace B127:=bx_ hk B127 Nb127_b139;clear B139;have B139:=hB;clear hB hk
  refine st_skip gA27_14_8 rfl (wanted_free rfl) Y ?_;clear Y
  refine sv_ gA27_14_9 (ya_ rfl h54) fun a144 e=>?_
  have h10:=pt_ F e;replace F:=pu_ F e;replace h8:=so_ e h8;replace h9:=so_ e h9;replace h49:=so_ e h49;replace h50:=so_ e h50;replace h51:=so_ e h51;replace h52:=so_ e h52;replace h53:=so_ e h53;replace h54:=so_ e h54;clear e
  refine st_end ?_
  replace h1:=F.of h1;replace h2:=F.of h2;replace h3:=F.of h3;replace h4:=F.of h4;replace h5:=F.of h5;replace h6:=F.of h6;replace h7:=F.of h7;replace h42:=F.of h42;replace h43:=F.of h43;replace h44:=F.of h44;replace h45:=F.of h45;replace h46:=F.of h46;replace h47:=F.of h47;replace h48:=F.of h48;have R:=F.r;clear F
  change (cA27_52).wp _ _ _ _
  refine wp_seq (x:=cA27_53) (y:=cA27_60) ?_
  refine wp_seq (x:=cA27_54) (y:=cA27_55) ?_
  change (Code.region 15 OA27_15 false).wp _ _ _ _
  refine reg_in (l:=[0,1]) rfl ?_
  have F:=fe_ R;clear R
  refine sw_ gA27_15_0 (ym_ rfl (F.of h10)) F fun a145 F h55=>?_
  cases z with
  | false =>
   have Y:(execOp a145.eval oA27_15_1).run Try.prog w143=.ok (.value (.bool true)) w143:=by unfold oA27_15_1;go_simp
   refine sv_ gA27_15_1 Y fun a146 e=>?_;clear Y
   have h56:=pt_ F e;replace F:=pu_ F e;replace h55:=so_ e h55;clear e
   refine st_end ?_
   replace h1:=F.of h1;replace h2:=F.of h2;replace h3:=F.of h3;replace h4:=F.of h4;replace h5:=F.of h5;replace h6:=F.of h6;replace h7:=F.of h7;replace h8:=F.of h8;replace h9:=F.of h9;replace h10:=F.of h10;replace h42:=F.of h42;replace h43:=F.of h43;replace h44:=F.of h44;replace h45:=F.of h45;replace h46:=F.of h46;replace h47:=F.of h47;replace h48:=F.of h48;replace h49:=F.of h49;replace h50:=F.of h50;replace h51:=F.of h51;replace h52:=F.of h52;replace h53:=F.of h53;replace h54:=F.of h54;have R:=F.r;clear F
   change (cA27_55).wp _ _ _ _
   refine wp_cond_true (x:=cA27_56) (y:=Code.skip) (eval_slot h56) ?_
   refine wp_seq (x:=cA27_57) (y:=Code.ret) ?_
   change (Code.region 16 OA27_16 true).wp _ _ _ _
   have Xb56:=B56.lt
   have Xb60:=B60.lt
   have Xb80:=B80.lt
   have Xb127:=B127.lt
   have Xb139:=B139.lt
   have D149:=B56
   have D150:=B60
   have D151:=B80
   have D152:=B127
   have D153:=B139
   have K147:=(Keep.refl (fun g=>g < w143.heap.size∧g ≠ b60) w143).drew
   have EK1:=K1
   have EKY:=KY
   have EKX:=KX
   refine dr_in (S:=(fun W=>Keep (fun g=>g < w143.heap.size∧g ≠ b60) w143 W)) (n:=4) (l:=lb_ 4 0) (by kernel_rfl) K147 rfl (by kernel_rfl) ?_
   replace K1:=K1.drew
   replace KY:=KY.drew
   replace KX:=KX.drew
   replace B56:=B56.drew
   replace B60:=B60.drew
   replace B80:=B80.drew
   replace B127:=B127.drew
   replace B139:=B139.drew
   generalize w143.drew=w148 at K147 K1 KY KX B56 B60 B80 B127 B139 ⊢
   have F:=fe_ R;clear R
   refine dt_ (i:=0) (l':=(lb_ 4 1)) gA27_16_0 rfl nsA27_16 (wanted_free rfl) K147 (fun W7 hS=>(yl4_ rfl (F.of h9) (D153.keep hS ⟨Xb139,(Ne.symm Nb60_b139)⟩))) fun a154 e=>?_
   have h57:=pt_ F e;replace F:=pu_ F e;clear e
   have Y:∀ W,Keep (fun g=>g < w143.heap.size∧g ≠ b60) w143 W→(execOp a154.eval oA27_16_1).run Try.prog W=.ok (.value (.int .i64 0)) W:=by intro W7 hS;unfold oA27_16_1;go_simp
   refine dt_ (i:=1) (l':=(lb_ 4 3)) gA27_16_1 rfl nsA27_16 (wanted_free rfl) K147 Y fun a155 e=>?_;clear Y
   clear h2;have h2:=pt_ F e;replace F:=pu_ F e;replace h57:=so_ e h57;clear e
   refine dr_only (i:=2) (fuel:=1) (by kernel_rfl) ?_
   obtain ⟨w156,Y,hk,hB⟩:=ys4_ (o:=oA27_16_2) rfl (F.of h3) h57 B60
   replace K1:=kx_ hk K1 (Nat.not_lt.2 LK1_b60);clear KY;replace KX:=kx_ hk KX (fun hx=>absurd hx.1 (Nat.not_le.2 UKX_b60));replace K147:=kx_ hk K147 (fun hx=>hx.2 rfl);replace B56:=bx_ hk B56 Nb56_b60;replace B80:=bx_ hk B80 (Ne.symm Nb60_b80);replace B127:=bx_ hk B127 (Ne.symm Nb60_b127);replace B139:=bx_ hk B139 (Ne.symm Nb60_b139);clear B60;have B60:=hB;clear hB hk
   refine dr_skip (l':=(lb_ 4 7)) gA27_16_2 rfl (by kernel_rfl) (wanted_free rfl) Y K147 ?_;clear Y
   have Y:∀ W,Keep (fun g=>g < w143.heap.size∧g ≠ b60) w143 W→(execOp a155.eval oA27_16_3).run Try.prog W=.ok (.value (.bool false)) W:=by intro W7 hS;unfold oA27_16_3;go_simp
   refine dt_ (i:=3) (l':=(lb_ 4 15)) gA27_16_3 rfl nsA27_16 (wanted_free rfl) K147 Y fun a157 e=>?_;clear Y
   clear h4;have h4:=pt_ F e;replace F:=pu_ F e;replace h2:=so_ e h2;replace h57:=so_ e h57;clear e
   refine dr_end (by kernel_rfl) ?_
   replace h1:=F.of h1;replace h3:=F.of h3;replace h5:=F.of h5;replace h6:=F.of h6;replace h7:=F.of h7;replace h8:=F.of h8;replace h9:=F.of h9;replace h10:=F.of h10;replace h42:=F.of h42;replace h43:=F.of h43;replace h44:=F.of h44;replace h45:=F.of h45;replace h46:=F.of h46;replace h47:=F.of h47;replace h48:=F.of h48;replace h49:=F.of h49;replace h50:=F.of h50;replace h51:=F.of h51;replace h52:=F.of h52;replace h53:=F.of h53;replace h54:=F.of h54;replace h55:=F.of h55;replace h56:=F.of h56;have R:=F.r;clear F
   clear K147 EK1 EKY EKX D149 D150 D151 D152 D153
   change (Code.ret).wp _ _ _ _
   refine wp_ret ?_
   change bodyPost Try.prog Try.f27 (fun e w'=>∃ a' c',e=.returned (.tuple #[.int .i64 (wo t).v,tv (wo t).b a' c',.bool (wo t).k])∧Own W.heap.size w' (wo t).b a' c'∧inR (wo t).v∧Keep (fun g=>g < W.heap.size) W w') .ret a157 w156
   refine ret_tct (fn:=Try.f27) rfl R h2 h3 h4 B60 ?_
   have HKY:=Lib.hid hz;clear hz
   rw [wo_bal HWO.out HX0.out HKY.out];exact ⟨ax,cx,rfl,(HX.out.on KX).up HWKX,inR_0,K1⟩
  | true =>
   have Y:(execOp a145.eval oA27_15_1).run Try.prog w143=.ok (.value (.bool false)) w143:=by unfold oA27_15_1;go_simp
   refine sv_ gA27_15_1 Y fun a158 e=>?_;clear Y
   have h56:=pt_ F e;replace F:=pu_ F e;replace h55:=so_ e h55;clear e
   refine st_end ?_
   replace h1:=F.of h1;replace h2:=F.of h2;replace h3:=F.of h3;replace h4:=F.of h4;replace h5:=F.of h5;replace h6:=F.of h6;replace h7:=F.of h7;replace h8:=F.of h8;replace h9:=F.of h9;replace h10:=F.of h10;replace h42:=F.of h42;replace h43:=F.of h43;replace h44:=F.of h44;replace h45:=F.of h45;replace h46:=F.of h46;replace h47:=F.of h47;replace h48:=F.of h48;replace h49:=F.of h49;replace h50:=F.of h50;replace h51:=F.of h51;replace h52:=F.of h52;replace h53:=F.of h53;replace h54:=F.of h54;have R:=F.r;clear F
   change (cA27_55).wp _ _ _ _
   refine wp_cond_false (x:=cA27_56) (y:=Code.skip) (eval_slot h56) ?_
   refine wp_skip ?_
   change (cA27_60).wp _ _ _ _
   change (Code.region 17 OA27_17 false).wp _ _ _ _
   refine reg_in (l:=[0,1,2,3]) rfl ?_
   have F:=fe_ R;clear R
   refine sw_ gA27_17_0 (ym_ rfl (F.of h6)) F fun a159 F h58=>?_
   refine sv_ gA27_17_1 (ym_ rfl (F.of h8)) fun a160 e=>?_
   have h59:=pt_ F e;replace F:=pu_ F e;replace h58:=so_ e h58;clear e
   have Y:(execOp a160.eval oA27_17_2).run Try.prog w143=.ok (.value (.pointer (some ⟨b80,j,none⟩))) w143:=by have r5:=F.of h5;have h9:(j:Int) < 2:=(by omega);unfold oA27_17_2;go_simp
   refine sv_ gA27_17_2 Y fun a161 e=>?_;clear Y
   have h60:=pt_ F e;replace F:=pu_ F e;replace h58:=so_ e h58;replace h59:=so_ e h59;clear e
   have HKY:=Lib.hid hz;clear hz
   obtain ⟨w162,Y,hk,hB⟩:=yar_ (o:=oA27_17_3) rfl h60 h59 B80 HXL.out (by omega)
   replace K1:=kx_ hk K1 (Nat.not_lt.2 LK1_b80);clear KY;clear KX;replace B56:=bx_ hk B56 Nb56_b80;replace B60:=bx_ hk B60 Nb60_b80;replace B127:=bx_ hk B127 (Ne.symm Nb80_b127);replace B139:=bx_ hk B139 (Ne.symm Nb80_b139);clear B80;have B80:=hB;clear hB hk
   refine st_skip gA27_17_3 rfl (wanted_free rfl) Y ?_;clear Y
   refine st_end ?_
   replace h1:=F.of h1;replace h2:=F.of h2;replace h3:=F.of h3;replace h4:=F.of h4;replace h5:=F.of h5;replace h6:=F.of h6;replace h7:=F.of h7;replace h8:=F.of h8;replace h9:=F.of h9;replace h10:=F.of h10;replace h42:=F.of h42;replace h43:=F.of h43;replace h44:=F.of h44;replace h45:=F.of h45;replace h46:=F.of h46;replace h47:=F.of h47;replace h48:=F.of h48;replace h49:=F.of h49;replace h50:=F.of h50;replace h51:=F.of h51;replace h52:=F.of h52;replace h53:=F.of h53;replace h54:=F.of h54;replace h55:=F.of h55;replace h56:=F.of h56;have R:=F.r;clear F
   change (cA27_61).wp _ _ _ _
   change (Code.region 18 OA27_18 false).wp _ _ _ _
   refine reg_in (l:=[0,1]) rfl ?_
   have F:=fe_ R;clear R
   have Y:(execOp a161.eval oA27_18_0).run Try.prog w162=.ok (.value (.int .i64 ((j:Int) + 1))) w162:=by have r44:=F.of h44;have hwj:IntKind.i64.wrap ((j:Int) + 1)=(j:Int) + 1:=(by rw [IntKind.wrap_i64];omega);unfold oA27_18_0;go_simp
   refine sw_ gA27_18_0 Y F fun a163 F h61=>?_;clear Y
   refine sv_ gA27_18_1 (ym_ rfl h61) fun a164 e=>?_
   clear h44;have h44:=pt_ F e;replace F:=pu_ F e;replace h61:=so_ e h61;clear e
   refine st_end ?_
   replace h1:=F.of h1;replace h2:=F.of h2;replace h3:=F.of h3;replace h4:=F.of h4;replace h5:=F.of h5;replace h6:=F.of h6;replace h7:=F.of h7;replace h8:=F.of h8;replace h9:=F.of h9;replace h10:=F.of h10;replace h42:=F.of h42;replace h43:=F.of h43;replace h45:=F.of h45;replace h46:=F.of h46;replace h47:=F.of h47;replace h48:=F.of h48;replace h49:=F.of h49;replace h50:=F.of h50;replace h51:=F.of h51;replace h52:=F.of h52;replace h53:=F.of h53;replace h54:=F.of h54;replace h55:=F.of h55;replace h56:=F.of h56;replace h58:=F.of h58;replace h59:=F.of h59;replace h60:=F.of h60;have R:=F.r;clear F
   exact ⟨_,(by omega),j + 1,xs ++ [(wo y0).v],rfl,R,h1,h2,h3,h4,h5,h42,h43,h44,K1,B56,B60,B80,(by omega),(wo_step HWO.out HX0.out HKY.out),(getD_in HXI.out HIY.out),(by rw [List.length_append,HXL.out];rfl)⟩
theorem tmAt_bounds {B:Nat} {w:World} {t:Tm} {a:Option Addr} {c:Nat} (h:TmAt B w t a c):t.nm.length ≤ maxLen∧t.args.length ≤ maxLen∧(Lit.int .i64 t.i).wf=true:=by
  cases h with
  | mk _ _ _ A C hk hi hn hl hc ha=>exact ⟨hn,hl,hi⟩
theorem worth_any:∀ t:Tm,WorthC t:=by
  intro t
  induction t using Tm.ind with
  | h k nm i args ih =>
    intro W a c hT hok
    obtain ⟨h1,h2,h3⟩:=tmAt_bounds hT
    refine enter_sx Try.func27 bodyA27 rfl (by show (1:Nat) ≤ 80;decide) fun f0 R hs=>?_
    by_cases hf:(Tm.node k nm i args).k=4∧isFn (Tm.node k nm i args).nm (Tm.node k nm i args).args.length=true
    · exact worth_b R (hs 0 _ rfl) (Keep.refl _ W) (Lib.hid hT) (Lib.hid hok) (Lib.hid h1) (Lib.hid h2) (Lib.hid h3) (Lib.hid hf.1) (Lib.hid hf.2) (Lib.hid ih)
    · exact worth_a R (hs 0 _ rfl) (Keep.refl _ W) (Lib.hid hT) (Lib.hid hok) (Lib.hid h1) (Lib.hid h2) (Lib.hid h3) (Lib.hid fun h4=>by
        cases hq:isFn (Tm.node k nm i args).nm (Tm.node k nm i args).args.length with
        | false=>rfl
        | true=>exact absurd ⟨h4,hq⟩ hf)
end Go.Proofs.Ytmgephleogiaoaa
