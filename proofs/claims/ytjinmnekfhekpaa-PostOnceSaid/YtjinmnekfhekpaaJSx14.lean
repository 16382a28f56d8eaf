/-
  The document's Rename and Variant: walked with letter frames. No condition but where the terms lie.
-/
import Derived.Test.YtjinmnekfhekpaaJTp9
import Derived.Test.YtjinmnekfhekpaaJSx12
import Derived.Test.YtjinmnekfhekpaaJSx6
namespace Go.Proofs.Ytjinmnekfhekpaa
open Go.RowKit Go.Maps
set_option linter.unusedVariables false
set_option linter.unusedSimpArgs false
theorem push_bd {w w':World} {B b2 c2:Nat} {v:Value} {ms:List BP} {q:BP} {ty:TypeId} (h:w.ownsRow B 29 5 v ms.length (ms.flatMap bcells)) (hB:B ≤ w.heap.size) (k:Keep (fun g=>g < w.heap.size) w w') (hb:Blk w' b2 29 (bcells q).toArray) (hn:ms.length < 100000) :
    ∃ va vc w3,(Builtin.append_ #[25,25] ty #[v,.slice (some ⟨b2,0,none⟩) 1 c2]).run Try.prog w'=.ok (.slice va (ms ++ [q]).length vc) w3∧w3.ownsRow B 29 5 (.slice va (ms ++ [q]).length vc) (ms ++ [q]).length ((ms ++ [q]).flatMap bcells)∧Keep (fun g=>g < B) w' w3:=by
  obtain ⟨v',w3,ha,hr,hk⟩:=append_bd (ty:=ty) (c2:=c2) (row_kept h k) hb (by omega) (Nat.le_trans hB k.size)
  rcases hr.2 with ⟨_,h0⟩ | ⟨g,cap,cur,e,_⟩
  · exact absurd h0 (by simp)
  · subst e;exact ⟨_,_,w3,ha,hr,hk⟩
theorem bdK_wf {w:World} {B:Nat} {m:Int} {l:List Int} {n:Nat} (h1:1 ≤ m) (h2:m ≤ 4611686018427387904) (hn:n ≤ 4000) (hl:∀ k,k < n→(ik (l.getD k 0)).wf=true):∀ q ∈ bdK m l n,(ik q.1).wf=true∧TmAt B w q.2.1 q.2.2.1 q.2.2.2:=fun q hq=>by
  obtain ⟨k,hk,rfl⟩:=List.mem_map.1 hq
  have hk:=List.mem_range.1 hk
  exact ⟨hl k hk,tm_leaf (by decide) (ik_wf (by omega) (by omega)) (by simp)⟩
theorem vars_wf {w:World} {t:Tm} {a:Option Addr} {c B:Nat} (hT:TmAt B w t a c) (hr:t.right=true):∀ k,k < t.tree.vars.length→(ik (t.tree.vars.getD k 0)).wf=true:=fun k hk=>by
  refine var_wf (w:=w) (B:=B) ⟨a,c,hT⟩ hr ?_
  rw [List.getD_eq_getElem?_getD,List.getElem?_eq_getElem hk]
  exact List.getElem_mem hk
def o37_0_0:Oper:=⟨some 2,Op.box 24 (Operand.tmp 0),0, "ref.go:387",#[],none⟩
def o37_0_1:Oper:=⟨some 4,Op.alloc 24,0, "ref.go:387",#[],none⟩
def o37_0_2:Oper:=⟨some 5,Op.assign (Operand.const (Value.int IntKind.i64 0)),2, "ref.go:387",#[],none⟩
def O37_0:Array Oper:=List.toArray (o37_0_0::o37_0_1::o37_0_2::[])
theorem g37_0_0:O37_0[0]? = some o37_0_0:=rfl
theorem g37_0_1:O37_0[1]? = some o37_0_1:=rfl
theorem g37_0_2:O37_0[2]? = some o37_0_2:=rfl
def c37_1:Code:=Code.region 0 O37_0 false
def o37_1_0:Oper:=⟨some 9,Op.load 24 (Operand.tmp 2),24, "ref.go:388",#[],none⟩
def o37_1_1:Oper:=⟨some 10,Op.call { callee:=Callee.value (Operand.func 50),args:=#[Operand.tmp 9],argTypes:=#[24] },56, "ref.go:388",#[ed_ 0],none⟩
def o37_1_2:Oper:=⟨some 6,Op.assign (Operand.tmp 10),56, "ref.go:388",#[ed_ 1,ec_ 1,ep_ 0,ep_ 1],none⟩
def O37_1:Array Oper:=List.toArray (o37_1_0::o37_1_1::o37_1_2::[])
theorem g37_1_0:O37_1[0]? = some o37_1_0:=rfl
theorem g37_1_1:O37_1[1]? = some o37_1_1:=rfl
theorem g37_1_2:O37_1[2]? = some o37_1_2:=rfl
def c37_3:Code:=Code.region 1 O37_1 false
def o37_2_0:Oper:=⟨some 11,Op.buildSlice 25 0 #[],25, "ref.go:389",#[],none⟩
def o37_2_1:Oper:=⟨some 7,Op.assign (Operand.tmp 11),25, "ref.go:389",#[ed_ 0,ep_ 0],none⟩
def O37_2:Array Oper:=List.toArray (o37_2_0::o37_2_1::[])
theorem g37_2_0:O37_2[0]? = some o37_2_0:=rfl
theorem g37_2_1:O37_2[1]? = some o37_2_1:=rfl
def c37_5:Code:=Code.region 2 O37_2 false
def o37_3_0:Oper:=⟨some 8,Op.assign (Operand.const (Value.int IntKind.i64 0)),3, "ref.go:390",#[],none⟩
def O37_3:Array Oper:=List.toArray (o37_3_0::[])
theorem g37_3_0:O37_3[0]? = some o37_3_0:=rfl
def c37_8:Code:=Code.region 3 O37_3 false
def o37_4_0:Oper:=⟨some 12,Op.move (Operand.tmp 8),3, "ref.go:390",#[],none⟩
def o37_4_1:Oper:=⟨some 13,Op.move (Operand.tmp 6),56, "ref.go:390",#[],none⟩
def o37_4_2:Oper:=⟨some 14,Op.call { callee:=Callee.builtin Go.Builtin.len,args:=#[Operand.tmp 13],argTypes:=#[56] },3, "ref.go:390",#[ed_ 1],none⟩
def o37_4_3:Oper:=⟨some 15,Op.binOp Go.BinOp.lss 3 (Operand.tmp 12) (Operand.tmp 14) 3,4, "ref.go:390",#[ed_ 0,ed_ 2],none⟩
def O37_4:Array Oper:=List.toArray (o37_4_0::o37_4_1::o37_4_2::o37_4_3::[])
theorem g37_4_0:O37_4[0]? = some o37_4_0:=rfl
theorem g37_4_1:O37_4[1]? = some o37_4_1:=rfl
theorem g37_4_2:O37_4[2]? = some o37_4_2:=rfl
theorem g37_4_3:O37_4[3]? = some o37_4_3:=rfl
def c37_13:Code:=Code.region 4 O37_4 false
def c37_16:Code:=Code.exit 0
def c37_14:Code:=Code.cond (Operand.tmp 15) Code.skip c37_16
def c37_12:Code:=Code.seq c37_13 c37_14
def o37_6_0:Oper:=⟨some 18,Op.move (Operand.tmp 7),25, "ref.go:391",#[],none⟩
def o37_6_1:Oper:=⟨some 19,Op.move (Operand.tmp 6),56, "ref.go:391",#[],none⟩
def o37_6_2:Oper:=⟨some 20,Op.move (Operand.tmp 8),3, "ref.go:391",#[],none⟩
def o37_6_3:Oper:=⟨some 21,Op.indexAddr 56 (Operand.tmp 19) (Operand.tmp 20),0, "ref.go:391",#[ed_ 1,ed_ 2],none⟩
def o37_6_4:Oper:=⟨some 22,Op.load 2 (Operand.tmp 21),2, "ref.go:391",#[ed_ 3],none⟩
def o37_6_5:Oper:=⟨some 23,Op.move (Operand.tmp 1),2, "ref.go:391",#[],none⟩
def o37_6_6:Oper:=⟨some 24,Op.move (Operand.tmp 8),3, "ref.go:391",#[],none⟩
def o37_6_7:Oper:=⟨some 25,Op.binOp Go.BinOp.add 2 (Operand.tmp 23) (Operand.tmp 24) 2,2, "ref.go:391",#[ed_ 5,ed_ 6],none⟩
def o37_6_8:Oper:=⟨some 26,Op.build 24 #[(0,Operand.const (Value.int IntKind.i64 1)),(2,Operand.tmp 25)],24, "ref.go:391",#[ed_ 7],none⟩
def o37_6_9:Oper:=⟨some 27,Op.build 29 #[(0,Operand.tmp 22),(1,Operand.tmp 26)],29, "ref.go:391",#[ed_ 4,ed_ 8],none⟩
def o37_6_10:Oper:=⟨some 28,Op.buildSlice 25 1 #[(0,Operand.tmp 27)],25, "ref.go:391",#[ed_ 9],none⟩
def o37_6_11:Oper:=⟨some 29,Op.call { callee:=Callee.builtin Go.Builtin.append,args:=#[Operand.tmp 18,Operand.tmp 28],argTypes:=#[25,25] },25, "ref.go:391",#[ed_ 0,ed_ 10],none⟩
def o37_6_12:Oper:=⟨some 7,Op.assign (Operand.tmp 29),25, "ref.go:391",#[ed_ 11,ec_ 11,ep_ 0,ep_ 1,ep_ 2,ep_ 3,ep_ 4,ep_ 5,ep_ 6,ep_ 7,ep_ 8,ep_ 9,ep_ 10,ep_ 11],none⟩
def O37_6:Array Oper:=List.toArray (o37_6_0::o37_6_1::o37_6_2::o37_6_3::o37_6_4::o37_6_5::o37_6_6::o37_6_7::o37_6_8::o37_6_9::o37_6_10::o37_6_11::o37_6_12::[])
theorem g37_6_0:O37_6[0]? = some o37_6_0:=rfl
theorem g37_6_1:O37_6[1]? = some o37_6_1:=rfl
theorem g37_6_2:O37_6[2]? = some o37_6_2:=rfl
theorem g37_6_3:O37_6[3]? = some o37_6_3:=rfl
theorem g37_6_4:O37_6[4]? = some o37_6_4:=rfl
theorem g37_6_5:O37_6[5]? = some o37_6_5:=rfl
theorem g37_6_6:O37_6[6]? = some o37_6_6:=rfl
theorem g37_6_7:O37_6[7]? = some o37_6_7:=rfl
theorem g37_6_8:O37_6[8]? = some o37_6_8:=rfl
theorem g37_6_9:O37_6[9]? = some o37_6_9:=rfl
theorem g37_6_10:O37_6[10]? = some o37_6_10:=rfl
theorem g37_6_11:O37_6[11]? = some o37_6_11:=rfl
theorem g37_6_12:O37_6[12]? = some o37_6_12:=rfl
def c37_19:Code:=Code.region 6 O37_6 false
def c37_18:Code:=Code.block 1 c37_19
def o37_5_0:Oper:=⟨some 16,Op.move (Operand.tmp 8),3, "ref.go:390",#[],none⟩
def o37_5_1:Oper:=⟨some 17,Op.binOp Go.BinOp.add 3 (Operand.tmp 16) (Operand.const (Value.int IntKind.i64 1)) 3,3, "ref.go:390",#[ed_ 0],none⟩
def o37_5_2:Oper:=⟨some 8,Op.assign (Operand.tmp 17),3, "ref.go:390",#[ed_ 1,ep_ 0,ep_ 1],none⟩
def O37_5:Array Oper:=List.toArray (o37_5_0::o37_5_1::o37_5_2::[])
theorem g37_5_0:O37_5[0]? = some o37_5_0:=rfl
theorem g37_5_1:O37_5[1]? = some o37_5_1:=rfl
theorem g37_5_2:O37_5[2]? = some o37_5_2:=rfl
def c37_20:Code:=Code.region 5 O37_5 false
def c37_17:Code:=Code.seq c37_18 c37_20
def c37_11:Code:=Code.seq c37_12 c37_17
def c37_10:Code:=Code.loop c37_11
def c37_9:Code:=Code.block 0 c37_10
def c37_7:Code:=Code.seq c37_8 c37_9
def o37_7_0:Oper:=⟨some 30,Op.load 24 (Operand.tmp 2),24, "ref.go:393",#[],none⟩
def o37_7_1:Oper:=⟨some 31,Op.move (Operand.tmp 7),25, "ref.go:393",#[],none⟩
def o37_7_2:Oper:=⟨some 32,Op.call { callee:=Callee.value (Operand.func 52),args:=#[Operand.tmp 30,Operand.tmp 31],argTypes:=#[24,25] },24, "ref.go:393",#[ed_ 0,ed_ 1],none⟩
def o37_7_3:Oper:=⟨some 33,Op.move (Operand.tmp 1),2, "ref.go:393",#[{ on:=7,ground:=Go.Ground.gcOnly Go.Departure.lateStores }],none⟩
def o37_7_4:Oper:=⟨some 34,Op.move (Operand.tmp 6),56, "ref.go:393",#[],none⟩
def o37_7_5:Oper:=⟨some 35,Op.call { callee:=Callee.builtin Go.Builtin.len,args:=#[Operand.tmp 34],argTypes:=#[56] },3, "ref.go:393",#[ed_ 4],none⟩
def o37_7_6:Oper:=⟨some 36,Op.binOp Go.BinOp.add 2 (Operand.tmp 33) (Operand.tmp 35) 2,2, "ref.go:393",#[ed_ 3,ed_ 5,{ on:=7,ground:=Go.Ground.gcOnly Go.Departure.lateStores }],none⟩
def o37_7_7:Oper:=⟨none,Op.store 24 (Operand.tmp 4) (Operand.tmp 32),0, "ref.go:393",#[ed_ 2,ec_ 2,ep_ 0,ep_ 1,ep_ 2,{ on:=3,ground:=Go.Ground.textOnly Go.Departure.lateStores },{ on:=4,ground:=Go.Ground.textOnly Go.Departure.lateStores },{ on:=5,ground:=Go.Ground.textOnly Go.Departure.lateStoresUnsure },{ on:=6,ground:=Go.Ground.textOnly Go.Departure.lateStores }],none⟩
def o37_7_8:Oper:=⟨some 5,Op.assign (Operand.tmp 36),2, "ref.go:393",#[ed_ 6,ec_ 7,ep_ 0,ep_ 1,ep_ 2,ep_ 3,ep_ 4,ep_ 5,ep_ 6,ep_ 7],none⟩
def O37_7:Array Oper:=List.toArray (o37_7_0::o37_7_1::o37_7_2::o37_7_3::o37_7_4::o37_7_5::o37_7_6::o37_7_7::o37_7_8::[])
theorem g37_7_0:O37_7[0]? = some o37_7_0:=rfl
theorem g37_7_1:O37_7[1]? = some o37_7_1:=rfl
theorem g37_7_2:O37_7[2]? = some o37_7_2:=rfl
theorem g37_7_3:O37_7[3]? = some o37_7_3:=rfl
theorem g37_7_4:O37_7[4]? = some o37_7_4:=rfl
theorem g37_7_5:O37_7[5]? = some o37_7_5:=rfl
theorem g37_7_6:O37_7[6]? = some o37_7_6:=rfl
theorem g37_7_7:O37_7[7]? = some o37_7_7:=rfl
theorem g37_7_8:O37_7[8]? = some o37_7_8:=rfl
def c37_22:Code:=Code.region 7 O37_7 false
def c37_21:Code:=Code.seq c37_22 Code.ret
def c37_6:Code:=Code.seq c37_7 c37_21
def c37_4:Code:=Code.seq c37_5 c37_6
def c37_2:Code:=Code.seq c37_3 c37_4
def c37_0:Code:=Code.seq c37_1 c37_2
theorem en37_25:Enters Try.prog 50:=enters_of Try.func50 (by kernel_rfl) rfl
theorem en37_70:Enters Try.prog 52:=enters_of Try.func52 (by kernel_rfl) rfl
theorem body37:Try.f14.body=some c37_0:=by kernel_rfl
set_option maxRecDepth 100000 in
set_option maxHeartbeats 4000000 in
theorem rren_w {W:World} {t:Tm} {a:Option Addr} {c:Nat} {m:Int} {f0:Act} {w0:World} (R:FrS 37 f0) (h0:f0.tmps[0]? = some (.agg #[.int .i64 t.k,.string (str t.nm),.int .i64 t.i,.slice a t.args.length c])) (h1:f0.tmps[1]? = some (.int .i64 m)) (K1:Keep (fun g=>g < W.heap.size) W w0)  (HT:Hid (TmAt W.heap.size W t a c)) (HR:Hid (t.right=true)) (HM:Hid (1 ≤ m∧m ≤ 4611686018427387904)):c37_0.wp Try.prog (bodyPost Try.prog Try.f14 (fun e w'=>∃ a' c',e=.returned (.tuple #[tv (t.tree.ren m).tm a' c',.int .i64 (m + (t.tree.vars.length:Int))])∧Fr 0 (fun _=>False) w' W.heap.size w'.heap.size (t.tree.ren m).tm a' c'∧Keep (fun g=>g < W.heap.size) W w')) f0 w0:=by
  refine wp_seq (x:=c37_1) (y:=c37_2) ?_
  change (Code.region 0 O37_0 false).wp _ _ _ _
  refine reg_in (l:=[0,1,2]) rfl ?_
  have F:FE_ _ [] f0 f0:=⟨R,Ag_.refl _⟩;clear R
  have Y:(execOp f0.eval o37_0_0).run Try.prog w0=.ok (.value (.pointer (some ⟨w0.heap.size,0,none⟩))) (w0.alloc (.cells #[.int .i64 t.k,.string (str t.nm),.int .i64 t.i,.slice a t.args.length c] 24)):=by have r0:=F.of h0;unfold o37_0_0;go_simp
  have B1:=Blk.new w0 24 #[.int .i64 t.k,.string (str t.nm),.int .i64 t.i,.slice a t.args.length c]
  obtain ⟨w2,hw⟩:∃ x,x=w0.alloc (.cells #[.int .i64 t.k,.string (str t.nm),.int .i64 t.i,.slice a t.args.length c] 24):=⟨_,rfl⟩;rw [← hw] at Y B1
  obtain ⟨b1,hb⟩:∃ x,x=w0.heap.size:=⟨_,rfl⟩;rw [← hb] at Y B1
  have LK1_b1:=lk_ hb K1;replace K1:=ka_ hw K1;clear hw hb
  refine sv_ g37_0_0 Y fun a3 e=>?_;clear Y
  have h2:=pt_ F e;replace F:=pu_ F e;clear e
  have Y:(execOp a3.eval o37_0_1).run Try.prog w2=.ok (.value (.pointer (some ⟨w2.heap.size,0,none⟩))) (w2.alloc (.cells #[.int .i64 0,.string (⟨#[]⟩),.int .i64 0,.slice none 0 0] 24)):=by unfold o37_0_1;go_simp
  have B4:=Blk.new w2 24 #[.int .i64 0,.string (⟨#[]⟩),.int .i64 0,.slice none 0 0]
  obtain ⟨w5,hw⟩:∃ x,x=w2.alloc (.cells #[.int .i64 0,.string (⟨#[]⟩),.int .i64 0,.slice none 0 0] 24):=⟨_,rfl⟩;rw [← hw] at Y B4
  obtain ⟨b4,hb⟩:∃ x,x=w2.heap.size:=⟨_,rfl⟩;rw [← hb] at Y B4
  have Nb1_b4:=nb_ hb B1;replace B1:=ba_ hw B1;have LK1_b4:=lk_ hb K1;replace K1:=ka_ hw K1;clear hw hb
  refine sv_ g37_0_1 Y fun a6 e=>?_;clear Y
  have h4:=pt_ F e;replace F:=pu_ F e;replace h2:=so_ e h2;clear e
  have Y:(execOp a6.eval o37_0_2).run Try.prog w5=.ok (.value (.int .i64 0)) w5:=by unfold o37_0_2;go_simp
  refine sv_ g37_0_2 Y fun a7 e=>?_;clear Y
  have h5:=pt_ F e;replace F:=pu_ F e;replace h2:=so_ e h2;replace h4:=so_ e h4;clear e
  refine st_end ?_
  clear h0;replace h1:=F.of h1;have R:=F.r;clear F
  change (c37_2).wp _ _ _ _
  refine wp_seq (x:=c37_3) (y:=c37_4) ?_
  change (Code.region 1 O37_1 false).wp _ _ _ _
  refine reg_in (l:=[0,1,2]) rfl ?_
  have F:FE_ _ [] a7 a7:=⟨R,Ag_.refl _⟩;clear R
  refine sv_ g37_1_0 (yl4_ rfl (F.of h2) B1) fun a8 e=>?_
  have h9:=pt_ F e;replace F:=pu_ F e;clear e
  have hVB:=K1.size
  refine st_call g37_1_1 rfl (wanted_free rfl) (yc1_ en37_25 rfl h9) ((refVars_any (HT.out.on K1) (right_of.1 HR.out).1 (by have:=(right_of.1 HR.out).2.1;omega)).mono ?_)
  rintro e9 w9 ⟨ua,uc,rfl,hrow,kk⟩
  replace K1:=keep_onto K1 kk
  replace B1:=blk_on B1 kk
  replace B4:=blk_on B4 kk
  clear kk
  obtain ⟨ua',uc',he9,hlg⟩:=row_longs hrow;injection he9 with e1 e2 e3;subst e1;subst e3;clear hrow e2 hVB
  have HLG:=Lib.hid hlg;clear hlg
  have KV:=Keep.refl (fun g=>g < w9.heap.size) w9
  refine ⟨_,rfl,fun a10 e=>?_⟩
  clear h9;have h10:=pt_ F e;replace F:=pu_ F e;clear e
  refine sv_ g37_1_2 (ya_ rfl h10) fun a11 e=>?_
  clear h10;have h6:=pt_ F e;replace F:=pu_ F e;clear e
  refine st_end ?_
  replace h1:=F.of h1;replace h2:=F.of h2;replace h4:=F.of h4;replace h5:=F.of h5;have R:=F.r;clear F
  change (c37_4).wp _ _ _ _
  refine wp_seq (x:=c37_5) (y:=c37_6) ?_
  change (Code.region 2 O37_2 false).wp _ _ _ _
  refine reg_in (l:=[0,1]) rfl ?_
  have F:FE_ _ [] a11 a11:=⟨R,Ag_.refl _⟩;clear R
  have Y:(execOp a11.eval o37_2_0).run Try.prog w9=.ok (.value (.slice (some ⟨w9.heap.size,0,none⟩) 0 0)) (w9.alloc (.cells #[] 29)):=by unfold o37_2_0;go_simp
  have Gb1:b1 < w9.heap.size:=B1.lt
  have Gb4:b4 < w9.heap.size:=B4.lt
  have B12:=Blk.new w9 29 #[]
  have hbz:∃ q,q=w9.heap.size:=⟨_,rfl⟩;clear hbz
  obtain ⟨w13,hw⟩:∃ x,x=w9.alloc (.cells #[] 29):=⟨_,rfl⟩;rw [← hw] at Y B12
  obtain ⟨b12,hb⟩:∃ x,x=w9.heap.size:=⟨_,rfl⟩;rw [← hb] at Y B12 Gb1 Gb4
  have Nb1_b12:=nb_ hb B1;replace B1:=ba_ hw B1;have HLT_b1:=Gb1;clear Gb1;have Nb4_b12:=nb_ hb B4;replace B4:=ba_ hw B4;have HLT_b4:=Gb4;clear Gb4;have LK1_b12:=lk_ hb K1;replace K1:=ka_ hw K1;have LKV_b12:=lk_ hb KV;replace KV:=ka_ hw KV;clear hw hb
  refine sv_ g37_2_0 Y fun a14 e=>?_;clear Y
  have h11:=pt_ F e;replace F:=pu_ F e;clear e
  refine sv_ g37_2_1 (ya_ rfl h11) fun a15 e=>?_
  clear h11;have h7:=pt_ F e;replace F:=pu_ F e;clear e
  refine st_end ?_
  replace h1:=F.of h1;replace h2:=F.of h2;replace h4:=F.of h4;replace h5:=F.of h5;replace h6:=F.of h6;have R:=F.r;clear F
  change (c37_6).wp _ _ _ _
  refine wp_seq (x:=c37_7) (y:=c37_21) ?_
  refine wp_seq (x:=c37_8) (y:=c37_9) ?_
  change (Code.region 3 O37_3 false).wp _ _ _ _
  refine reg_in (l:=[0]) rfl ?_
  have F:FE_ _ [] a15 a15:=⟨R,Ag_.refl _⟩;clear R
  have Y:(execOp a15.eval o37_3_0).run Try.prog w13=.ok (.value (.int .i64 0)) w13:=by unfold o37_3_0;go_simp
  refine sv_ g37_3_0 Y fun a16 e=>?_;clear Y
  have h8:=pt_ F e;replace F:=pu_ F e;clear e
  refine st_end ?_
  replace h1:=F.of h1;replace h2:=F.of h2;replace h4:=F.of h4;replace h5:=F.of h5;replace h6:=F.of h6;replace h7:=F.of h7;have R:=F.r;clear F
  change (c37_9).wp _ _ _ _
  refine wp_block (id:=0) (c:=c37_10) ?_
  have HBR:Hid (w13.ownsRow b12 29 5 (.slice (some ⟨b12,0,none⟩) (bdK m t.tree.vars 0).length 0) (bdK m t.tree.vars 0).length ((bdK m t.tree.vars 0).flatMap bcells)):=Lib.hid (row_made0 B12 (Nat.le_refl _))
  have HLN:Hid (t.tree.vars.length ≤ 2000):=Lib.hid (Nat.le_trans (T.vars_len _) (Tm.tree_right (right_of.1 HR.out)).2.1)
  have hbs:b12 ≤ w13.heap.size:=Nat.le_of_lt B12.lt
  have Eb1:b1 < b12:=HLT_b1
  have Eb4:b4 < b12:=HLT_b4
  clear B12
  refine wp_loop_ghost (c:=c37_11) (fun n fX wX=>∃ i:Nat,∃ va:Option Addr,∃ vc:Nat,n=t.tree.vars.length - i∧FrS 37 fX∧fX.tmps[1]? = some (.int .i64 m)∧fX.tmps[2]? = some (.pointer (some ⟨b1,0,none⟩))∧fX.tmps[4]? = some (.pointer (some ⟨b4,0,none⟩))∧fX.tmps[5]? = some (.int .i64 0)∧fX.tmps[6]? = some (.slice ua t.tree.vars.length uc)∧fX.tmps[7]? = some (.slice va ((bdK m t.tree.vars i).length) vc)∧fX.tmps[8]? = some (.int .i64 (i:Int))∧Keep (fun g=>g < W.heap.size) W wX∧Keep (fun g=>g < w9.heap.size) w9 wX∧Blk wX b1 24 #[.int .i64 t.k,.string (str t.nm),.int .i64 t.i,.slice a t.args.length c]∧Blk wX b4 24 #[.int .i64 0,.string (⟨#[]⟩),.int .i64 0,.slice none 0 0]∧i ≤ t.tree.vars.length∧Hid (wX.ownsRow b12 29 5 (.slice va (bdK m t.tree.vars i).length vc) (bdK m t.tree.vars i).length ((bdK m t.tree.vars i).flatMap bcells))∧b12 ≤ wX.heap.size) (t.tree.vars.length - 0) ⟨0,some ⟨b12,0,none⟩,0,rfl,R,h1,h2,h4,h5,h6,h7,h8,K1,KV,B1,B4,Nat.zero_le _,HBR,hbs⟩ ?_
  clear R h1 h2 h4 h5 h6 h7 h8 K1 KV B1 B4
  rintro n19 a17 w18 ⟨i,va,vc,rfl,R,h1,h2,h4,h5,h6,h7,h8,K1,KV,B1,B4,hi,HBR,hbs⟩
  have hl8:=HLN.out
  have KR:=Keep.refl (fun g=>g < w18.heap.size) w18
  refine wp_seq (x:=c37_12) (y:=c37_17) ?_
  refine wp_seq (x:=c37_13) (y:=c37_14) ?_
  change (Code.region 4 O37_4 false).wp _ _ _ _
  refine reg_in (l:=[0,1,2,3]) rfl ?_
  have F:FE_ _ [] a17 a17:=⟨R,Ag_.refl _⟩;clear R
  refine sv_ g37_4_0 (ym_ rfl (F.of h8)) fun a20 e=>?_
  have h12:=pt_ F e;replace F:=pu_ F e;clear e
  refine sv_ g37_4_1 (ym_ rfl (F.of h6)) fun a21 e=>?_
  have h13:=pt_ F e;replace F:=pu_ F e;replace h12:=so_ e h12;clear e
  have Y:(execOp a21.eval o37_4_2).run Try.prog w18=.ok (.value (.int .i64 t.tree.vars.length)) w18:=by unfold o37_4_2;go_simp
  refine sv_ g37_4_2 Y fun a22 e=>?_;clear Y
  have h14:=pt_ F e;replace F:=pu_ F e;replace h12:=so_ e h12;replace h13:=so_ e h13;clear e
  obtain ⟨b23,hb23⟩:∃ x,(decide ((i:Int) < (t.tree.vars.length:Int)))=x:=⟨_,rfl⟩
  have Y:(execOp a22.eval o37_4_3).run Try.prog w18=.ok (.value (.bool b23)) w18:=by rw [← hb23];unfold o37_4_3;go_simp
  refine sv_ g37_4_3 Y fun a24 e=>?_;clear Y
  have h15:=pt_ F e;replace F:=pu_ F e;replace h12:=so_ e h12;replace h13:=so_ e h13;replace h14:=so_ e h14;clear e
  refine st_end ?_
  replace h1:=F.of h1;replace h2:=F.of h2;replace h4:=F.of h4;replace h5:=F.of h5;replace h6:=F.of h6;replace h7:=F.of h7;replace h8:=F.of h8;have R:=F.r;clear F
  change (c37_14).wp _ _ _ _
  cases b23 with
  | false =>
    have fb23:=hb23;clear hb23
    simp only [decide_eq_true_eq,decide_eq_false_iff_not,bne_iff_ne,bne_eq_false_iff_eq,beq_iff_eq,beq_eq_false_iff_ne,ne_eq,Bool.not_eq_true',Bool.not_eq_false',Bool.not_eq_eq_eq_not,Bool.not_true,Bool.not_false] at fb23
    refine wp_cond_false (x:=Code.skip) (y:=c37_16) (eval_slot h15) ?_
    refine wp_exit ?_
    change (c37_21).wp _ _ _ _
    refine wp_seq (x:=c37_22) (y:=Code.ret) ?_
    change (Code.region 7 O37_7 false).wp _ _ _ _
    refine reg_in (l:=[0,1,2,3,4,5,6,7,8]) rfl ?_
    have F:FE_ _ [] a24 a24:=⟨R,Ag_.refl _⟩;clear R
    refine sv_ g37_7_0 (yl4_ rfl (F.of h2) B1) fun a25 e=>?_
    have h30:=pt_ F e;replace F:=pu_ F e;clear e
    refine sv_ g37_7_1 (ym_ rfl (F.of h7)) fun a26 e=>?_
    have h31:=pt_ F e;replace F:=pu_ F e;replace h30:=so_ e h30;clear e
    have hi9:i=t.tree.vars.length:=by omega
    obtain ⟨sa,sc,he9,hbl,-⟩:=bsl_row (row_kept HBR.out KR) (bdK_wf HM.out.1 HM.out.2 (by have:=HLN.out;omega) (fun k hk=>vars_wf HT.out HR.out k (by omega)))
    injection he9 with e1 e2 e3;subst e1;subst e3;clear e2
    obtain ⟨LO,hLO⟩:∃ q,q=w18.heap.size:=⟨_,rfl⟩
    have Fb1:b1 < LO:=by rw [hLO];exact B1.lt
    have Fb4:b4 < LO:=by rw [hLO];exact B4.lt
    have HWL:W.heap.size ≤ LO:=by rw [hLO];exact K1.size
    have hcall:=refapply_any (bdK m t.tree.vars i) (by rw [bdK_len];omega) (fun q hq=>by obtain ⟨k,_,rfl⟩:=List.mem_map.1 hq;show (Tm.node 1 [] _ []).ns ≤ 2000;rw [Tm.ns_eq,if_neg (show ¬ (Tm.node 1 [] (m + (k:Int)) []).k=4 from (by decide:¬ (1:Int)=4))];omega) t (right_of.1 HR.out).2.1 w18 a c va vc (HT.out.on K1) hbl
    have hre:mapT (apL (bdK m t.tree.vars i)) t=(t.tree.ren m).tm:=by rw [hi9];exact ren_apply (right_of.1 HR.out).1 HM.out.1
    rw [hre] at hcall;clear hre hbl KV KR
    refine st_call g37_7_2 rfl (wanted_free rfl) (yc2_ en37_70 rfl h30 h31) ((hcall).mono ?_)
    rintro e9 w27 ⟨a9,c9,rfl,hfr,kk⟩
    replace K1:=keep_onto K1 kk
    replace B1:=blk_on B1 kk
    replace B4:=blk_on B4 kk
    clear kk
    clear hcall
    rw [← hLO] at hfr;clear hLO
    have HFC:=Lib.hid hfr;clear hfr
    have KX:=Keep.refl (fun g=>LO ≤ g) w27
    refine ⟨_,rfl,fun a28 e=>?_⟩
    clear h30 h31;have h32:=pt_ F e;replace F:=pu_ F e;clear e
    refine sv_ g37_7_3 (ym_ rfl (F.of h1)) fun a29 e=>?_
    have h33:=pt_ F e;replace F:=pu_ F e;replace h32:=so_ e h32;clear e
    refine sv_ g37_7_4 (ym_ rfl (F.of h6)) fun a30 e=>?_
    have h34:=pt_ F e;replace F:=pu_ F e;replace h32:=so_ e h32;replace h33:=so_ e h33;clear e
    have Y:(execOp a30.eval o37_7_5).run Try.prog w27=.ok (.value (.int .i64 t.tree.vars.length)) w27:=by unfold o37_7_5;go_simp
    refine sv_ g37_7_5 Y fun a31 e=>?_;clear Y
    clear h34;have h35:=pt_ F e;replace F:=pu_ F e;replace h32:=so_ e h32;replace h33:=so_ e h33;clear e
    have Y:(execOp a31.eval o37_7_6).run Try.prog w27=.ok (.value (.int .i64 (m + (t.tree.vars.length:Int)))) w27:=by have hwm:IntKind.i64.wrap (m + (t.tree.vars.length:Int))=m + (t.tree.vars.length:Int):=(by have h1:=HM.out;have h2:=HLN.out;rw [IntKind.wrap_i64];omega);unfold o37_7_6;go_simp
    refine sv_ g37_7_6 Y fun a32 e=>?_;clear Y
    clear h33 h35;have h36:=pt_ F e;replace F:=pu_ F e;replace h32:=so_ e h32;clear e
    obtain ⟨w33,Y,hk,hB⟩:=ys4_ (o:=o37_7_7) rfl (F.of h4) h32 B4
    replace K1:=kx_ hk K1 (Nat.not_lt.2 LK1_b4);replace KX:=kx_ hk KX (Nat.not_le.2 Fb4);replace B1:=bx_ hk B1 Nb1_b4;clear B4;have B4:=hB;clear hB hk
    refine st_skip g37_7_7 rfl (wanted_free rfl) Y ?_;clear Y
    refine sv_ g37_7_8 (ya_ rfl h36) fun a34 e=>?_
    clear h32 h36 h5;have h5:=pt_ F e;replace F:=pu_ F e;clear e
    refine st_end ?_
    replace h1:=F.of h1;clear h2;replace h4:=F.of h4;replace h6:=F.of h6;replace h7:=F.of h7;replace h8:=F.of h8;replace h12:=F.of h12;replace h13:=F.of h13;replace h14:=F.of h14;replace h15:=F.of h15;have R:=F.r;clear F
    change (Code.ret).wp _ _ _ _
    refine wp_ret ?_
    change bodyPost Try.prog Try.f14 (fun e w'=>∃ a' c',e=.returned (.tuple #[tv (t.tree.ren m).tm a' c',.int .i64 (m + (t.tree.vars.length:Int))])∧Fr 0 (fun _=>False) w' W.heap.size w'.heap.size (t.tree.ren m).tm a' c'∧Keep (fun g=>g < W.heap.size) W w') .ret a34 w33
    refine ret_cell_tmp (fn:=Try.f14) rfl R h4 h5 B4 ?_
    exact ⟨a9,c9,rfl,(fr_onB HFC.out KX).up KX.size HWL,K1⟩
  | true =>
    have fb23:=hb23;clear hb23
    simp only [decide_eq_true_eq,decide_eq_false_iff_not,bne_iff_ne,bne_eq_false_iff_eq,beq_iff_eq,beq_eq_false_iff_ne,ne_eq,Bool.not_eq_true',Bool.not_eq_false',Bool.not_eq_eq_eq_not,Bool.not_true,Bool.not_false] at fb23
    refine wp_cond_true (x:=Code.skip) (y:=c37_16) (eval_slot h15) ?_
    refine wp_skip ?_
    change (c37_17).wp _ _ _ _
    refine wp_seq (x:=c37_18) (y:=c37_20) ?_
    refine wp_block (id:=1) (c:=c37_19) ?_
    change (Code.region 6 O37_6 false).wp _ _ _ _
    refine reg_in (l:=[0,1,2,3,4,5,6,7,8,9,10,11,12]) rfl ?_
    have F:FE_ _ [] a24 a24:=⟨R,Ag_.refl _⟩;clear R
    refine sv_ g37_6_0 (ym_ rfl (F.of h7)) fun a35 e=>?_
    have h18:=pt_ F e;replace F:=pu_ F e;clear e
    refine sv_ g37_6_1 (ym_ rfl (F.of h6)) fun a36 e=>?_
    have h19:=pt_ F e;replace F:=pu_ F e;replace h18:=so_ e h18;clear e
    refine sv_ g37_6_2 (ym_ rfl (F.of h8)) fun a37 e=>?_
    have h20:=pt_ F e;replace F:=pu_ F e;replace h18:=so_ e h18;replace h19:=so_ e h19;clear e
    obtain ⟨gA,oA,hg,-,hcA⟩:=longs_on HLG.out KV i (show i < t.tree.vars.length by omega)
    have HA:=Lib.hid hg;clear hg;have HCA:=Lib.hid hcA;clear hcA
    have hltA:(i:Int) < (t.tree.vars.length:Int):=by omega
    have Y:(execOp a37.eval o37_6_3).run Try.prog w18=.ok (.value (.pointer (some ⟨gA,oA + i,none⟩))) w18:=by have hA:=HA.out;unfold o37_6_3;go_simp
    refine sv_ g37_6_3 Y fun a38 e=>?_;clear Y
    have h21:=pt_ F e;replace F:=pu_ F e;replace h18:=so_ e h18;replace h19:=so_ e h19;replace h20:=so_ e h20;clear e
    obtain ⟨z,hz⟩:∃ q,t.tree.vars.getD i 0=q:=⟨_,rfl⟩
    rw [hz] at HCA;have HZ:=Lib.hid hz;clear hz
    have Y:(execOp a38.eval o37_6_4).run Try.prog w18=.ok (.value (.int .i64 z)) w18:=by have hc:=HCA.out;unfold o37_6_4;go_simp
    refine sv_ g37_6_4 Y fun a39 e=>?_;clear Y
    have h22:=pt_ F e;replace F:=pu_ F e;replace h18:=so_ e h18;replace h19:=so_ e h19;replace h20:=so_ e h20;replace h21:=so_ e h21;clear e
    refine sv_ g37_6_5 (ym_ rfl (F.of h1)) fun a40 e=>?_
    have h23:=pt_ F e;replace F:=pu_ F e;replace h18:=so_ e h18;replace h19:=so_ e h19;replace h20:=so_ e h20;replace h21:=so_ e h21;replace h22:=so_ e h22;clear e
    refine sv_ g37_6_6 (ym_ rfl (F.of h8)) fun a41 e=>?_
    have h24:=pt_ F e;replace F:=pu_ F e;replace h18:=so_ e h18;replace h19:=so_ e h19;replace h20:=so_ e h20;replace h21:=so_ e h21;replace h22:=so_ e h22;replace h23:=so_ e h23;clear e
    have Y:(execOp a41.eval o37_6_7).run Try.prog w18=.ok (.value (.int .i64 (m + (i:Int)))) w18:=by have hwm:IntKind.i64.wrap (m + (i:Int))=m + (i:Int):=(by have h1:=HM.out;rw [IntKind.wrap_i64];omega);unfold o37_6_7;go_simp
    refine sv_ g37_6_7 Y fun a42 e=>?_;clear Y
    have h25:=pt_ F e;replace F:=pu_ F e;replace h18:=so_ e h18;replace h19:=so_ e h19;replace h20:=so_ e h20;replace h21:=so_ e h21;replace h22:=so_ e h22;replace h23:=so_ e h23;replace h24:=so_ e h24;clear e
    have Y:(execOp a42.eval o37_6_8).run Try.prog w18=.ok (.value (.agg #[.int .i64 1,.string (⟨#[]⟩),.int .i64 (m + (i:Int)),.slice none 0 0])) w18:=by unfold o37_6_8;go_simp
    refine sv_ g37_6_8 Y fun a43 e=>?_;clear Y
    have h26:=pt_ F e;replace F:=pu_ F e;replace h18:=so_ e h18;replace h19:=so_ e h19;replace h20:=so_ e h20;replace h21:=so_ e h21;replace h22:=so_ e h22;replace h23:=so_ e h23;replace h24:=so_ e h24;replace h25:=so_ e h25;clear e
    have Y:(execOp a43.eval o37_6_9).run Try.prog w18=.ok (.value (.agg #[.int .i64 z,.int .i64 1,.string (⟨#[]⟩),.int .i64 (m + (i:Int)),.slice none 0 0])) w18:=by unfold o37_6_9;go_simp
    refine sv_ g37_6_9 Y fun a44 e=>?_;clear Y
    have h27:=pt_ F e;replace F:=pu_ F e;replace h18:=so_ e h18;replace h19:=so_ e h19;replace h20:=so_ e h20;replace h21:=so_ e h21;replace h22:=so_ e h22;replace h23:=so_ e h23;replace h24:=so_ e h24;replace h25:=so_ e h25;replace h26:=so_ e h26;clear e
    have Y:(execOp a44.eval o37_6_10).run Try.prog w18=.ok (.value (.slice (some ⟨w18.heap.size,0,none⟩) 1 1)) (w18.alloc (.cells #[.int .i64 z,.int .i64 1,.string (⟨#[]⟩),.int .i64 (m + (i:Int)),.slice none 0 0] 29)):=by unfold o37_6_10;go_simp
    have B45:=Blk.new w18 29 #[.int .i64 z,.int .i64 1,.string (⟨#[]⟩),.int .i64 (m + (i:Int)),.slice none 0 0]
    obtain ⟨w46,hw⟩:∃ x,x=w18.alloc (.cells #[.int .i64 z,.int .i64 1,.string (⟨#[]⟩),.int .i64 (m + (i:Int)),.slice none 0 0] 29):=⟨_,rfl⟩;rw [← hw] at Y B45
    obtain ⟨b45,hb⟩:∃ x,x=w18.heap.size:=⟨_,rfl⟩;rw [← hb] at Y B45
    have Nb1_b45:=nb_ hb B1;replace B1:=ba_ hw B1;have Nb4_b45:=nb_ hb B4;replace B4:=ba_ hw B4;have LK1_b45:=lk_ hb K1;replace K1:=ka_ hw K1;have LKV_b45:=lk_ hb KV;replace KV:=ka_ hw KV;have LKR_b45:=lk_ hb KR;replace KR:=ka_ hw KR;clear hw hb
    refine sv_ g37_6_10 Y fun a47 e=>?_;clear Y
    have h28:=pt_ F e;replace F:=pu_ F e;replace h18:=so_ e h18;replace h19:=so_ e h19;replace h20:=so_ e h20;replace h21:=so_ e h21;replace h22:=so_ e h22;replace h23:=so_ e h23;replace h24:=so_ e h24;replace h25:=so_ e h25;replace h26:=so_ e h26;replace h27:=so_ e h27;clear e
    obtain ⟨va2,vc2,w8,hap,hrw,kap⟩:=push_bd (ty:=o37_6_11.type) (c2:=1) (q:=(z,.node 1 [] (m + (i:Int)) [],none,0)) HBR.out (Nat.le_trans hbs (Nat.le_refl _)) KR B45 (by rw [bdK_len];omega)
    rw [← HZ.out,← bdK_succ] at hap hrw
    have Y:(execOp a47.eval o37_6_11).run Try.prog w46=.ok (.value (.slice va2 (bdK m t.tree.vars (i + 1)).length vc2)) w8:=by
      unfold o37_6_11 at hap ⊢;unfold execOp;simp only [resolve,invoke,builtin,Sem.run_bind,Sem.run_pure,Result.andThen_ok,List.map_toArray,List.map_cons,List.map_nil,eval_slot h18,eval_slot h28];rw [hap];rfl
    have HBR2:=Lib.hid hrw;clear HBR hrw hap;have HBR:=HBR2;clear HBR2
    replace K1:=K1.trans (kap.less fun g hg=>Nat.lt_of_lt_of_le hg LK1_b12)
    replace KV:=KV.trans (kap.less fun g hg=>Nat.lt_of_lt_of_le hg LKV_b12)
    replace hbs:=Nat.le_trans hbs (Nat.le_trans KR.size kap.size);clear KR
    replace B1:=B1.keep kap Eb1
    replace B4:=B4.keep kap Eb4
    clear B45
    clear kap
    refine sv_ g37_6_11 Y fun a48 e=>?_;clear Y
    have h29:=pt_ F e;replace F:=pu_ F e;replace h18:=so_ e h18;replace h19:=so_ e h19;replace h20:=so_ e h20;replace h21:=so_ e h21;replace h22:=so_ e h22;replace h23:=so_ e h23;replace h24:=so_ e h24;replace h25:=so_ e h25;replace h26:=so_ e h26;replace h27:=so_ e h27;replace h28:=so_ e h28;clear e
    refine sv_ g37_6_12 (ya_ rfl h29) fun a49 e=>?_
    clear h7;have h7:=pt_ F e;replace F:=pu_ F e;replace h18:=so_ e h18;replace h19:=so_ e h19;replace h20:=so_ e h20;replace h21:=so_ e h21;replace h22:=so_ e h22;replace h23:=so_ e h23;replace h24:=so_ e h24;replace h25:=so_ e h25;replace h26:=so_ e h26;replace h27:=so_ e h27;replace h28:=so_ e h28;replace h29:=so_ e h29;clear e
    refine st_end ?_
    replace h1:=F.of h1;replace h2:=F.of h2;replace h4:=F.of h4;replace h5:=F.of h5;replace h6:=F.of h6;replace h8:=F.of h8;replace h12:=F.of h12;replace h13:=F.of h13;replace h14:=F.of h14;replace h15:=F.of h15;have R:=F.r;clear F
    change (c37_20).wp _ _ _ _
    change (Code.region 5 O37_5 false).wp _ _ _ _
    refine reg_in (l:=[0,1,2]) rfl ?_
    have F:FE_ _ [] a49 a49:=⟨R,Ag_.refl _⟩;clear R
    refine sv_ g37_5_0 (ym_ rfl (F.of h8)) fun a50 e=>?_
    have h16:=pt_ F e;replace F:=pu_ F e;clear e
    have Y:(execOp a50.eval o37_5_1).run Try.prog w8=.ok (.value (.int .i64 ((i:Int) + 1))) w8:=by have hwj:IntKind.i64.wrap ((i:Int) + 1)=(i:Int) + 1:=(by rw [IntKind.wrap_i64];omega);unfold o37_5_1;go_simp
    refine sv_ g37_5_1 Y fun a51 e=>?_;clear Y
    have h17:=pt_ F e;replace F:=pu_ F e;replace h16:=so_ e h16;clear e
    refine sv_ g37_5_2 (ya_ rfl h17) fun a52 e=>?_
    clear h8;have h8:=pt_ F e;replace F:=pu_ F e;replace h16:=so_ e h16;replace h17:=so_ e h17;clear e
    refine st_end ?_
    replace h1:=F.of h1;replace h2:=F.of h2;replace h4:=F.of h4;replace h5:=F.of h5;replace h6:=F.of h6;replace h7:=F.of h7;replace h12:=F.of h12;replace h13:=F.of h13;replace h14:=F.of h14;replace h15:=F.of h15;replace h18:=F.of h18;replace h19:=F.of h19;replace h20:=F.of h20;replace h21:=F.of h21;replace h22:=F.of h22;replace h23:=F.of h23;replace h24:=F.of h24;replace h25:=F.of h25;replace h26:=F.of h26;replace h27:=F.of h27;replace h28:=F.of h28;replace h29:=F.of h29;have R:=F.r;clear F
    exact ⟨_,by omega,i + 1,va2,vc2,rfl,R,h1,h2,h4,h5,h6,h7,h8,K1,KV,B1,B4,(by omega),HBR,hbs⟩
theorem refRename_any {W:World} {t:Tm} {a:Option Addr} {c:Nat} {m:Int} (hT:TmAt W.heap.size W t a c) (hr:t.right=true) (h1:1 ≤ m) (h2:m ≤ 4611686018427387904):Calls Try.prog 14 #[tv t a c,.int .i64 m] W fun e w'=>∃ a' c',e=.returned (.tuple #[tv (t.tree.ren m).tm a' c',.int .i64 (m + (t.tree.vars.length:Int))])∧Fr 0 (fun _=>False) w' W.heap.size w'.heap.size (t.tree.ren m).tm a' c'∧Keep (fun g=>g < W.heap.size) W w':=by
  refine enter_sx Try.func14 body37 rfl (by show (2:Nat) ≤ 37;decide) fun f0 R hs=>?_
  exact rren_w R (hs 0 _ rfl) (hs 1 _ rfl) (Keep.refl _ W) (Lib.hid hT) (Lib.hid hr) (Lib.hid ⟨h1,h2⟩)
def o27_0_0:Oper:=⟨some 2,Op.box 24 (Operand.tmp 0),0, "ref.go:397",#[],none⟩
def o27_0_1:Oper:=⟨some 3,Op.box 24 (Operand.tmp 1),0, "ref.go:397",#[],none⟩
def o27_0_2:Oper:=⟨some 4,Op.assign (Operand.const (Value.bool false)),4, "ref.go:397",#[],none⟩
def O27_0:Array Oper:=List.toArray (o27_0_0::o27_0_1::o27_0_2::[])
theorem g27_0_0:O27_0[0]? = some o27_0_0:=rfl
theorem g27_0_1:O27_0[1]? = some o27_0_1:=rfl
theorem g27_0_2:O27_0[2]? = some o27_0_2:=rfl
def c27_1:Code:=Code.region 0 O27_0 false
def o27_1_0:Oper:=⟨some 10,Op.load 24 (Operand.tmp 2),24, "ref.go:398",#[],none⟩
def o27_1_1:Oper:=⟨some 11,Op.call { callee:=Callee.value (Operand.func 14),args:=#[Operand.tmp 10,Operand.const (Value.int IntKind.i64 1)],argTypes:=#[24,2] },40, "ref.go:398",#[ed_ 0],none⟩
def o27_1_2:Oper:=⟨some 9,Op.move (Operand.tmp 11),40, "ref.go:398",#[ed_ 1],none⟩
def o27_1_3:Oper:=⟨some 12,Op.extract (Operand.tmp 9) 0,24, "ref.go:398",#[ed_ 2],none⟩
def o27_1_4:Oper:=⟨some 13,Op.extract (Operand.tmp 9) 1,2, "ref.go:398",#[ed_ 2,{ on:=6,ground:=Go.Ground.gcOnly Go.Departure.lateStores }],none⟩
def o27_1_5:Oper:=⟨some 5,Op.alloc 24,0, "ref.go:398",#[],none⟩
def o27_1_6:Oper:=⟨none,Op.store 24 (Operand.tmp 5) (Operand.tmp 12),0, "ref.go:398",#[ed_ 5,ed_ 3,ec_ 1,ep_ 0,ep_ 1,ep_ 2,ep_ 3,{ on:=4,ground:=Go.Ground.textOnly Go.Departure.lateStores },ep_ 5],none⟩
def o27_1_7:Oper:=⟨some 6,Op.assign (Operand.tmp 13),2, "ref.go:398",#[ed_ 4,ec_ 6,ep_ 0,ep_ 1,ep_ 2,ep_ 3,ep_ 4,ep_ 5,ep_ 6],none⟩
def O27_1:Array Oper:=List.toArray (o27_1_0::o27_1_1::o27_1_2::o27_1_3::o27_1_4::o27_1_5::o27_1_6::o27_1_7::[])
theorem g27_1_0:O27_1[0]? = some o27_1_0:=rfl
theorem g27_1_1:O27_1[1]? = some o27_1_1:=rfl
theorem g27_1_2:O27_1[2]? = some o27_1_2:=rfl
theorem g27_1_3:O27_1[3]? = some o27_1_3:=rfl
theorem g27_1_4:O27_1[4]? = some o27_1_4:=rfl
theorem g27_1_5:O27_1[5]? = some o27_1_5:=rfl
theorem g27_1_6:O27_1[6]? = some o27_1_6:=rfl
theorem g27_1_7:O27_1[7]? = some o27_1_7:=rfl
def c27_3:Code:=Code.region 1 O27_1 false
def o27_2_0:Oper:=⟨some 15,Op.load 24 (Operand.tmp 3),24, "ref.go:399",#[],none⟩
def o27_2_1:Oper:=⟨some 16,Op.call { callee:=Callee.value (Operand.func 14),args:=#[Operand.tmp 15,Operand.const (Value.int IntKind.i64 1)],argTypes:=#[24,2] },40, "ref.go:399",#[ed_ 0],none⟩
def o27_2_2:Oper:=⟨some 14,Op.move (Operand.tmp 16),40, "ref.go:399",#[ed_ 1],none⟩
def o27_2_3:Oper:=⟨some 17,Op.extract (Operand.tmp 14) 0,24, "ref.go:399",#[ed_ 2],none⟩
def o27_2_4:Oper:=⟨some 18,Op.extract (Operand.tmp 14) 1,2, "ref.go:399",#[ed_ 2,{ on:=6,ground:=Go.Ground.gcOnly Go.Departure.lateStores }],none⟩
def o27_2_5:Oper:=⟨some 7,Op.alloc 24,0, "ref.go:399",#[],none⟩
def o27_2_6:Oper:=⟨none,Op.store 24 (Operand.tmp 7) (Operand.tmp 17),0, "ref.go:399",#[ed_ 5,ed_ 3,ec_ 1,ep_ 0,ep_ 1,ep_ 2,ep_ 3,{ on:=4,ground:=Go.Ground.textOnly Go.Departure.lateStores },ep_ 5],none⟩
def o27_2_7:Oper:=⟨some 8,Op.assign (Operand.tmp 18),2, "ref.go:399",#[ed_ 4,ec_ 6,ep_ 0,ep_ 1,ep_ 2,ep_ 3,ep_ 4,ep_ 5,ep_ 6],none⟩
def O27_2:Array Oper:=List.toArray (o27_2_0::o27_2_1::o27_2_2::o27_2_3::o27_2_4::o27_2_5::o27_2_6::o27_2_7::[])
theorem g27_2_0:O27_2[0]? = some o27_2_0:=rfl
theorem g27_2_1:O27_2[1]? = some o27_2_1:=rfl
theorem g27_2_2:O27_2[2]? = some o27_2_2:=rfl
theorem g27_2_3:O27_2[3]? = some o27_2_3:=rfl
theorem g27_2_4:O27_2[4]? = some o27_2_4:=rfl
theorem g27_2_5:O27_2[5]? = some o27_2_5:=rfl
theorem g27_2_6:O27_2[6]? = some o27_2_6:=rfl
theorem g27_2_7:O27_2[7]? = some o27_2_7:=rfl
def c27_5:Code:=Code.region 2 O27_2 false
def o27_3_0:Oper:=⟨some 19,Op.load 24 (Operand.tmp 5),24, "ref.go:400",#[],none⟩
def o27_3_1:Oper:=⟨some 20,Op.load 24 (Operand.tmp 7),24, "ref.go:400",#[],none⟩
def o27_3_2:Oper:=⟨some 21,Op.call { callee:=Callee.value (Operand.func 15),args:=#[Operand.tmp 19,Operand.tmp 20],argTypes:=#[24,24] },4, "ref.go:400",#[ed_ 0,ed_ 1],none⟩
def o27_3_3:Oper:=⟨some 4,Op.assign (Operand.tmp 21),4, "ref.go:400",#[ed_ 2,ec_ 2,ep_ 0,ep_ 1,ep_ 2],none⟩
def O27_3:Array Oper:=List.toArray (o27_3_0::o27_3_1::o27_3_2::o27_3_3::[])
theorem g27_3_0:O27_3[0]? = some o27_3_0:=rfl
theorem g27_3_1:O27_3[1]? = some o27_3_1:=rfl
theorem g27_3_2:O27_3[2]? = some o27_3_2:=rfl
theorem g27_3_3:O27_3[3]? = some o27_3_3:=rfl
def c27_7:Code:=Code.region 3 O27_3 false
def c27_6:Code:=Code.seq c27_7 Code.ret
def c27_4:Code:=Code.seq c27_5 c27_6
def c27_2:Code:=Code.seq c27_3 c27_4
def c27_0:Code:=Code.seq c27_1 c27_2
theorem en27_38:Enters Try.prog 15:=enters_of Try.func15 (by kernel_rfl) rfl
theorem body27:Try.f28.body=some c27_0:=by kernel_rfl
set_option maxRecDepth 100000 in
set_option maxHeartbeats 4000000 in
theorem rvar_w {W:World} {t u:Tm} {a b:Option Addr} {c d:Nat} {f0:Act} {w0:World} (R:FrS 22 f0) (h0:f0.tmps[0]? = some (.agg #[.int .i64 t.k,.string (str t.nm),.int .i64 t.i,.slice a t.args.length c])) (h1:f0.tmps[1]? = some (.agg #[.int .i64 u.k,.string (str u.nm),.int .i64 u.i,.slice b u.args.length d])) (K1:Keep (fun g=>g < W.heap.size) W w0)  (HT:Hid (TmAt W.heap.size W t a c)) (HU:Hid (TmAt W.heap.size W u b d)) (HR:Hid (t.right=true)) (HQ:Hid (u.right=true)):c27_0.wp Try.prog (bodyPost Try.prog Try.f28 (fun e w'=>e=.returned (.bool (vtV t u))∧Keep (fun g=>g < W.heap.size) W w')) f0 w0:=by
  refine wp_seq (x:=c27_1) (y:=c27_2) ?_
  change (Code.region 0 O27_0 false).wp _ _ _ _
  refine reg_in (l:=[0,1,2]) rfl ?_
  have F:FE_ _ [] f0 f0:=⟨R,Ag_.refl _⟩;clear R
  have Y:(execOp f0.eval o27_0_0).run Try.prog w0=.ok (.value (.pointer (some ⟨w0.heap.size,0,none⟩))) (w0.alloc (.cells #[.int .i64 t.k,.string (str t.nm),.int .i64 t.i,.slice a t.args.length c] 24)):=by have r0:=F.of h0;unfold o27_0_0;go_simp
  have B1:=Blk.new w0 24 #[.int .i64 t.k,.string (str t.nm),.int .i64 t.i,.slice a t.args.length c]
  obtain ⟨w2,hw⟩:∃ x,x=w0.alloc (.cells #[.int .i64 t.k,.string (str t.nm),.int .i64 t.i,.slice a t.args.length c] 24):=⟨_,rfl⟩;rw [← hw] at Y B1
  obtain ⟨b1,hb⟩:∃ x,x=w0.heap.size:=⟨_,rfl⟩;rw [← hb] at Y B1
  have LK1_b1:=lk_ hb K1;replace K1:=ka_ hw K1;clear hw hb
  refine sv_ g27_0_0 Y fun a3 e=>?_;clear Y
  have h2:=pt_ F e;replace F:=pu_ F e;clear e
  have Y:(execOp a3.eval o27_0_1).run Try.prog w2=.ok (.value (.pointer (some ⟨w2.heap.size,0,none⟩))) (w2.alloc (.cells #[.int .i64 u.k,.string (str u.nm),.int .i64 u.i,.slice b u.args.length d] 24)):=by have r1:=F.of h1;unfold o27_0_1;go_simp
  have B4:=Blk.new w2 24 #[.int .i64 u.k,.string (str u.nm),.int .i64 u.i,.slice b u.args.length d]
  obtain ⟨w5,hw⟩:∃ x,x=w2.alloc (.cells #[.int .i64 u.k,.string (str u.nm),.int .i64 u.i,.slice b u.args.length d] 24):=⟨_,rfl⟩;rw [← hw] at Y B4
  obtain ⟨b4,hb⟩:∃ x,x=w2.heap.size:=⟨_,rfl⟩;rw [← hb] at Y B4
  have Nb1_b4:=nb_ hb B1;replace B1:=ba_ hw B1;have LK1_b4:=lk_ hb K1;replace K1:=ka_ hw K1;clear hw hb
  refine sv_ g27_0_1 Y fun a6 e=>?_;clear Y
  have h3:=pt_ F e;replace F:=pu_ F e;replace h2:=so_ e h2;clear e
  have Y:(execOp a6.eval o27_0_2).run Try.prog w5=.ok (.value (.bool false)) w5:=by unfold o27_0_2;go_simp
  refine sv_ g27_0_2 Y fun a7 e=>?_;clear Y
  have h4:=pt_ F e;replace F:=pu_ F e;replace h2:=so_ e h2;replace h3:=so_ e h3;clear e
  refine st_end ?_
  clear h0;clear h1;have R:=F.r;clear F
  change (c27_2).wp _ _ _ _
  refine wp_seq (x:=c27_3) (y:=c27_4) ?_
  change (Code.region 1 O27_1 false).wp _ _ _ _
  refine reg_in (l:=[0,1,2,3,4,5,6,7]) rfl ?_
  have F:FE_ _ [] a7 a7:=⟨R,Ag_.refl _⟩;clear R
  refine sv_ g27_1_0 (yl4_ rfl (F.of h2) B1) fun a8 e=>?_
  have h10:=pt_ F e;replace F:=pu_ F e;clear e
  have Y:(execOp a8.eval o27_1_1).run Try.prog w5=.ok (.enter 14 #[.agg #[.int .i64 t.k,.string (str t.nm),.int .i64 t.i,.slice a t.args.length c],.int .i64 1]) w5:=by unfold o27_1_1;go_simp
  refine st_call g27_1_1 rfl (wanted_free rfl) Y ((refRename_any (HT.out.on K1) HR.out (by decide) (by decide)).mono ?_);clear Y
  rintro e9 w9 ⟨aX,cX,rfl,hf,kk⟩
  replace K1:=keep_onto K1 kk
  replace B1:=blk_on B1 kk
  replace B4:=blk_on B4 kk
  clear kk
  have HX:=Lib.hid (hf.at_ (Nat.zero_le _));clear hf
  have KX:=Keep.refl (fun g=>g < w9.heap.size) w9
  refine ⟨_,rfl,fun a10 e=>?_⟩
  clear h10;have h11:=pt_ F e;replace F:=pu_ F e;clear e
  refine sv_ g27_1_2 (ym_ rfl h11) fun a11 e=>?_
  clear h11;have h9:=pt_ F e;replace F:=pu_ F e;clear e
  refine sv_ g27_1_3 (ye20_ rfl h9) fun a12 e=>?_
  have h12:=pt_ F e;replace F:=pu_ F e;replace h9:=so_ e h9;clear e
  refine sv_ g27_1_4 (ye21_ rfl h9) fun a13 e=>?_
  clear h9;have h13:=pt_ F e;replace F:=pu_ F e;replace h12:=so_ e h12;clear e
  have Y:(execOp a13.eval o27_1_5).run Try.prog w9=.ok (.value (.pointer (some ⟨w9.heap.size,0,none⟩))) (w9.alloc (.cells #[.int .i64 0,.string (⟨#[]⟩),.int .i64 0,.slice none 0 0] 24)):=by unfold o27_1_5;go_simp
  have B14:=Blk.new w9 24 #[.int .i64 0,.string (⟨#[]⟩),.int .i64 0,.slice none 0 0]
  obtain ⟨w15,hw⟩:∃ x,x=w9.alloc (.cells #[.int .i64 0,.string (⟨#[]⟩),.int .i64 0,.slice none 0 0] 24):=⟨_,rfl⟩;rw [← hw] at Y B14
  obtain ⟨b14,hb⟩:∃ x,x=w9.heap.size:=⟨_,rfl⟩;rw [← hb] at Y B14
  have Nb1_b14:=nb_ hb B1;replace B1:=ba_ hw B1;have Nb4_b14:=nb_ hb B4;replace B4:=ba_ hw B4;have LK1_b14:=lk_ hb K1;replace K1:=ka_ hw K1;have LKX_b14:=lk_ hb KX;replace KX:=ka_ hw KX;clear hw hb
  refine sv_ g27_1_5 Y fun a16 e=>?_;clear Y
  have h5:=pt_ F e;replace F:=pu_ F e;replace h12:=so_ e h12;replace h13:=so_ e h13;clear e
  obtain ⟨w17,Y,hk,hB⟩:=ys4_ (o:=o27_1_6) rfl h5 h12 B14
  replace K1:=kx_ hk K1 (Nat.not_lt.2 LK1_b14);replace KX:=kx_ hk KX (Nat.not_lt.2 LKX_b14);replace B1:=bx_ hk B1 Nb1_b14;replace B4:=bx_ hk B4 Nb4_b14;clear B14;have B14:=hB;clear hB hk
  refine st_skip g27_1_6 rfl (wanted_free rfl) Y ?_;clear Y
  refine sv_ g27_1_7 (ya_ rfl h13) fun a18 e=>?_
  clear h12 h13;replace F:=pu_ F e;replace h5:=so_ e h5;clear e
  refine st_end ?_
  clear h2;replace h3:=F.of h3;replace h4:=F.of h4;have R:=F.r;clear F
  change (c27_4).wp _ _ _ _
  refine wp_seq (x:=c27_5) (y:=c27_6) ?_
  change (Code.region 2 O27_2 false).wp _ _ _ _
  refine reg_in (l:=[0,1,2,3,4,5,6,7]) rfl ?_
  have F:FE_ _ [] a18 a18:=⟨R,Ag_.refl _⟩;clear R
  refine sv_ g27_2_0 (yl4_ rfl (F.of h3) B4) fun a19 e=>?_
  have h15:=pt_ F e;replace F:=pu_ F e;clear e
  have Y:(execOp a19.eval o27_2_1).run Try.prog w17=.ok (.enter 14 #[.agg #[.int .i64 u.k,.string (str u.nm),.int .i64 u.i,.slice b u.args.length d],.int .i64 1]) w17:=by unfold o27_2_1;go_simp
  refine st_call g27_2_1 rfl (wanted_free rfl) Y ((refRename_any (HU.out.on K1) HQ.out (by decide) (by decide)).mono ?_);clear Y
  rintro e9 w20 ⟨aY,cY,rfl,hf,kk⟩
  replace K1:=keep_onto K1 kk
  replace KX:=keep_onto KX kk
  replace B1:=blk_on B1 kk
  replace B4:=blk_on B4 kk
  replace B14:=blk_on B14 kk
  clear kk
  have HY:=Lib.hid (hf.at_ (Nat.zero_le _));clear hf
  have KY:=Keep.refl (fun g=>g < w20.heap.size) w20
  refine ⟨_,rfl,fun a21 e=>?_⟩
  clear h15;have h16:=pt_ F e;replace F:=pu_ F e;clear e
  refine sv_ g27_2_2 (ym_ rfl h16) fun a22 e=>?_
  clear h16;have h14:=pt_ F e;replace F:=pu_ F e;clear e
  refine sv_ g27_2_3 (ye20_ rfl h14) fun a23 e=>?_
  have h17:=pt_ F e;replace F:=pu_ F e;replace h14:=so_ e h14;clear e
  refine sv_ g27_2_4 (ye21_ rfl h14) fun a24 e=>?_
  clear h14;have h18:=pt_ F e;replace F:=pu_ F e;replace h17:=so_ e h17;clear e
  have Y:(execOp a24.eval o27_2_5).run Try.prog w20=.ok (.value (.pointer (some ⟨w20.heap.size,0,none⟩))) (w20.alloc (.cells #[.int .i64 0,.string (⟨#[]⟩),.int .i64 0,.slice none 0 0] 24)):=by unfold o27_2_5;go_simp
  have B25:=Blk.new w20 24 #[.int .i64 0,.string (⟨#[]⟩),.int .i64 0,.slice none 0 0]
  obtain ⟨w26,hw⟩:∃ x,x=w20.alloc (.cells #[.int .i64 0,.string (⟨#[]⟩),.int .i64 0,.slice none 0 0] 24):=⟨_,rfl⟩;rw [← hw] at Y B25
  obtain ⟨b25,hb⟩:∃ x,x=w20.heap.size:=⟨_,rfl⟩;rw [← hb] at Y B25
  have Nb1_b25:=nb_ hb B1;replace B1:=ba_ hw B1;have Nb4_b25:=nb_ hb B4;replace B4:=ba_ hw B4;have Nb14_b25:=nb_ hb B14;replace B14:=ba_ hw B14;have LK1_b25:=lk_ hb K1;replace K1:=ka_ hw K1;have LKX_b25:=lk_ hb KX;replace KX:=ka_ hw KX;have LKY_b25:=lk_ hb KY;replace KY:=ka_ hw KY;clear hw hb
  refine sv_ g27_2_5 Y fun a27 e=>?_;clear Y
  have h7:=pt_ F e;replace F:=pu_ F e;replace h17:=so_ e h17;replace h18:=so_ e h18;clear e
  obtain ⟨w28,Y,hk,hB⟩:=ys4_ (o:=o27_2_6) rfl h7 h17 B25
  replace K1:=kx_ hk K1 (Nat.not_lt.2 LK1_b25);replace KX:=kx_ hk KX (Nat.not_lt.2 LKX_b25);replace KY:=kx_ hk KY (Nat.not_lt.2 LKY_b25);replace B1:=bx_ hk B1 Nb1_b25;replace B4:=bx_ hk B4 Nb4_b25;replace B14:=bx_ hk B14 Nb14_b25;clear B25;have B25:=hB;clear hB hk
  refine st_skip g27_2_6 rfl (wanted_free rfl) Y ?_;clear Y
  refine sv_ g27_2_7 (ya_ rfl h18) fun a29 e=>?_
  clear h17 h18;replace F:=pu_ F e;replace h7:=so_ e h7;clear e
  refine st_end ?_
  clear h3;replace h4:=F.of h4;replace h5:=F.of h5;have R:=F.r;clear F
  change (c27_6).wp _ _ _ _
  refine wp_seq (x:=c27_7) (y:=Code.ret) ?_
  change (Code.region 3 O27_3 false).wp _ _ _ _
  refine reg_in (l:=[0,1,2,3]) rfl ?_
  have F:FE_ _ [] a29 a29:=⟨R,Ag_.refl _⟩;clear R
  refine sv_ g27_3_0 (yl4_ rfl (F.of h5) B14) fun a30 e=>?_
  have h19:=pt_ F e;replace F:=pu_ F e;clear e
  refine sv_ g27_3_1 (yl4_ rfl (F.of h7) B25) fun a31 e=>?_
  have h20:=pt_ F e;replace F:=pu_ F e;replace h19:=so_ e h19;clear e
  have hcall:=refSame_any (HX.out.on KX) (HY.out.on KY) (right_of.1 (ren_facts (a:=1) (b:=1) HR.out (by decide) (by decide)).1).1 (right_of.1 (ren_facts (a:=1) (b:=1) HQ.out (by decide) (by decide)).1).1
  obtain ⟨z,hz⟩:∃ q,q=vtV t u:=⟨_,rfl⟩
  have hvz:((t.tree.ren 1).tm.tree.cmp (u.tree.ren 1).tm.tree == 0)=z:=by rw [hz];unfold vtV;rw [HR.out,HQ.out,T.tm_tree,T.tm_tree];rfl
  rw [hvz] at hcall;have HZ:=Lib.hid hz;clear hz hvz
  refine st_call g27_3_2 rfl (wanted_free rfl) (yc2_ en27_38 rfl h19 h20) ((hcall).mono ?_)
  rintro e9 w32 ⟨rfl,kk⟩
  replace K1:=keep_onto K1 kk
  replace KX:=keep_onto KX kk
  replace KY:=keep_onto KY kk
  replace B1:=blk_on B1 kk
  replace B4:=blk_on B4 kk
  replace B14:=blk_on B14 kk
  replace B25:=blk_on B25 kk
  clear kk
  clear hcall
  refine ⟨_,rfl,fun a33 e=>?_⟩
  clear h19 h20;have h21:=pt_ F e;replace F:=pu_ F e;clear e
  refine sv_ g27_3_3 (ya_ rfl h21) fun a34 e=>?_
  clear h21 h4;have h4:=pt_ F e;replace F:=pu_ F e;clear e
  refine st_end ?_
  clear h5;clear h7;have R:=F.r;clear F
  change (Code.ret).wp _ _ _ _
  refine wp_ret ?_
  change bodyPost Try.prog Try.f28 (fun e w'=>e=.returned (.bool (vtV t u))∧Keep (fun g=>g < W.heap.size) W w') .ret a34 w32
  refine ret_one rfl R h4 ?_
  exact ⟨by rw [HZ.out],K1⟩
theorem refVariant_any {W:World} {t u:Tm} {a b:Option Addr} {c d:Nat} (hT:TmAt W.heap.size W t a c) (hU:TmAt W.heap.size W u b d) (hr:t.right=true) (hq:u.right=true):Calls Try.prog 28 #[tv t a c,tv u b d] W fun e w'=>e=.returned (.bool (vtV t u))∧Keep (fun g=>g < W.heap.size) W w':=by
  refine enter_sx Try.func28 body27 rfl (by show (2:Nat) ≤ 22;decide) fun f0 R hs=>?_
  exact rvar_w R (hs 0 _ rfl) (hs 1 _ rfl) (Keep.refl _ W) (Lib.hid hT) (Lib.hid hU) (Lib.hid hr) (Lib.hid hq)
end Go.Proofs.Ytjinmnekfhekpaa
