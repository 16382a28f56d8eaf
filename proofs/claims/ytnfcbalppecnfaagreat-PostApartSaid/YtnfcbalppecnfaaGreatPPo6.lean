/-
  Package post: New, Make, Drop, Queues: walked with letter frames. Conditions: fewer than 2^62 queues were made; Make: there is room.
-/
import Derived.Test.YtnfcbalppecnfaaGreatPPo5
import Derived.Test.YtnfcbalppecnfaaGreatLayp
import Derived.Deep.RegionWith
import Derived.Deep.RegionLaw
import Derived.BigRegion
import Derived.BigQuiet
import Derived.Outline
import Derived.ProofKit
import Derived.CallsIn
import Derived.WalkSmall
import Derived.Carry
namespace Go.Proofs.YtnfcbalppecnfaaGreat
open Go.RowKit Go.Maps Go.Sort Go.Shelf
set_option linter.unusedVariables false
set_option linter.unusedSimpArgs false
theorem sortsI (m:Nat):AnyZI.SortsIn Tryz.prog Tryz.sortedI_ren Fence.wide m :=
  ⟨fun blk off cap ss W hH hblk hsz=>callsIn_wide.2 (AnyM.slices_Sort_int Tryz.sortI blk off cap ss W hH hblk hsz),
   fun p cap W=>callsIn_wide.2 (AnyM.slices_Sort_int_none Tryz.sortI p cap W)⟩
section
variable {B:Nat} {R R' X:Nat→Prop} {w w':World} {pa mb n bq:Nat} {made k m:Int} {f:Int→Option Qu} {q q' x:Qu}
theorem PoAt.more (h:PoAt B R w pa mb made f n) (hn:n < 8) (hm1:1 ≤ m∧m ≤ 64) (hk:Keep (fun g=>g ≠ pa∧g ≠ mb) w w') (hh:Blk w' pa 48 #[.int .i64 (made + 1),.map (some mb)]) (hmap:MapN w' mb (.pointer none) (fun j=>if j=made + 1 then some (.pointer (some ⟨bq,0,none⟩)) else (f j).map fun q=>.pointer (some ⟨q.g,0,none⟩)) (n + 1)) (hb:Blk w' bq 72 #[.int .i64 m,.slice none 0 0]) (hq:w.heap.size ≤ bq):PoAt B (fun g=>R g∨g=bq) w' pa mb (made + 1) (fun j=>if j=made + 1 then some ⟨bq,m,.slice none 0 0,[]⟩ else f j) (n + 1):=by
  have e:(fun j=>(if j=made + 1 then some (⟨bq,m,.slice none 0 0,[]⟩:Qu) else f j).map fun q=>Value.pointer (some ⟨q.g,0,none⟩))=(fun j=>if j=made + 1 then some (.pointer (some ⟨bq,0,none⟩)) else (f j).map fun q=>.pointer (some ⟨q.g,0,none⟩)):=funext fun j=>by
    by_cases hj:j=made + 1
    · rw [if_pos hj,if_pos hj];rfl
    · rw [if_neg hj,if_neg hj]
  have old:∀ j y,f j=some y→y.g < w.heap.size∧∀ b,y.v.ownBlock=some b→b < w.heap.size:=fun j y hy=>⟨(h.rb _ (h.qs j y hy).rg).2,fun b hb=>(h.rb _ ((h.qs j y hy).rv b hb)).2⟩
  refine ⟨hh,by rw [e];exact hmap,fun j y hy=>?_,fun j j' y y' hy hy' hne=>?_,.inl h.rp,.inl h.rm,fun b hb2=>?_,Nat.le_trans h.le hk.size,hn,by have:=h.num.1;omega,fun j y hy=>?_⟩
  · by_cases hj:j=made + 1
    · rw [if_pos hj] at hy;cases hy
      exact ⟨hb,World.ownsRow_nil _ _ _ _,fun p hp=>by simp at hp,.inr rfl,fun k hk=>by simp [Value.ownBlock] at hk,hm1,by show ((0:Nat):Int) ≤ m;omega,fun p hp=>by simp at hp⟩
    · rw [if_neg hj] at hy
      have hy1:=h.qs j y hy
      obtain ⟨n1,n2,n3,n4,n5⟩:=h.pa_ne hy1
      exact hy1.move hk ⟨n1.symm,n3.symm⟩ (fun b hb=>⟨fun e=>n2 (e ▸ hb),fun e=>n4 (e ▸ hb)⟩) (fun b _ hn=>⟨fun e=>hn (e ▸ h.rp),fun e=>hn (e ▸ h.rm)⟩) (fun _ h=>.inl h) (fun b hb=>hb.elim .inl fun e=>.inr (e ▸ hq))
  · by_cases hj:j=made + 1
    · have hj':¬ j'=made + 1:=fun e=>hne (hj.trans e.symm)
      rw [if_pos hj] at hy;rw [if_neg hj'] at hy';cases hy
      have:=(old j' y' hy').1
      exact ⟨fun e=>by simp only at e;omega,fun b hb=>by simp [Value.ownBlock] at hb⟩
    · rw [if_neg hj] at hy
      by_cases hj':j'=made + 1
      · rw [if_pos hj'] at hy';cases hy'
        have:=(old j y hy).1
        exact ⟨fun e=>by simp only at e;omega,fun b _=>by simp [Value.ownBlock]⟩
      · rw [if_neg hj'] at hy';exact h.apart j j' y y' hy hy' hne
  · rcases hb2 with h1 | h1
    · exact ⟨(h.rb b h1).1,Nat.lt_of_lt_of_le (h.rb b h1).2 hk.size⟩
    · rw [h1];exact ⟨Nat.le_trans h.le hq,hb.lt⟩
  · have h0:=h.num.1
    by_cases hj:j=made + 1
    · omega
    · rw [if_neg hj] at hy;have:=h.num.2 j y hy;omega
theorem PoAt.less (h:PoAt B R w pa mb made f n) (hf:f k=some q) (hk:Keep (fun g=>g ≠ mb) w w') (hmap:MapN w' mb (.pointer none) (fun j=>if j=k then none else (f j).map fun q=>.pointer (some ⟨q.g,0,none⟩)) (n - 1)):PoAt B R w' pa mb made (fun j=>if j=k then none else f j) (n - 1):=by
  have e:(fun j=>(if j=k then none else f j).map fun q=>Value.pointer (some ⟨q.g,0,none⟩))=(fun j=>if j=k then none else (f j).map fun q=>.pointer (some ⟨q.g,0,none⟩)):=funext fun j=>by
    by_cases hj:j=k
    · rw [if_pos hj,if_pos hj];rfl
    · rw [if_neg hj,if_neg hj]
  refine ⟨h.head.keep hk (h.map.ne_blk h.head).symm,by rw [e];exact hmap,fun j y hy=>?_,fun j j' y y' hy hy' hne=>?_,h.rp,h.rm,fun b hb=>⟨(h.rb b hb).1,Nat.lt_of_lt_of_le (h.rb b hb).2 hk.size⟩,Nat.le_trans h.le hk.size,by have:=h.few;omega,h.num.1,fun j y hy=>?_⟩
  · by_cases hj:j=k
    · rw [if_pos hj] at hy;cases hy
    · rw [if_neg hj] at hy
      have hy1:=h.qs j y hy
      obtain ⟨n1,n2,n3,n4,n5⟩:=h.pa_ne hy1
      exact hy1.move hk n3.symm (fun b hb=>fun e=>n4 (e ▸ hb)) (fun b _ hn=>fun e=>hn (e ▸ h.rm)) (fun _ h=>h) (fun b hb=>.inl hb)
  · by_cases hj:j=k
    · rw [if_pos hj] at hy;cases hy
    · by_cases hj':j'=k
      · rw [if_pos hj'] at hy';cases hy'
      · rw [if_neg hj] at hy;rw [if_neg hj'] at hy';exact h.apart j j' y y' hy hy' hne
  · by_cases hj:j=k
    · rw [if_pos hj] at hy;cases hy
    · rw [if_neg hj] at hy;exact h.num.2 j y hy
end
section
variable {B:Nat} {R:Nat→Prop} {w w':World} {pa mb n bq:Nat} {made:Int} {f:Int→Option Qu}
theorem PoAt.fresh (h:PoAt B R w pa mb made f n):f (made + 1)=none:=by
  cases e:f (made + 1) with
  | none=>rfl
  | some q=>have:=(h.num.2 _ q e).2;omega
theorem map_one {W:World} {v:Value} (h:MapN w' mb (.pointer none) (fun j=>if j=made + 1 then some v else (fun k=>(f k).map fun q=>Value.pointer (some ⟨q.g,0,none⟩)) j) (if ((fun k=>(f k).map fun q=>Value.pointer (some ⟨q.g,0,none⟩)) (made + 1)).isSome=true then n else n + 1)) (hp:PoAt B R W pa mb made f n):MapN w' mb (.pointer none) (fun j=>if j=made + 1 then some v else (f j).map fun q=>.pointer (some ⟨q.g,0,none⟩)) (n + 1):=by
  simp only [hp.fresh,Option.map_none,Option.isSome_none,Bool.false_eq_true,if_false] at h
  exact h
end
set_option maxHeartbeats 1000000 in
theorem new_any (w:World):Calls Tryz.prog 4 #[] w fun e w'=>∃ pa mb,e=.returned (.pointer (some ⟨pa,0,none⟩))∧PoAt w.heap.size (fun g=>g=pa∨g=mb) w' pa mb 0 (fun _=>none) 0∧Keep (fun g=>g < w.heap.size) w w':=by
  have hm:=MapN.made w (.pointer none)
  have hm2:MapN ((w.alloc (.map #[] 0)).alloc (.cells #[.int .i64 0,.map (some w.heap.size)] 48)) w.heap.size (.pointer none) (fun _=>none) 0:=hm.keep (X:=fun k=>k < w.heap.size + 1) ((Keep.refl _ _).alloc _) (by show w.heap.size < _;omega)
  have hb:=Blk.new (w.alloc (.map #[] 0)) 48 #[.int .i64 0,.map (some w.heap.size)]
  simp only [World.size_alloc] at hb
  have HM:=Lib.hid hm2;clear hm2 hm
  have HB:=Lib.hid hb;clear hb
  have hmm:=@run_makeMap Tryz.prog
  have hk:Keep (fun g=>g < w.heap.size) w ((w.alloc (.map #[] 0)).alloc (.cells #[.int .i64 0,.map (some w.heap.size)] 48)):=((Keep.refl _ w).alloc _).alloc _
  have HK:=Lib.hid hk;clear hk
  go_enter Tryz.func4,Tryz.ntmps4
  go_wp2
  go_ret
  refine ⟨w.heap.size + 1,w.heap.size,by simp,⟨HB.out,HM.out,fun k q h=>by simp at h,fun k k' q q' h=>by simp at h,.inl rfl,.inr rfl,fun k hk=>?_,HK.out.size,by omega,by omega,fun k q h=>by simp at h⟩,HK.out⟩
  rcases hk with rfl | rfl
  · exact ⟨by omega,HB.out.lt⟩
  · exact ⟨by omega,HM.out.lt⟩
def oq23_0_0:Oper:=⟨some 4,Op.assign (Operand.const (Value.int IntKind.i64 0)),3, "post.go:28",#[],none⟩
def oq23_0_1:Oper:=⟨some 5,Op.assign (Operand.const (Value.int IntKind.i64 0)),39, "post.go:28",#[ec_ 0],none⟩
def Oq23_0:Array Oper:=List.toArray (oq23_0_0::oq23_0_1::[])
theorem gq23_0_0:Oq23_0[0]? = some oq23_0_0:=rfl
theorem gq23_0_1:Oq23_0[1]? = some oq23_0_1:=rfl
def cq23_1:Code:=Code.region 0 Oq23_0 false
def oq23_1_0:Oper:=⟨some 6,Op.move (Operand.tmp 0),23, "post.go:29",#[],none⟩
def oq23_1_1:Oper:=⟨some 7,Op.nilCheck (Operand.tmp 6),0, "post.go:29",#[ed_ 0],none⟩
def oq23_1_2:Oper:=⟨some 8,Op.fieldAddr 48 (Operand.tmp 7) 1,0, "post.go:29",#[ed_ 1],none⟩
def oq23_1_3:Oper:=⟨some 9,Op.load 46 (Operand.tmp 8),46, "post.go:29",#[ed_ 2],none⟩
def oq23_1_4:Oper:=⟨some 10,Op.call { callee:=Callee.builtin Go.Builtin.len,args:=#[Operand.tmp 9],argTypes:=#[46] },3, "post.go:29",#[ed_ 3],none⟩
def oq23_1_5:Oper:=⟨some 11,Op.binOp Go.BinOp.geq 3 (Operand.tmp 10) (Operand.const (Value.int IntKind.i64 8)) 3,4, "post.go:29",#[ed_ 4],none⟩
def Oq23_1:Array Oper:=List.toArray (oq23_1_0::oq23_1_1::oq23_1_2::oq23_1_3::oq23_1_4::oq23_1_5::[])
theorem gq23_1_0:Oq23_1[0]? = some oq23_1_0:=rfl
theorem gq23_1_1:Oq23_1[1]? = some oq23_1_1:=rfl
theorem gq23_1_2:Oq23_1[2]? = some oq23_1_2:=rfl
theorem gq23_1_3:Oq23_1[3]? = some oq23_1_3:=rfl
theorem gq23_1_4:Oq23_1[4]? = some oq23_1_4:=rfl
theorem gq23_1_5:Oq23_1[5]? = some oq23_1_5:=rfl
def cq23_4:Code:=Code.region 1 Oq23_1 false
def oq23_2_0:Oper:=⟨some 4,Op.assign (Operand.const (Value.int IntKind.i64 0)),3, "post.go:30",#[],none⟩
def oq23_2_1:Oper:=⟨some 5,Op.assign (Operand.const (Value.int IntKind.i64 3)),39, "post.go:30",#[ec_ 0,ep_ 0],none⟩
def Oq23_2:Array Oper:=List.toArray (oq23_2_0::oq23_2_1::[])
theorem gq23_2_0:Oq23_2[0]? = some oq23_2_0:=rfl
theorem gq23_2_1:Oq23_2[1]? = some oq23_2_1:=rfl
def cq23_7:Code:=Code.region 2 Oq23_2 false
def cq23_6:Code:=Code.seq cq23_7 Code.ret
def cq23_5:Code:=Code.cond (Operand.tmp 11) cq23_6 Code.skip
def cq23_3:Code:=Code.seq cq23_4 cq23_5
def oq23_3_0:Oper:=⟨some 12,Op.move (Operand.tmp 0),23, "post.go:32",#[],none⟩
def oq23_3_1:Oper:=⟨some 13,Op.nilCheck (Operand.tmp 12),0, "post.go:32",#[ed_ 0],none⟩
def oq23_3_2:Oper:=⟨some 14,Op.fieldAddr 48 (Operand.tmp 13) 0,0, "post.go:32",#[ed_ 1],none⟩
def oq23_3_3:Oper:=⟨some 15,Op.load 3 (Operand.tmp 14),3, "post.go:32",#[ed_ 2],none⟩
def oq23_3_4:Oper:=⟨some 16,Op.binOp Go.BinOp.add 3 (Operand.tmp 15) (Operand.const (Value.int IntKind.i64 1)) 3,3, "post.go:32",#[ed_ 3],none⟩
def oq23_3_5:Oper:=⟨some 17,Op.nilCheck (Operand.tmp 12),0, "post.go:32",#[ed_ 0,ep_ 0,ep_ 1,ep_ 2,ep_ 3,ep_ 4],none⟩
def oq23_3_6:Oper:=⟨some 18,Op.fieldAddr 48 (Operand.tmp 17) 0,0, "post.go:32",#[ed_ 5,ep_ 0,ep_ 1,ep_ 2,ep_ 3,ep_ 4],none⟩
def oq23_3_7:Oper:=⟨none,Op.store 3 (Operand.tmp 18) (Operand.tmp 16),0, "post.go:32",#[ed_ 6,ed_ 4,ep_ 0,ep_ 1,ep_ 2,ep_ 3,ep_ 4],none⟩
def Oq23_3:Array Oper:=List.toArray (oq23_3_0::oq23_3_1::oq23_3_2::oq23_3_3::oq23_3_4::oq23_3_5::oq23_3_6::oq23_3_7::[])
theorem gq23_3_0:Oq23_3[0]? = some oq23_3_0:=rfl
theorem gq23_3_1:Oq23_3[1]? = some oq23_3_1:=rfl
theorem gq23_3_2:Oq23_3[2]? = some oq23_3_2:=rfl
theorem gq23_3_3:Oq23_3[3]? = some oq23_3_3:=rfl
theorem gq23_3_4:Oq23_3[4]? = some oq23_3_4:=rfl
theorem gq23_3_5:Oq23_3[5]? = some oq23_3_5:=rfl
theorem gq23_3_6:Oq23_3[6]? = some oq23_3_6:=rfl
theorem gq23_3_7:Oq23_3[7]? = some oq23_3_7:=rfl
def cq23_11:Code:=Code.region 3 Oq23_3 false
def oq23_4_0:Oper:=⟨some 19,Op.move (Operand.tmp 0),23, "post.go:33",#[],none⟩
def oq23_4_1:Oper:=⟨some 20,Op.nilCheck (Operand.tmp 19),0, "post.go:33",#[ed_ 0],none⟩
def oq23_4_2:Oper:=⟨some 21,Op.fieldAddr 48 (Operand.tmp 20) 1,0, "post.go:33",#[ed_ 1],none⟩
def oq23_4_3:Oper:=⟨some 22,Op.load 46 (Operand.tmp 21),46, "post.go:33",#[ed_ 2],none⟩
def oq23_4_4:Oper:=⟨some 23,Op.move (Operand.tmp 0),23, "post.go:33",#[],none⟩
def oq23_4_5:Oper:=⟨some 24,Op.nilCheck (Operand.tmp 23),0, "post.go:33",#[ed_ 4],none⟩
def oq23_4_6:Oper:=⟨some 25,Op.fieldAddr 48 (Operand.tmp 24) 0,0, "post.go:33",#[ed_ 5],none⟩
def oq23_4_7:Oper:=⟨some 26,Op.load 3 (Operand.tmp 25),3, "post.go:33",#[ed_ 6],none⟩
def oq23_4_8:Oper:=⟨some 27,Op.move (Operand.tmp 1),3, "post.go:33",#[],none⟩
def oq23_4_9:Oper:=⟨some 28,Op.call { callee:=Callee.builtin Go.Builtin.max,args:=#[Operand.tmp 27,Operand.const (Value.int IntKind.i64 1)],argTypes:=#[3,3] },3, "post.go:33",#[ed_ 8],none⟩
def oq23_4_10:Oper:=⟨some 29,Op.call { callee:=Callee.builtin Go.Builtin.min,args:=#[Operand.tmp 28,Operand.const (Value.int IntKind.i64 64)],argTypes:=#[3,3] },3, "post.go:33",#[ed_ 9],none⟩
def oq23_4_11:Oper:=⟨some 30,Op.build 72 #[(0,Operand.tmp 29)],72, "post.go:33",#[ed_ 10],none⟩
def oq23_4_12:Oper:=⟨some 31,Op.box 72 (Operand.tmp 30),69, "post.go:33",#[ed_ 11],none⟩
def oq23_4_13:Oper:=⟨none,Op.mapUpdate 46 (Operand.tmp 22) (Operand.tmp 26) (Operand.tmp 31),0, "post.go:33",#[ed_ 3,ed_ 7,ed_ 12,ep_ 0,ep_ 1,ep_ 2,ep_ 3,ep_ 4,ep_ 5,ep_ 6,ep_ 7,ep_ 8,ep_ 9,ep_ 10,ep_ 11,ep_ 12],none⟩
def Oq23_4:Array Oper:=List.toArray (oq23_4_0::oq23_4_1::oq23_4_2::oq23_4_3::oq23_4_4::oq23_4_5::oq23_4_6::oq23_4_7::oq23_4_8::oq23_4_9::oq23_4_10::oq23_4_11::oq23_4_12::oq23_4_13::[])
theorem gq23_4_0:Oq23_4[0]? = some oq23_4_0:=rfl
theorem gq23_4_1:Oq23_4[1]? = some oq23_4_1:=rfl
theorem gq23_4_2:Oq23_4[2]? = some oq23_4_2:=rfl
theorem gq23_4_3:Oq23_4[3]? = some oq23_4_3:=rfl
theorem gq23_4_4:Oq23_4[4]? = some oq23_4_4:=rfl
theorem gq23_4_5:Oq23_4[5]? = some oq23_4_5:=rfl
theorem gq23_4_6:Oq23_4[6]? = some oq23_4_6:=rfl
theorem gq23_4_7:Oq23_4[7]? = some oq23_4_7:=rfl
theorem gq23_4_8:Oq23_4[8]? = some oq23_4_8:=rfl
theorem gq23_4_9:Oq23_4[9]? = some oq23_4_9:=rfl
theorem gq23_4_10:Oq23_4[10]? = some oq23_4_10:=rfl
theorem gq23_4_11:Oq23_4[11]? = some oq23_4_11:=rfl
theorem gq23_4_12:Oq23_4[12]? = some oq23_4_12:=rfl
theorem gq23_4_13:Oq23_4[13]? = some oq23_4_13:=rfl
theorem nsq23_4:Region.noSelect Oq23_4=true:=by kernel_rfl
def cq23_13:Code:=Code.region 4 Oq23_4 true
def oq23_5_0:Oper:=⟨some 32,Op.move (Operand.tmp 0),23, "post.go:34",#[],none⟩
def oq23_5_1:Oper:=⟨some 33,Op.nilCheck (Operand.tmp 32),0, "post.go:34",#[ed_ 0],none⟩
def oq23_5_2:Oper:=⟨some 34,Op.fieldAddr 48 (Operand.tmp 33) 0,0, "post.go:34",#[ed_ 1],none⟩
def oq23_5_3:Oper:=⟨some 35,Op.load 3 (Operand.tmp 34),3, "post.go:34",#[ed_ 2],none⟩
def oq23_5_4:Oper:=⟨some 4,Op.assign (Operand.tmp 35),3, "post.go:34",#[ed_ 3,ep_ 0,ep_ 1,ep_ 2,ep_ 3],none⟩
def oq23_5_5:Oper:=⟨some 5,Op.assign (Operand.const (Value.int IntKind.i64 0)),39, "post.go:34",#[ec_ 4,ep_ 0,ep_ 1,ep_ 2,ep_ 3,ep_ 4],none⟩
def Oq23_5:Array Oper:=List.toArray (oq23_5_0::oq23_5_1::oq23_5_2::oq23_5_3::oq23_5_4::oq23_5_5::[])
theorem gq23_5_0:Oq23_5[0]? = some oq23_5_0:=rfl
theorem gq23_5_1:Oq23_5[1]? = some oq23_5_1:=rfl
theorem gq23_5_2:Oq23_5[2]? = some oq23_5_2:=rfl
theorem gq23_5_3:Oq23_5[3]? = some oq23_5_3:=rfl
theorem gq23_5_4:Oq23_5[4]? = some oq23_5_4:=rfl
theorem gq23_5_5:Oq23_5[5]? = some oq23_5_5:=rfl
def cq23_15:Code:=Code.region 5 Oq23_5 false
def cq23_14:Code:=Code.seq cq23_15 Code.ret
def cq23_12:Code:=Code.seq cq23_13 cq23_14
def cq23_10:Code:=Code.seq cq23_11 cq23_12
def cq23_2:Code:=Code.seq cq23_3 cq23_10
def cq23_0:Code:=Code.seq cq23_1 cq23_2
theorem bodyq23:Tryz.f14.body=some cq23_0:=by kernel_rfl
set_option maxRecDepth 100000 in
set_option maxHeartbeats 4000000 in
theorem make_w {W:World} {B b0 mb n:Nat} {RR:Nat→Prop} {made:Int} {f:Int→Option Qu} {most:Int} {f0:Act} {w0:World} (R:FrS 36 f0) (h0:f0.tmps[0]? = some (.pointer (some ⟨b0,0,none⟩))) (h1:f0.tmps[1]? = some (.int .i64 most)) (K1:Keep (fun g=>g < W.heap.size) W w0)  (B0:Blk w0 b0 48 #[.int .i64 made,.map (some mb)]) (HP:Hid (PoAt B RR W b0 mb made f n)) (HN:Hid (n < 8)) (HMD:Hid (made ≤ 4611686018427387904)):cq23_0.wp Tryz.prog (bodyPost Tryz.prog Tryz.f14 (fun e w'=>∃ bq,e=.returned (.tuple #[.int .i64 (made + 1),.int .i64 0])∧Blk w' b0 48 #[.int .i64 (made + 1),.map (some mb)]∧MapN w' mb (.pointer none) (fun j=>if j=made + 1 then some (.pointer (some ⟨bq,0,none⟩)) else (f j).map fun q=>.pointer (some ⟨q.g,0,none⟩)) (n + 1)∧Blk w' bq 72 #[.int .i64 (min (max most 1) 64),.slice none 0 0]∧W.heap.size ≤ bq∧Keep (fun g=>g < W.heap.size∧g ≠ b0∧g ≠ mb) W w')) f0 w0:=by
 have KX:Keep (fun g=>g < W.heap.size∧g ≠ b0∧g ≠ mb) W w0:=K1.less fun g hg=>hg.1
 have KM:Keep (fun g=>g=mb) W w0:=K1.less fun g hg=>hg ▸ HP.out.map.lt
 have NM:b0 ≠ mb:=(HP.out.map.ne_blk HP.out.head).symm;clear K1
 refine wp_seq (x:=cq23_1) (y:=cq23_2) ?_
 change (Code.region 0 Oq23_0 false).wp _ _ _ _
 refine reg_in (l:=[0,1]) rfl ?_
 have F:FE_ _ [] f0 f0:=⟨R,Ag_.refl _⟩;clear R
 have Y:(execOp f0.eval oq23_0_0).run Tryz.prog w0=.ok (.value (.int .i64 0)) w0:=by unfold oq23_0_0;go_simp
 refine sv_ gq23_0_0 Y fun a101 e=>?_;clear Y
 have h4:=pt_ F e;replace F:=pu_ F e;clear e
 have Y:(execOp a101.eval oq23_0_1).run Tryz.prog w0=.ok (.value (.int .i64 0)) w0:=by unfold oq23_0_1;go_simp
 refine sv_ gq23_0_1 Y fun a102 e=>?_;clear Y
 have h5:=pt_ F e;replace F:=pu_ F e;replace h4:=so_ e h4;clear e
 refine st_end ?_
 replace h0:=F.of h0;replace h1:=F.of h1;have R:=F.r;clear F
 change (cq23_2).wp _ _ _ _
 refine wp_seq (x:=cq23_3) (y:=cq23_10) ?_
 refine wp_seq (x:=cq23_4) (y:=cq23_5) ?_
 change (Code.region 1 Oq23_1 false).wp _ _ _ _
 refine reg_in (l:=[0,1,2,3,4,5]) rfl ?_
 have F:FE_ _ [] a102 a102:=⟨R,Ag_.refl _⟩;clear R
 refine sv_ gq23_1_0 (ym_ rfl (F.of h0)) fun a103 e=>?_
 have h6:=pt_ F e;replace F:=pu_ F e;clear e
 have Y:(execOp a103.eval oq23_1_1).run Tryz.prog w0=.ok (.value (.pointer (some ⟨b0,0,none⟩))) w0:=by unfold oq23_1_1;go_simp
 refine sv_ gq23_1_1 Y fun a104 e=>?_;clear Y
 clear h6;have h7:=pt_ F e;replace F:=pu_ F e;clear e
 have Y:(execOp a104.eval oq23_1_2).run Tryz.prog w0=.ok (.value (.pointer (some ⟨b0,1,none⟩))) w0:=by unfold oq23_1_2;go_simp
 refine sv_ gq23_1_2 Y fun a105 e=>?_;clear Y
 clear h7;have h8:=pt_ F e;replace F:=pu_ F e;clear e
 have Y:(execOp a105.eval oq23_1_3).run Tryz.prog w0=.ok (.value (.map (some mb))) w0:=by have qq0:w0.cell? ⟨b0,0,none⟩=some (.int .i64 made):=B0.cell 0;have qq1:w0.cell? ⟨b0,1,none⟩=some (.map (some mb)):=B0.cell 1;unfold oq23_1_3;go_simp
 refine sv_ gq23_1_3 Y fun a106 e=>?_;clear Y
 clear h8;have h9:=pt_ F e;replace F:=pu_ F e;clear e
 have Y:(execOp a106.eval oq23_1_4).run Tryz.prog w0=.ok (.value (.int .i64 (n:Int))) w0:=by have hl:=(HP.out.map.keep KM rfl).len (tm:=46) (e:=69) Tryz.underlying46 oq23_1_4.type;unfold oq23_1_4 at hl;unfold oq23_1_4;go_simp
 refine sv_ gq23_1_4 Y fun a107 e=>?_;clear Y
 clear h9;have h10:=pt_ F e;replace F:=pu_ F e;clear e
 have Y:(execOp a107.eval oq23_1_5).run Tryz.prog w0=.ok (.value (.bool false)) w0:=by have hn8:¬ (8:Int) ≤ (n:Int):=(by have:=HN.out;omega);unfold oq23_1_5;go_simp
 refine sv_ gq23_1_5 Y fun a108 e=>?_;clear Y
 clear h10;have h11:=pt_ F e;replace F:=pu_ F e;clear e
 refine st_end ?_
 replace h0:=F.of h0;replace h1:=F.of h1;replace h4:=F.of h4;replace h5:=F.of h5;have R:=F.r;clear F
 change (cq23_5).wp _ _ _ _
 refine wp_cond_false (x:=cq23_6) (y:=Code.skip) (eval_slot h11) ?_
 refine wp_skip ?_
 change (cq23_10).wp _ _ _ _
 refine wp_seq (x:=cq23_11) (y:=cq23_12) ?_
 change (Code.region 3 Oq23_3 false).wp _ _ _ _
 refine reg_in (l:=[0,1,2,3,4,5,6,7]) rfl ?_
 have F:FE_ _ [] a108 a108:=⟨R,Ag_.refl _⟩;clear R
 refine sv_ gq23_3_0 (ym_ rfl (F.of h0)) fun a109 e=>?_
 have h12:=pt_ F e;replace F:=pu_ F e;clear e
 have Y:(execOp a109.eval oq23_3_1).run Tryz.prog w0=.ok (.value (.pointer (some ⟨b0,0,none⟩))) w0:=by unfold oq23_3_1;go_simp
 refine sv_ gq23_3_1 Y fun a110 e=>?_;clear Y
 have h13:=pt_ F e;replace F:=pu_ F e;replace h12:=so_ e h12;clear e
 have Y:(execOp a110.eval oq23_3_2).run Tryz.prog w0=.ok (.value (.pointer (some ⟨b0,0,none⟩))) w0:=by unfold oq23_3_2;go_simp
 refine sv_ gq23_3_2 Y fun a111 e=>?_;clear Y
 clear h13;have h14:=pt_ F e;replace F:=pu_ F e;replace h12:=so_ e h12;clear e
 have Y:(execOp a111.eval oq23_3_3).run Tryz.prog w0=.ok (.value (.int .i64 made)) w0:=by have qq0:w0.cell? ⟨b0,0,none⟩=some (.int .i64 made):=B0.cell 0;have qq1:w0.cell? ⟨b0,1,none⟩=some (.map (some mb)):=B0.cell 1;unfold oq23_3_3;go_simp
 refine sv_ gq23_3_3 Y fun a112 e=>?_;clear Y
 clear h14;have h15:=pt_ F e;replace F:=pu_ F e;replace h12:=so_ e h12;clear e
 have Y:(execOp a112.eval oq23_3_4).run Tryz.prog w0=.ok (.value (.int .i64 (made + 1))) w0:=by have hwj:IntKind.i64.wrap (made + 1)=made + 1:=(by rw [IntKind.wrap_i64];have h1:=HP.out.num.1;have h2:=HMD.out;omega);unfold oq23_3_4;go_simp
 refine sv_ gq23_3_4 Y fun a113 e=>?_;clear Y
 clear h15;have h16:=pt_ F e;replace F:=pu_ F e;replace h12:=so_ e h12;clear e
 have Y:(execOp a113.eval oq23_3_5).run Tryz.prog w0=.ok (.value (.pointer (some ⟨b0,0,none⟩))) w0:=by unfold oq23_3_5;go_simp
 refine sv_ gq23_3_5 Y fun a114 e=>?_;clear Y
 clear h12;have h17:=pt_ F e;replace F:=pu_ F e;replace h16:=so_ e h16;clear e
 have Y:(execOp a114.eval oq23_3_6).run Tryz.prog w0=.ok (.value (.pointer (some ⟨b0,0,none⟩))) w0:=by unfold oq23_3_6;go_simp
 refine sv_ gq23_3_6 Y fun a115 e=>?_;clear Y
 clear h17;have h18:=pt_ F e;replace F:=pu_ F e;replace h16:=so_ e h16;clear e
 have Y:(execOp a115.eval oq23_3_7).run Tryz.prog w0=.ok .skip (w0.setCell ⟨b0,0,none⟩ (.int .i64 (made + 1))):=by have qq0:w0.cell? ⟨b0,0,none⟩=some (.int .i64 made):=B0.cell 0;have qq1:w0.cell? ⟨b0,1,none⟩=some (.map (some mb)):=B0.cell 1;have z0:=B0.frozen 0;unfold oq23_3_7;go_simp
 obtain ⟨w116,hw⟩:∃ x,x=(w0.setCell ⟨b0,0,none⟩ (.int .i64 (made + 1))):=⟨_,rfl⟩;rw [← hw] at Y
 have hk:Keep (fun g=>g ≠ b0) w0 w116:=by rw [hw];exact (Keep.refl _ _).setCell (fun h=>h rfl) _
 replace KX:=kx_ hk KX (fun hx=>hx.2.1 rfl);replace KM:=kx_ hk KM (fun hx=>NM hx);replace B0:Blk w116 b0 48 #[.int .i64 (made + 1),.map (some mb)]:=(by rw [hw];exact (B0.set_ 0 _));clear hw hk
 refine st_skip gq23_3_7 rfl (wanted_free rfl) Y ?_;clear Y
 refine st_end ?_
 replace h0:=F.of h0;replace h1:=F.of h1;replace h4:=F.of h4;replace h5:=F.of h5;clear h11;clear h16;clear h18;have R:=F.r;clear F
 change (cq23_12).wp _ _ _ _
 refine wp_seq (x:=cq23_13) (y:=cq23_14) ?_
 change (Code.region 4 Oq23_4 true).wp _ _ _ _
 have D119:=B0
 have K117:=(Keep.refl (fun g=>g ≠ mb) w116).drew
 have EKX:=KX
 have EKM:=KM
 refine dr_in (S:=(fun W=>Keep (fun g=>g ≠ mb) w116 W)) (n:=14) (l:=lb_ 14 0) (by kernel_rfl) K117 rfl (by kernel_rfl) ?_
 replace KX:=KX.drew
 replace KM:=KM.drew
 replace B0:=B0.drew
 generalize w116.drew=w118 at K117 KX KM B0 ⊢
 have F:FE_ _ [] a115 a115:=⟨R,Ag_.refl _⟩;clear R
 refine dt_ (i:=0) (l':=(lb_ 14 1)) gq23_4_0 rfl nsq23_4 (wanted_free rfl) K117 (fun _ _=>(ym_ rfl (F.of h0))) fun a120 e=>?_
 have h19:=pt_ F e;replace F:=pu_ F e;clear e
 have Y:∀ W,Keep (fun g=>g ≠ mb) w116 W→(execOp a120.eval oq23_4_1).run Tryz.prog W=.ok (.value (.pointer (some ⟨b0,0,none⟩))) W:=by intro W7 hS;unfold oq23_4_1;go_simp
 refine dt_ (i:=1) (l':=(lb_ 14 3)) gq23_4_1 rfl nsq23_4 (wanted_free rfl) K117 Y fun a121 e=>?_;clear Y
 clear h19;have h20:=pt_ F e;replace F:=pu_ F e;clear e
 have Y:∀ W,Keep (fun g=>g ≠ mb) w116 W→(execOp a121.eval oq23_4_2).run Tryz.prog W=.ok (.value (.pointer (some ⟨b0,1,none⟩))) W:=by intro W7 hS;unfold oq23_4_2;go_simp
 refine dt_ (i:=2) (l':=(lb_ 14 7)) gq23_4_2 rfl nsq23_4 (wanted_free rfl) K117 Y fun a122 e=>?_;clear Y
 clear h20;have h21:=pt_ F e;replace F:=pu_ F e;clear e
 have Y:∀ W,Keep (fun g=>g ≠ mb) w116 W→(execOp a122.eval oq23_4_3).run Tryz.prog W=.ok (.value (.map (some mb))) W:=by intro W7 hS;have D:=D119.keep hS NM;have qq0:W7.cell? ⟨b0,0,none⟩=some (.int .i64 (made + 1)):=D.cell 0;have qq1:W7.cell? ⟨b0,1,none⟩=some (.map (some mb)):=D.cell 1;unfold oq23_4_3;go_simp
 refine dt_ (i:=3) (l':=(lb_ 14 15)) gq23_4_3 rfl nsq23_4 (wanted_free rfl) K117 Y fun a123 e=>?_;clear Y
 clear h21;have h22:=pt_ F e;replace F:=pu_ F e;clear e
 refine dt_ (i:=4) (l':=(lb_ 14 31)) gq23_4_4 rfl nsq23_4 (wanted_free rfl) K117 (fun _ _=>(ym_ rfl (F.of h0))) fun a124 e=>?_
 have h23:=pt_ F e;replace F:=pu_ F e;replace h22:=so_ e h22;clear e
 have Y:∀ W,Keep (fun g=>g ≠ mb) w116 W→(execOp a124.eval oq23_4_5).run Tryz.prog W=.ok (.value (.pointer (some ⟨b0,0,none⟩))) W:=by intro W7 hS;unfold oq23_4_5;go_simp
 refine dt_ (i:=5) (l':=(lb_ 14 63)) gq23_4_5 rfl nsq23_4 (wanted_free rfl) K117 Y fun a125 e=>?_;clear Y
 clear h23;have h24:=pt_ F e;replace F:=pu_ F e;replace h22:=so_ e h22;clear e
 have Y:∀ W,Keep (fun g=>g ≠ mb) w116 W→(execOp a125.eval oq23_4_6).run Tryz.prog W=.ok (.value (.pointer (some ⟨b0,0,none⟩))) W:=by intro W7 hS;unfold oq23_4_6;go_simp
 refine dt_ (i:=6) (l':=(lb_ 14 127)) gq23_4_6 rfl nsq23_4 (wanted_free rfl) K117 Y fun a126 e=>?_;clear Y
 clear h24;have h25:=pt_ F e;replace F:=pu_ F e;replace h22:=so_ e h22;clear e
 have Y:∀ W,Keep (fun g=>g ≠ mb) w116 W→(execOp a126.eval oq23_4_7).run Tryz.prog W=.ok (.value (.int .i64 (made + 1))) W:=by intro W7 hS;have D:=D119.keep hS NM;have qq0:W7.cell? ⟨b0,0,none⟩=some (.int .i64 (made + 1)):=D.cell 0;have qq1:W7.cell? ⟨b0,1,none⟩=some (.map (some mb)):=D.cell 1;unfold oq23_4_7;go_simp
 refine dt_ (i:=7) (l':=(lb_ 14 255)) gq23_4_7 rfl nsq23_4 (wanted_free rfl) K117 Y fun a127 e=>?_;clear Y
 clear h25;have h26:=pt_ F e;replace F:=pu_ F e;replace h22:=so_ e h22;clear e
 refine dt_ (i:=8) (l':=(lb_ 14 511)) gq23_4_8 rfl nsq23_4 (wanted_free rfl) K117 (fun _ _=>(ym_ rfl (F.of h1))) fun a128 e=>?_
 have h27:=pt_ F e;replace F:=pu_ F e;replace h22:=so_ e h22;replace h26:=so_ e h26;clear e
 obtain ⟨mx,hmx⟩:∃ q,max most 1=q:=⟨_,rfl⟩
 have Y:∀ W,Keep (fun g=>g ≠ mb) w116 W→(execOp a128.eval oq23_4_9).run Tryz.prog W=.ok (.value (.int .i64 mx)) W:=by intro W7 hS;unfold oq23_4_9;go_simp
 refine dt_ (i:=9) (l':=(lb_ 14 1023)) gq23_4_9 rfl nsq23_4 (wanted_free rfl) K117 Y fun a129 e=>?_;clear Y
 clear h27;have h28:=pt_ F e;replace F:=pu_ F e;replace h22:=so_ e h22;replace h26:=so_ e h26;clear e
 obtain ⟨my,hmy⟩:∃ q,min mx 64=q:=⟨_,rfl⟩
 have Y:∀ W,Keep (fun g=>g ≠ mb) w116 W→(execOp a129.eval oq23_4_10).run Tryz.prog W=.ok (.value (.int .i64 my)) W:=by intro W7 hS;unfold oq23_4_10;go_simp
 refine dt_ (i:=10) (l':=(lb_ 14 2047)) gq23_4_10 rfl nsq23_4 (wanted_free rfl) K117 Y fun a130 e=>?_;clear Y
 clear h28;have h29:=pt_ F e;replace F:=pu_ F e;replace h22:=so_ e h22;replace h26:=so_ e h26;clear e
 have Y:∀ W,Keep (fun g=>g ≠ mb) w116 W→(execOp a130.eval oq23_4_11).run Tryz.prog W=.ok (.value (.agg #[.int .i64 my,.slice none 0 0])) W:=by intro W7 hS;unfold oq23_4_11;go_simp
 refine dt_ (i:=11) (l':=(lb_ 14 4095)) gq23_4_11 rfl nsq23_4 (wanted_free rfl) K117 Y fun a131 e=>?_;clear Y
 clear h29;have h30:=pt_ F e;replace F:=pu_ F e;replace h22:=so_ e h22;replace h26:=so_ e h26;clear e
 refine dr_only (i:=12) (fuel:=1) (by kernel_rfl) ?_
 have Y:(execOp a131.eval oq23_4_12).run Tryz.prog w118=.ok (.value (.pointer (some ⟨w118.heap.size,0,none⟩))) (w118.alloc (.cells #[.int .i64 my,.slice none 0 0] 72)):=by unfold oq23_4_12;go_simp
 have B132:=Blk.new w118 72 #[.int .i64 my,.slice none 0 0]
 obtain ⟨w133,hw⟩:∃ x,x=w118.alloc (.cells #[.int .i64 my,.slice none 0 0] 72):=⟨_,rfl⟩;rw [← hw] at Y B132
 obtain ⟨b132,hb⟩:∃ x,x=w118.heap.size:=⟨_,rfl⟩;rw [← hb] at Y B132
 have Nb0_b132:=nb_ hb B0;replace B0:=ba_ hw B0;have LKX_b132:=lk_ hb KX;replace KX:=ka_ hw KX;have LKM_b132:=lk_ hb KM;replace KM:=ka_ hw KM;have LK117_b132:=lk_ hb K117;replace K117:=ka_ hw K117;clear hw hb
 refine dr_val (l':=(lb_ 14 8191)) gq23_4_12 rfl (by kernel_rfl) (wanted_free rfl) Y K117 fun a134 e=>?_;clear Y
 clear h30;have h31:=pt_ F e;replace F:=pu_ F e;replace h22:=so_ e h22;replace h26:=so_ e h26;clear e
 refine dr_only (i:=13) (fuel:=0) (by kernel_rfl) ?_
 obtain ⟨w8,hup,hmp,htn⟩:=(HP.out.map.keep KM rfl).store (tm:=46) (e:=69) Tryz.underlying46 (by have:=HN.out;unfold maxLen;omega) (k:=made + 1) (ik_wf (by have h1:=HP.out.num.1;omega) (by have h1:=HP.out.num.1;have h2:=HMD.out;omega)) (.pointer (some ⟨b132,0,none⟩))
 have Y:(execOp a134.eval oq23_4_13).run Tryz.prog w133=.ok .skip w8:=by
  unfold oq23_4_13;unfold execOp;simp only [Sem.run_bind,Sem.run_pure,Result.andThen_ok,eval_slot h22,eval_slot h26,eval_slot h31];rw [hup];rfl
 have km:Keep (fun g=>g ≠ mb) w133 w8:=(Keep.refl _ _).turned htn (fun h=>h rfl)
 clear hup htn
 replace B0:=B0.keep km ((HP.out.map.keep KM rfl).ne_blk B0).symm
 replace B132:=B132.keep km ((HP.out.map.keep KM rfl).ne_blk B132).symm
 replace KX:=KX.trans (km.less fun g hg=>hg.2.2);replace K117:=K117.trans km;clear km KM;have HM2:=Lib.hid hmp;clear hmp
 refine dr_skip (l':=(lb_ 14 16383)) gq23_4_13 rfl (by kernel_rfl) (wanted_free rfl) Y K117 ?_;clear Y
 refine dr_end (by kernel_rfl) ?_
 replace h0:=F.of h0;clear h1;replace h4:=F.of h4;replace h5:=F.of h5;clear h22;clear h26;clear h31;have R:=F.r;clear F
 clear K117 EKX EKM D119
 change (cq23_14).wp _ _ _ _
 refine wp_seq (x:=cq23_15) (y:=Code.ret) ?_
 change (Code.region 5 Oq23_5 false).wp _ _ _ _
 refine reg_in (l:=[0,1,2,3,4,5]) rfl ?_
 have F:FE_ _ [] a134 a134:=⟨R,Ag_.refl _⟩;clear R
 refine sv_ gq23_5_0 (ym_ rfl (F.of h0)) fun a135 e=>?_
 have h32:=pt_ F e;replace F:=pu_ F e;clear e
 have Y:(execOp a135.eval oq23_5_1).run Tryz.prog w8=.ok (.value (.pointer (some ⟨b0,0,none⟩))) w8:=by unfold oq23_5_1;go_simp
 refine sv_ gq23_5_1 Y fun a136 e=>?_;clear Y
 clear h32;have h33:=pt_ F e;replace F:=pu_ F e;clear e
 have Y:(execOp a136.eval oq23_5_2).run Tryz.prog w8=.ok (.value (.pointer (some ⟨b0,0,none⟩))) w8:=by unfold oq23_5_2;go_simp
 refine sv_ gq23_5_2 Y fun a137 e=>?_;clear Y
 clear h33;have h34:=pt_ F e;replace F:=pu_ F e;clear e
 have Y:(execOp a137.eval oq23_5_3).run Tryz.prog w8=.ok (.value (.int .i64 (made + 1))) w8:=by have qq0:w8.cell? ⟨b0,0,none⟩=some (.int .i64 (made + 1)):=B0.cell 0;have qq1:w8.cell? ⟨b0,1,none⟩=some (.map (some mb)):=B0.cell 1;unfold oq23_5_3;go_simp
 refine sv_ gq23_5_3 Y fun a138 e=>?_;clear Y
 clear h34;have h35:=pt_ F e;replace F:=pu_ F e;clear e
 refine sv_ gq23_5_4 (ya_ rfl h35) fun a139 e=>?_
 clear h35 h4;have h4:=pt_ F e;replace F:=pu_ F e;clear e
 have Y:(execOp a139.eval oq23_5_5).run Tryz.prog w8=.ok (.value (.int .i64 0)) w8:=by unfold oq23_5_5;go_simp
 refine sv_ gq23_5_5 Y fun a140 e=>?_;clear Y
 clear h5;have h5:=pt_ F e;replace F:=pu_ F e;replace h4:=so_ e h4;clear e
 refine st_end ?_
 clear h0;have R:=F.r;clear F
 change (Code.ret).wp _ _ _ _
 refine wp_ret ?_
 change bodyPost Tryz.prog Tryz.f14 (fun e w'=>∃ bq,e=.returned (.tuple #[.int .i64 (made + 1),.int .i64 0])∧Blk w' b0 48 #[.int .i64 (made + 1),.map (some mb)]∧MapN w' mb (.pointer none) (fun j=>if j=made + 1 then some (.pointer (some ⟨bq,0,none⟩)) else (f j).map fun q=>.pointer (some ⟨q.g,0,none⟩)) (n + 1)∧Blk w' bq 72 #[.int .i64 (min (max most 1) 64),.slice none 0 0]∧W.heap.size ≤ bq∧Keep (fun g=>g < W.heap.size∧g ≠ b0∧g ≠ mb) W w') .ret a140 w8
 refine ret_el2 rfl R.defers h4 h5 ?_
 exact ⟨_,rfl,B0,map_one HM2.out HP.out,(by have hmm:my=min (max most 1) 64:=(by rw [← hmy,← hmx]);rw [← hmm];exact B132),LKX_b132,KX⟩
section
variable {W:World} {B b0 mb n:Nat} {R:Nat→Prop} {made k most:Int} {f:Int→Option Qu} {q:Qu}
theorem make_any (h:PoAt B R W b0 mb made f n) (hn:n < 8) (hmd:made ≤ 4611686018427387904):Calls Tryz.prog 14 #[.pointer (some ⟨b0,0,none⟩),.int .i64 most] W fun e w'=>∃ (R':Nat→Prop) (bq:Nat),e=.returned (.tuple #[.int .i64 (made + 1),.int .i64 0])∧PoAt B R' w' b0 mb (made + 1) (fun j=>if j=made + 1 then some ⟨bq,min (max most 1) 64,.slice none 0 0,[]⟩ else f j) (n + 1)∧(∀ g,R' g→R g∨W.heap.size ≤ g)∧W.heap.size ≤ bq∧Keep (fun g=>g < W.heap.size∧¬ R g) W w':=by
  refine Calls.mono (enter_sx Tryz.func14 bodyq23 rfl (by show (2:Nat) ≤ 36;decide) fun f0 R0 hs=>make_w R0 (hs 0 _ rfl) (hs 1 _ rfl) (Keep.refl _ W) h.head (Lib.hid h) (Lib.hid hn) (Lib.hid hmd)) ?_
  rintro e w' ⟨bq,rfl,h1,h2,h3,h4,hk⟩
  exact ⟨_,bq,rfl,h.more hn (by omega) (hk.at_ fun g hl hg=>⟨hl,hg.1,hg.2⟩) h1 h2 h3 h4,fun g hg=>hg.elim .inl fun e=>.inr (e ▸ h4),h4,hk.less fun g hg=>⟨hg.1,fun e=>hg.2 (e ▸ h.rp),fun e=>hg.2 (e ▸ h.rm)⟩⟩
end
def oq59_0_0:Oper:=⟨some 4,Op.assign (Operand.const (Value.int IntKind.i64 0)),39, "post.go:38",#[],none⟩
def Oq59_0:Array Oper:=List.toArray (oq59_0_0::[])
theorem gq59_0_0:Oq59_0[0]? = some oq59_0_0:=rfl
def cq59_1:Code:=Code.region 0 Oq59_0 false
def oq59_1_0:Oper:=⟨some 8,Op.move (Operand.tmp 0),23, "post.go:39",#[],none⟩
def oq59_1_1:Oper:=⟨some 9,Op.nilCheck (Operand.tmp 8),0, "post.go:39",#[ed_ 0],none⟩
def oq59_1_2:Oper:=⟨some 10,Op.fieldAddr 48 (Operand.tmp 9) 1,0, "post.go:39",#[ed_ 1],none⟩
def oq59_1_3:Oper:=⟨some 11,Op.load 46 (Operand.tmp 10),46, "post.go:39",#[ed_ 2],none⟩
def oq59_1_4:Oper:=⟨some 12,Op.move (Operand.tmp 1),3, "post.go:39",#[],none⟩
def oq59_1_5:Oper:=⟨some 13,Op.lookup 46 (Operand.tmp 11) (Operand.tmp 12) true,70, "post.go:39",#[ed_ 3,ed_ 4],none⟩
def oq59_1_6:Oper:=⟨some 7,Op.move (Operand.tmp 13),70, "post.go:39",#[ed_ 5],none⟩
def oq59_1_7:Oper:=⟨some 14,Op.extract (Operand.tmp 7) 0,69, "post.go:39",#[ed_ 6],none⟩
def oq59_1_8:Oper:=⟨some 15,Op.extract (Operand.tmp 7) 1,4, "post.go:39",#[ed_ 6,{ on:=9,ground:=Go.Ground.gcOnly Go.Departure.lateStores }],none⟩
def oq59_1_9:Oper:=⟨some 5,Op.assign (Operand.tmp 14),69, "post.go:39",#[ed_ 7,ep_ 0,ep_ 1,ep_ 2,ep_ 3,ep_ 4,ep_ 5,ep_ 6,ep_ 7,{ on:=8,ground:=Go.Ground.textOnly Go.Departure.lateStores }],none⟩
def oq59_1_10:Oper:=⟨some 6,Op.assign (Operand.tmp 15),4, "post.go:39",#[ed_ 8,ec_ 9,ep_ 0,ep_ 1,ep_ 2,ep_ 3,ep_ 4,ep_ 5,ep_ 6,ep_ 7,ep_ 8,ep_ 9],none⟩
def Oq59_1:Array Oper:=List.toArray (oq59_1_0::oq59_1_1::oq59_1_2::oq59_1_3::oq59_1_4::oq59_1_5::oq59_1_6::oq59_1_7::oq59_1_8::oq59_1_9::oq59_1_10::[])
theorem gq59_1_0:Oq59_1[0]? = some oq59_1_0:=rfl
theorem gq59_1_1:Oq59_1[1]? = some oq59_1_1:=rfl
theorem gq59_1_2:Oq59_1[2]? = some oq59_1_2:=rfl
theorem gq59_1_3:Oq59_1[3]? = some oq59_1_3:=rfl
theorem gq59_1_4:Oq59_1[4]? = some oq59_1_4:=rfl
theorem gq59_1_5:Oq59_1[5]? = some oq59_1_5:=rfl
theorem gq59_1_6:Oq59_1[6]? = some oq59_1_6:=rfl
theorem gq59_1_7:Oq59_1[7]? = some oq59_1_7:=rfl
theorem gq59_1_8:Oq59_1[8]? = some oq59_1_8:=rfl
theorem gq59_1_9:Oq59_1[9]? = some oq59_1_9:=rfl
theorem gq59_1_10:Oq59_1[10]? = some oq59_1_10:=rfl
def cq59_4:Code:=Code.region 1 Oq59_1 false
def oq59_2_0:Oper:=⟨some 16,Op.move (Operand.tmp 6),4, "post.go:39",#[],none⟩
def oq59_2_1:Oper:=⟨some 17,Op.unOp Go.UnOp.not 4 (Operand.tmp 16),4, "post.go:39",#[ed_ 0],none⟩
def Oq59_2:Array Oper:=List.toArray (oq59_2_0::oq59_2_1::[])
theorem gq59_2_0:Oq59_2[0]? = some oq59_2_0:=rfl
theorem gq59_2_1:Oq59_2[1]? = some oq59_2_1:=rfl
def cq59_6:Code:=Code.region 2 Oq59_2 false
def oq59_3_0:Oper:=⟨some 4,Op.assign (Operand.const (Value.int IntKind.i64 140)),39, "post.go:40",#[],none⟩
def Oq59_3:Array Oper:=List.toArray (oq59_3_0::[])
theorem gq59_3_0:Oq59_3[0]? = some oq59_3_0:=rfl
def cq59_9:Code:=Code.region 3 Oq59_3 false
def cq59_8:Code:=Code.seq cq59_9 Code.ret
def cq59_7:Code:=Code.cond (Operand.tmp 17) cq59_8 Code.skip
def cq59_5:Code:=Code.seq cq59_6 cq59_7
def cq59_3:Code:=Code.seq cq59_4 cq59_5
def oq59_4_0:Oper:=⟨some 18,Op.move (Operand.tmp 0),23, "post.go:42",#[],none⟩
def oq59_4_1:Oper:=⟨some 19,Op.nilCheck (Operand.tmp 18),0, "post.go:42",#[ed_ 0],none⟩
def oq59_4_2:Oper:=⟨some 20,Op.fieldAddr 48 (Operand.tmp 19) 1,0, "post.go:42",#[ed_ 1],none⟩
def oq59_4_3:Oper:=⟨some 21,Op.load 46 (Operand.tmp 20),46, "post.go:42",#[ed_ 2],none⟩
def oq59_4_4:Oper:=⟨some 22,Op.move (Operand.tmp 1),3, "post.go:42",#[],none⟩
def oq59_4_5:Oper:=⟨none,Op.call { callee:=Callee.builtin Go.Builtin.delete,args:=#[Operand.tmp 21,Operand.tmp 22],argTypes:=#[46,3] },0, "post.go:42",#[ed_ 3,ed_ 4],none⟩
def Oq59_4:Array Oper:=List.toArray (oq59_4_0::oq59_4_1::oq59_4_2::oq59_4_3::oq59_4_4::oq59_4_5::[])
theorem gq59_4_0:Oq59_4[0]? = some oq59_4_0:=rfl
theorem gq59_4_1:Oq59_4[1]? = some oq59_4_1:=rfl
theorem gq59_4_2:Oq59_4[2]? = some oq59_4_2:=rfl
theorem gq59_4_3:Oq59_4[3]? = some oq59_4_3:=rfl
theorem gq59_4_4:Oq59_4[4]? = some oq59_4_4:=rfl
theorem gq59_4_5:Oq59_4[5]? = some oq59_4_5:=rfl
def cq59_13:Code:=Code.region 4 Oq59_4 false
def oq59_5_0:Oper:=⟨some 4,Op.assign (Operand.const (Value.int IntKind.i64 0)),39, "post.go:43",#[],none⟩
def Oq59_5:Array Oper:=List.toArray (oq59_5_0::[])
theorem gq59_5_0:Oq59_5[0]? = some oq59_5_0:=rfl
def cq59_15:Code:=Code.region 5 Oq59_5 false
def cq59_14:Code:=Code.seq cq59_15 Code.ret
def cq59_12:Code:=Code.seq cq59_13 cq59_14
def cq59_2:Code:=Code.seq cq59_3 cq59_12
def cq59_0:Code:=Code.seq cq59_1 cq59_2
theorem bodyq59:Tryz.f13.body=some cq59_0:=by kernel_rfl
theorem map_cut {w':World} {mb n:Nat} {k:Int} {f:Int→Option Qu} {q:Qu} (h:MapN w' mb (.pointer none) (fun j=>if j=k then none else (fun k=>(f k).map fun q=>Value.pointer (some ⟨q.g,0,none⟩)) j) (if ((fun k=>(f k).map fun q=>Value.pointer (some ⟨q.g,0,none⟩)) k).isSome=true then n - 1 else n)) (hf:f k=some q):MapN w' mb (.pointer none) (fun j=>if j=k then none else (f j).map fun q=>.pointer (some ⟨q.g,0,none⟩)) (n - 1):=by
  simp only [hf,Option.map_some,Option.isSome_some,if_true] at h
  exact h
set_option maxRecDepth 100000 in
set_option maxHeartbeats 4000000 in
theorem drop_w {W:World} {B b0 mb n:Nat} {RR:Nat→Prop} {made k:Int} {f:Int→Option Qu} {b1 vc:Nat} {m:Int} {va:Option Addr} {ps:List TP}  {f0:Act} {w0:World} (R:FrS 23 f0) (h0:f0.tmps[0]? = some (.pointer (some ⟨b0,0,none⟩))) (h1:f0.tmps[1]? = some (.int .i64 k)) (K1:Keep (fun g=>g < W.heap.size) W w0)  (B0:Blk w0 b0 48 #[.int .i64 made,.map (some mb)]) (HP:Hid (PoAt B RR W b0 mb made f n)) (HK:Hid ((ik k).wf=true)) (B1:Blk w0 b1 72 #[.int .i64 m,.slice va ps.length vc]) (HF:Hid (f k=some ⟨b1,m,.slice va ps.length vc,ps⟩))  : cq59_0.wp Tryz.prog (bodyPost Tryz.prog Tryz.f13 (fun e w'=>e=.returned (.int .i64 0)∧MapN w' mb (.pointer none) (fun j=>if j=k then none else (f j).map fun q=>.pointer (some ⟨q.g,0,none⟩)) (n - 1)∧Keep (fun g=>g ≠ mb) W w')) f0 w0:=by
 refine wp_seq (x:=cq59_1) (y:=cq59_2) ?_
 change (Code.region 0 Oq59_0 false).wp _ _ _ _
 refine reg_in (l:=[0]) rfl ?_
 have F:FE_ _ [] f0 f0:=⟨R,Ag_.refl _⟩;clear R
 have Y:(execOp f0.eval oq59_0_0).run Tryz.prog w0=.ok (.value (.int .i64 0)) w0:=by unfold oq59_0_0;go_simp
 refine sv_ gq59_0_0 Y fun a101 e=>?_;clear Y
 have h4:=pt_ F e;replace F:=pu_ F e;clear e
 refine st_end ?_
 replace h0:=F.of h0;replace h1:=F.of h1;have R:=F.r;clear F
 change (cq59_2).wp _ _ _ _
 refine wp_seq (x:=cq59_3) (y:=cq59_12) ?_
 refine wp_seq (x:=cq59_4) (y:=cq59_5) ?_
 change (Code.region 1 Oq59_1 false).wp _ _ _ _
 refine reg_in (l:=[0,1,2,3,4,5,6,7,8,9,10]) rfl ?_
 have F:FE_ _ [] a101 a101:=⟨R,Ag_.refl _⟩;clear R
 refine sv_ gq59_1_0 (ym_ rfl (F.of h0)) fun a102 e=>?_
 have h8:=pt_ F e;replace F:=pu_ F e;clear e
 have Y:(execOp a102.eval oq59_1_1).run Tryz.prog w0=.ok (.value (.pointer (some ⟨b0,0,none⟩))) w0:=by unfold oq59_1_1;go_simp
 refine sv_ gq59_1_1 Y fun a103 e=>?_;clear Y
 clear h8;have h9:=pt_ F e;replace F:=pu_ F e;clear e
 have Y:(execOp a103.eval oq59_1_2).run Tryz.prog w0=.ok (.value (.pointer (some ⟨b0,1,none⟩))) w0:=by unfold oq59_1_2;go_simp
 refine sv_ gq59_1_2 Y fun a104 e=>?_;clear Y
 clear h9;have h10:=pt_ F e;replace F:=pu_ F e;clear e
 have Y:(execOp a104.eval oq59_1_3).run Tryz.prog w0=.ok (.value (.map (some mb))) w0:=by have qq0:w0.cell? ⟨b0,0,none⟩=some (.int .i64 made):=B0.cell 0;have qq1:w0.cell? ⟨b0,1,none⟩=some (.map (some mb)):=B0.cell 1;unfold oq59_1_3;go_simp
 refine sv_ gq59_1_3 Y fun a105 e=>?_;clear Y
 clear h10;have h11:=pt_ F e;replace F:=pu_ F e;clear e
 refine sv_ gq59_1_4 (ym_ rfl (F.of h1)) fun a106 e=>?_
 have h12:=pt_ F e;replace F:=pu_ F e;replace h11:=so_ e h11;clear e
 have Y:(execOp a106.eval oq59_1_5).run Tryz.prog w0=.ok (.value (.tuple #[.pointer (some ⟨b1,0,none⟩),.bool true])) w0:=by have hl:=PoAt.look1 (HP.out.on K1) HF.out HK.out;unfold oq59_1_5;go_simp
 refine sv_ gq59_1_5 Y fun a107 e=>?_;clear Y
 clear h11 h12;have h13:=pt_ F e;replace F:=pu_ F e;clear e
 refine sv_ gq59_1_6 (ym_ rfl h13) fun a108 e=>?_
 clear h13;have h7:=pt_ F e;replace F:=pu_ F e;clear e
 refine sv_ gq59_1_7 (ye20_ rfl h7) fun a109 e=>?_
 have h14:=pt_ F e;replace F:=pu_ F e;replace h7:=so_ e h7;clear e
 refine sv_ gq59_1_8 (ye21_ rfl h7) fun a110 e=>?_
 clear h7;have h15:=pt_ F e;replace F:=pu_ F e;replace h14:=so_ e h14;clear e
 refine sv_ gq59_1_9 (ya_ rfl h14) fun a111 e=>?_
 clear h14;replace F:=pu_ F e;replace h15:=so_ e h15;clear e
 refine sv_ gq59_1_10 (ya_ rfl h15) fun a112 e=>?_
 clear h15;have h6:=pt_ F e;replace F:=pu_ F e;clear e
 refine st_end ?_
 replace h0:=F.of h0;replace h1:=F.of h1;replace h4:=F.of h4;have R:=F.r;clear F
 change (cq59_5).wp _ _ _ _
 refine wp_seq (x:=cq59_6) (y:=cq59_7) ?_
 change (Code.region 2 Oq59_2 false).wp _ _ _ _
 refine reg_in (l:=[0,1]) rfl ?_
 have F:FE_ _ [] a112 a112:=⟨R,Ag_.refl _⟩;clear R
 refine sv_ gq59_2_0 (ym_ rfl (F.of h6)) fun a113 e=>?_
 have h16:=pt_ F e;replace F:=pu_ F e;clear e
 have Y:(execOp a113.eval oq59_2_1).run Tryz.prog w0=.ok (.value (.bool false)) w0:=by unfold oq59_2_1;go_simp
 refine sv_ gq59_2_1 Y fun a114 e=>?_;clear Y
 clear h16;have h17:=pt_ F e;replace F:=pu_ F e;clear e
 refine st_end ?_
 replace h0:=F.of h0;replace h1:=F.of h1;replace h4:=F.of h4;clear h6;have R:=F.r;clear F
 change (cq59_7).wp _ _ _ _
 refine wp_cond_false (x:=cq59_8) (y:=Code.skip) (eval_slot h17) ?_
 refine wp_skip ?_
 change (cq59_12).wp _ _ _ _
 refine wp_seq (x:=cq59_13) (y:=cq59_14) ?_
 change (Code.region 4 Oq59_4 false).wp _ _ _ _
 refine reg_in (l:=[0,1,2,3,4,5]) rfl ?_
 have F:FE_ _ [] a114 a114:=⟨R,Ag_.refl _⟩;clear R
 refine sv_ gq59_4_0 (ym_ rfl (F.of h0)) fun a115 e=>?_
 have h18:=pt_ F e;replace F:=pu_ F e;clear e
 have Y:(execOp a115.eval oq59_4_1).run Tryz.prog w0=.ok (.value (.pointer (some ⟨b0,0,none⟩))) w0:=by unfold oq59_4_1;go_simp
 refine sv_ gq59_4_1 Y fun a116 e=>?_;clear Y
 clear h18;have h19:=pt_ F e;replace F:=pu_ F e;clear e
 have Y:(execOp a116.eval oq59_4_2).run Tryz.prog w0=.ok (.value (.pointer (some ⟨b0,1,none⟩))) w0:=by unfold oq59_4_2;go_simp
 refine sv_ gq59_4_2 Y fun a117 e=>?_;clear Y
 clear h19;have h20:=pt_ F e;replace F:=pu_ F e;clear e
 have Y:(execOp a117.eval oq59_4_3).run Tryz.prog w0=.ok (.value (.map (some mb))) w0:=by have qq0:w0.cell? ⟨b0,0,none⟩=some (.int .i64 made):=B0.cell 0;have qq1:w0.cell? ⟨b0,1,none⟩=some (.map (some mb)):=B0.cell 1;unfold oq59_4_3;go_simp
 refine sv_ gq59_4_3 Y fun a118 e=>?_;clear Y
 clear h20;have h21:=pt_ F e;replace F:=pu_ F e;clear e
 refine sv_ gq59_4_4 (ym_ rfl (F.of h1)) fun a119 e=>?_
 have h22:=pt_ F e;replace F:=pu_ F e;replace h21:=so_ e h21;clear e
 obtain ⟨w8,hup,hmp,htn⟩:=(HP.out.map.keep K1 HP.out.map.lt).cut (tm:=46) (e:=69) Tryz.underlying46 HK.out oq59_4_5.type
 have Y:(execOp a119.eval oq59_4_5).run Tryz.prog w0=.ok (.value (.tuple #[])) w8:=by
  unfold oq59_4_5 at hup ⊢;unfold execOp;simp only [resolve,invoke,builtin,Sem.run_bind,Sem.run_pure,Result.andThen_ok,List.map_toArray,List.map_cons,List.map_nil,eval_slot h21,eval_slot h22];rw [hup];rfl
 have km:Keep (fun g=>g ≠ mb) w0 w8:=(Keep.refl _ _).turned htn (fun h=>h rfl)
 have KY:=(K1.all (Y:=fun g=>g ≠ mb)).trans km;clear hup htn K1 km B0 B1;have HM2:=Lib.hid hmp;clear hmp
 refine st_drop gq59_4_5 rfl (wanted_free rfl) Y ?_;clear Y
 refine st_end ?_
 clear h0;clear h1;replace h4:=F.of h4;clear h17;clear h21;clear h22;have R:=F.r;clear F
 change (cq59_14).wp _ _ _ _
 refine wp_seq (x:=cq59_15) (y:=Code.ret) ?_
 change (Code.region 5 Oq59_5 false).wp _ _ _ _
 refine reg_in (l:=[0]) rfl ?_
 have F:FE_ _ [] a119 a119:=⟨R,Ag_.refl _⟩;clear R
 have Y:(execOp a119.eval oq59_5_0).run Tryz.prog w8=.ok (.value (.int .i64 0)) w8:=by unfold oq59_5_0;go_simp
 refine sv_ gq59_5_0 Y fun a120 e=>?_;clear Y
 clear h4;have h4:=pt_ F e;replace F:=pu_ F e;clear e
 refine st_end ?_
 have R:=F.r;clear F
 change (Code.ret).wp _ _ _ _
 refine wp_ret ?_
 change bodyPost Tryz.prog Tryz.f13 (fun e w'=>e=.returned (.int .i64 0)∧MapN w' mb (.pointer none) (fun j=>if j=k then none else (f j).map fun q=>.pointer (some ⟨q.g,0,none⟩)) (n - 1)∧Keep (fun g=>g ≠ mb) W w') .ret a120 w8
 refine ret_one rfl R h4 ?_
 exact ⟨rfl,map_cut HM2.out HF.out,KY⟩
section
variable {W:World} {B b0 mb n:Nat} {R:Nat→Prop} {made k most:Int} {f:Int→Option Qu} {q:Qu}
theorem drop_any (h:PoAt B R W b0 mb made f n) (hk:(ik k).wf=true) (hf:f k=some q):Calls Tryz.prog 13 #[.pointer (some ⟨b0,0,none⟩),.int .i64 k] W fun e w'=>e=.returned (.int .i64 0)∧PoAt B R w' b0 mb made (fun j=>if j=k then none else f j) (n - 1)∧Keep (fun g=>g < W.heap.size∧¬ R g) W w':=by
  obtain ⟨va,vc,e⟩:=h.cut hf
  have hf2:=hf
  rw [e] at hf2
  refine Calls.mono (enter_sx Tryz.func13 bodyq59 rfl (by show (2:Nat) ≤ 23;decide) fun f0 R0 hs=>drop_w R0 (hs 0 _ rfl) (hs 1 _ rfl) (Keep.refl _ W) h.head (Lib.hid h) (Lib.hid hk) (h.qs k _ hf2).box (Lib.hid hf2)) ?_
  rintro e9 w' ⟨rfl,h1,hkk⟩
  exact ⟨rfl,h.less hf hkk h1,hkk.less fun g hg e=>hg.2 (e ▸ h.rm)⟩
set_option maxHeartbeats 1000000 in
theorem queues_any (h:PoAt B R W b0 mb made f n):Calls Tryz.prog 9 #[.pointer (some ⟨b0,0,none⟩)] W fun e w'=>∃ a c,e=.returned (.slice a n c)∧Keep (fun g=>g < W.heap.size) W w':=by
  obtain ⟨D,hown,hsz,hat⟩:=h.map.own
  have hfew:=h.few
  have hmax:Maps.size D ≤ maxLen:=by unfold maxLen;omega
  have hbytes:Maps.size D * 8 ≤ 140737488355328:=by omega
  have hpa:=h.head.cell 1
  have hlt:=h.head.lt
  refine (callsIn_wide (n:=6)).1 ?_
  have hbl:=hown.lt
  have hkeys:(intKeys D).length=Maps.size D:=by
    obtain ⟨es,rfl,_⟩:=hown.entries lawN
    simp [intKeys,Maps.size]
  have hseq:SeqGives Fence.wide 2 Tryz.prog 42 #[.pointer (some ⟨W.heap.size,0,none⟩)] encZ (fun ss=>ss.Perm (intKeys D)) (Maps.size D) (W.alloc (.cells #[.map (some mb)] 46)) :=
    AnyZI.keys_gives (ρ:=Tryz.keysO_ren) { Tryz.keysO with } Fence.wide _ trivial rfl (by omega) W.heap.size mb _ D _ (by simp) (by simp) (by
      obtain ⟨es,clock,hb,Ft,hs,hD⟩:=hown
      exact ⟨es,clock,(Below.heap_alloc _ _ mb hbl).trans hb,Ft,hs,hD⟩)
  have cK:∀ mb W,CallsIn Fence.wide 5 Tryz.prog 29 #[.map mb] W fun e w'=>e=.returned (.func (.func 42) #[] #[.pointer (some ⟨W.heap.size,0,none⟩)])∧w'=W.alloc (.cells #[.map mb] 46):=fun mb W=>AnyZI.keys_in Tryz.keysO Fence.wide 5 trivial rfl mb W
  have cS:=AnyZI.sorted_in Tryz.sortedI Fence.wide 5 trivial trivial trivial trivial rfl (by omega) (sortsI _) (enters_of Tryz.func41 (by kernel_rfl) rfl) 42 #[.pointer (some ⟨W.heap.size,0,none⟩)] trivial (enters_of Tryz.func42 (by kernel_rfl) rfl) _ _ hmax hbytes _ hseq
  change CallsIn _ _ Tryz.prog 28 _ _ _ at cS
  have hfK:Fence.wide.fn 29:=trivial
  have hfS:Fence.wide.fn 28:=trivial
  have HKL:=Lib.hid hkeys;clear hkeys
  have HSZ:=Lib.hid hsz;clear hsz
  clear h hseq hown hbl hmax hbytes hfew hat
  simp at hpa
  refine callsIn_of_wp Tryz.func9 rfl trivial ?_ rfl
  simp only [Tryz.ntmps9,List.size_toArray,List.length_cons,List.length_nil,Nat.reduceAdd,Nat.reduceSub,Array.replicate_succ,Array.replicate_zero,List.push_toArray,List.append_toArray,List.nil_append,List.cons_append]
  gi_wp2_with (first
    | (gi_at_call 29;refine (cK _ _).mono ?_;rintro e w' ⟨rfl,rfl⟩)
    | (gi_at_call 28;refine cS.mono ?_;rintro e w' ⟨v,ss,rfl,hS,hrow,hnil,hb⟩))
  go_ret
  have hl:ss.length=n:=(hS.length_eq.trans HKL.out).trans HSZ.out
  have hv:∃ a c,v=.slice a n c:=by
    rcases hrow.2 with ⟨e,h0⟩ | ⟨g,cap,cur,e,_⟩
    · exact ⟨none,0,by rw [← hl,h0];exact e⟩
    · exact ⟨_,_,by rw [e,hl]⟩
  obtain ⟨a,c,rfl⟩:=hv
  exact ⟨a,c,rfl,Keep.ofBelow (((Below.refl _ W).alloc (Nat.le_refl _) _).trans (hb.mono (by simp))) fun g hg=>hg⟩
end
end Go.Proofs.YtnfcbalppecnfaaGreat
