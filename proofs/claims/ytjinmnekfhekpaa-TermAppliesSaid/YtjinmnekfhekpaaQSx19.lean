/-
  The document's Apply: walked with letter frames. No condition but where the terms lie.
-/
import Derived.Test.YtjinmnekfhekpaaQSx18
import Derived.Test.YtjinmnekfhekpaaQTp10
namespace Go.Proofs.Ytjinmnekfhekpaa
open Go.RowKit Go.Maps
set_option linter.unusedVariables false
set_option linter.unusedSimpArgs false
theorem ndL_mem:∀ ts:List Tm,ndL ts=0∨∃ x ∈ ts,x.nd=ndL ts
  | []=>.inl ndL_nil
  | y::ts=>by
    rw [ndL_cons];right;rcases ndL_mem ts with h | ⟨x,hx,h⟩
    · exact ⟨y,List.mem_cons_self,by rw [h];omega⟩
    · rcases Nat.le_total y.nd (ndL ts) with h1 | h1
      · exact ⟨x,List.mem_cons_of_mem _ hx,by omega⟩
      · exact ⟨y,List.mem_cons_self,by omega⟩
theorem rd_min:∀ (n:Nat) (t:Tm),min t.nd (n + 1) ≤ rd n t:=by
  intro n;induction n with
  | zero=>intro t;unfold rd;omega
  | succ n ih =>
    intro t;unfold rd;rw [t.nd_eq];by_cases h4:t.k=4
    · rw [if_pos h4,if_pos h4];rcases ndL_mem t.args with h | ⟨x,hx,h⟩
      · omega
      · have h1:=ih x;have h2:=le_maxN (t.args.map (rd n)) _ (List.mem_map.2 ⟨x,hx,rfl⟩);omega
    · rw [if_neg h4,if_neg h4];omega
theorem rd_deep (t:Tm):(100 < rd 101 t)↔100 < t.nd:=by
  have h1:=rd_min 101 t;have h2:=rd_nd 101 t;constructor <;> intro h <;> omega
def raV (t:Tm) (bs:List BP):Tm × Int :=
  if t.right=true then (if t.tree.vars.any (badB bs)=true then (.node 0 [] 0 [],70) else if 2000 < grT (grL bs) t then (.node 0 [] 0 [],2) else if 100 < (mapT (apL bs) t).nd then (.node 0 [] 0 [],2) else (mapT (apL bs) t,0)) else (.node 0 [] 0 [],70)
theorem ra_wrong {t:Tm} {bs:List BP} (h:t.right=false):raV t bs=(.node 0 [] 0 [],70):=by unfold raV;rw [if_neg (by rw [h];decide)]
theorem ra_bad {t:Tm} {bs:List BP} {n:Nat} (h:t.right=true) (hn:n < t.tree.vars.length) (hb:badB bs (t.tree.vars.getD n 0)=true):raV t bs=(.node 0 [] 0 [],70):=by
  unfold raV;rw [if_pos h,if_pos (List.any_eq_true.2 ⟨_,?_,hb⟩)];rw [List.getD_eq_getElem?_getD,List.getElem?_eq_getElem hn];exact List.getElem_mem hn
theorem ra_fine {t:Tm} {bs:List BP} {n:Nat} (hn:t.tree.vars.length ≤ n) (hb:∀ v ∈ t.tree.vars.take n,badB bs v=false):¬ t.tree.vars.any (badB bs)=true:=fun h=>by
  obtain ⟨v,hv,h2⟩:=List.any_eq_true.1 h;rw [List.take_of_length_le hn] at hb;rw [hb v hv] at h2;cases h2
theorem ra_long {t:Tm} {bs:List BP} (h:t.right=true) (hf:¬ t.tree.vars.any (badB bs)=true) (hg:2000 < grT (grL bs) t):raV t bs=(.node 0 [] 0 [],2):=by unfold raV;rw [if_pos h,if_neg hf,if_pos hg]
theorem ra_deep {t:Tm} {bs:List BP} (h:t.right=true) (hf:¬ t.tree.vars.any (badB bs)=true) (hg:¬ 2000 < grT (grL bs) t) (hd:100 < rd 101 (mapT (apL bs) t)):raV t bs=(.node 0 [] 0 [],2):=by unfold raV;rw [if_pos h,if_neg hf,if_neg hg,if_pos ((rd_deep _).1 hd)]
theorem ra_ok {t:Tm} {bs:List BP} (h:t.right=true) (hf:¬ t.tree.vars.any (badB bs)=true) (hg:¬ 2000 < grT (grL bs) t) (hd:¬ 100 < rd 101 (mapT (apL bs) t)):raV t bs=(mapT (apL bs) t,0):=by unfold raV;rw [if_pos h,if_neg hf,if_neg hg,if_neg (fun h=>hd ((rd_deep _).2 h))]
theorem find_at {bs:List BP} {z:Int} {i:Nat} {q:BP} (hq:bs[i]? = some q) (he:q.1=z) (hn:∀ r ∈ bs.take i,r.1 ≠ z):bdOf bs z=some q.2:=by
  obtain ⟨hi,hg⟩:=List.getElem?_eq_some_iff.1 hq;have hb:bs=bs.take i ++ q::bs.drop (i + 1):=by rw [← hg,← List.drop_eq_getElem_cons hi,List.take_append_drop]
  unfold bdOf;rw [hb,List.find?_append,List.find?_eq_none.2 fun r hr=>by simpa using hn r hr];simp [he]
theorem bad_none {bs:List BP} {z:Int} {i:Nat} (hn:∀ r ∈ bs.take i,r.1 ≠ z) (hi:bs.length ≤ i):badB bs z=false:=by
  rw [List.take_of_length_le hi] at hn;unfold badB bdOf;rw [List.find?_eq_none.2 fun r hr=>by simpa using hn r hr];rfl
theorem bad_at {bs:List BP} {z:Int} {i:Nat} {q:BP} {r:Bool} (hq:bs[i]? = some q) (he:q.1=z) (hn:∀ r ∈ bs.take i,r.1 ≠ z) (hr:q.2.1.right=r):badB bs z=!r:=by
  unfold badB;rw [find_at hq he hn];show (!q.2.1.right)=!r;rw [hr]
theorem bad_more {bs:List BP} {l:List Int} {n:Nat} {z:Int} (h:∀ v ∈ l.take n,badB bs v=false) (hn:n < l.length) (hz:l.getD n 0=z) (hb:badB bs z=false):∀ v ∈ l.take (n + 1),badB bs v=false:=fun v hv=>by
  rw [List.take_succ_eq_append_getElem hn] at hv;rcases List.mem_append.1 hv with hv | hv
  · exact h v hv
  · rw [List.mem_singleton.1 hv];rw [List.getD_eq_getElem?_getD,List.getElem?_eq_getElem hn] at hz;rw [show l[n]=z from hz];exact hb
theorem fin_ra0 {W w:World} {t:Tm} {bs:List BP} {e:Int} (K:Keep (fun g=>g < W.heap.size) W w) (h:raV t bs=(.node 0 [] 0 [],e)):∃ a' c',Ending.returned (.tuple #[.agg #[.int .i64 0,.string ⟨#[]⟩,.int .i64 0,.slice none 0 0],.int .i64 e])=.returned (.tuple #[tv (raV t bs).1 a' c',.int .i64 (raV t bs).2])∧TmAt w.heap.size w (raV t bs).1 a' c'∧Keep (fun g=>g < W.heap.size) W w:=by
  rw [h];exact ⟨none,0,rfl,tm_leaf (by decide) (by decide) (by simp),K⟩
theorem fin_ra {W w:World} {t x:Tm} {bs:List BP} {a:Option Addr} {c:Nat} (K:Keep (fun g=>g < W.heap.size) W w) (h:raV t bs=(x,0)) (hT:TmAt w.heap.size w x a c):∃ a' c',Ending.returned (.tuple #[.agg #[.int .i64 x.k,.string (str x.nm),.int .i64 x.i,.slice a x.args.length c],.int .i64 0])=.returned (.tuple #[tv (raV t bs).1 a' c',.int .i64 (raV t bs).2])∧TmAt w.heap.size w (raV t bs).1 a' c'∧Keep (fun g=>g < W.heap.size) W w:=by
  rw [h];exact ⟨a,c,rfl,hT,K⟩
theorem keep_up2 {V w:World} {lo:Nat} (k:Keep (fun g=>lo ≤ g∧g < V.heap.size) V w):Keep (fun g=>lo ≤ g) V w:=⟨k.os,k.tape,k.output,k.size,fun j hj hX=>k.block j hj ⟨hX,hj⟩⟩
theorem fr_at2 {V w:World} {lo c:Nat} {t:Tm} {a:Option Addr} (h:Fr 0 (fun _=>False) V lo V.heap.size t a c) (k:Keep (fun g=>lo ≤ g∧g < V.heap.size) V w):TmAt w.heap.size w t a c:=((fr_onB h (keep_up2 k)).at_ (Nat.zero_le _)).up k.size
def o35_0_0:Oper:=⟨some 2,.box 24 (.tmp 0),0, "ref.go:342",#[],none⟩
def o35_0_1:Oper:=⟨some 4,.alloc 24,0, "ref.go:342",#[],none⟩
def o35_0_2:Oper:=⟨some 5,.assign (.const (.int .i64 0)),3, "ref.go:342",#[],none⟩
def O35_0:Array Oper:=#[o35_0_0,o35_0_1,o35_0_2]
def c35_1:Code:=.region 0 O35_0 false
def o35_1_0:Oper:=⟨some 11,.load 24 (.tmp 2),24, "ref.go:343",#[],none⟩
def o35_1_1:Oper:=⟨some 12,.call { callee:=.value (.func 13),args:=#[.tmp 11],argTypes:=#[24] },4, "ref.go:343",#[ed_ 0],none⟩
def o35_1_2:Oper:=⟨some 13,.unOp .not 4 (.tmp 12),4, "ref.go:343",#[ed_ 1],none⟩
def O35_1:Array Oper:=#[o35_1_0,o35_1_1,o35_1_2]
def c35_4:Code:=.region 1 O35_1 false
def o35_2_0:Oper:=⟨some 14,.build 24 #[],24, "ref.go:344",#[],none⟩
def o35_2_1:Oper:=⟨none,.store 24 (.tmp 4) (.tmp 14),0, "ref.go:344",#[ed_ 0,ep_ 0],none⟩
def o35_2_2:Oper:=⟨some 5,.assign (.const (.int .i64 70)),3, "ref.go:344",#[ec_ 1,ep_ 0,ep_ 1],none⟩
def O35_2:Array Oper:=#[o35_2_0,o35_2_1,o35_2_2]
def c35_7:Code:=.region 2 O35_2 false
def c35_6:Code:=.seq c35_7 Code.ret
def c35_5:Code:=.cond (Operand.tmp 13) c35_6 Code.skip
def c35_3:Code:=.seq c35_4 c35_5
def o35_3_0:Oper:=⟨some 15,.load 24 (.tmp 2),24, "ref.go:346",#[],none⟩
def o35_3_1:Oper:=⟨some 16,.call { callee:=.value (.func 50),args:=#[.tmp 15],argTypes:=#[24] },56, "ref.go:346",#[ed_ 0],none⟩
def o35_3_2:Oper:=⟨some 6,.assign (.tmp 16),56, "ref.go:346",#[ed_ 1,ec_ 1,ep_ 0,ep_ 1],none⟩
def O35_3:Array Oper:=#[o35_3_0,o35_3_1,o35_3_2]
def c35_11:Code:=.region 3 O35_3 false
def o35_4_0:Oper:=⟨some 17,.load 24 (.tmp 2),24, "ref.go:347",#[],none⟩
def o35_4_1:Oper:=⟨some 18,.call { callee:=.value (.func 42),args:=#[.tmp 17,.const (.int .i64 2000)],argTypes:=#[24,3] },3, "ref.go:347",#[ed_ 0],none⟩
def o35_4_2:Oper:=⟨some 7,.assign (.tmp 18),3, "ref.go:347",#[ed_ 1,ec_ 1,ep_ 0,ep_ 1],none⟩
def O35_4:Array Oper:=#[o35_4_0,o35_4_1,o35_4_2]
def c35_13:Code:=.region 4 O35_4 false
def o35_5_0:Oper:=⟨some 8,.assign (.const (.int .i64 0)),3, "ref.go:348",#[],none⟩
def O35_5:Array Oper:=#[o35_5_0]
def c35_16:Code:=.region 5 O35_5 false
def o35_6_0:Oper:=⟨some 19,.move (.tmp 8),3, "ref.go:348",#[],none⟩
def o35_6_1:Oper:=⟨some 20,.move (.tmp 6),56, "ref.go:348",#[],none⟩
def o35_6_2:Oper:=⟨some 21,.call { callee:=.builtin .len,args:=#[.tmp 20],argTypes:=#[56] },3, "ref.go:348",#[ed_ 1],none⟩
def o35_6_3:Oper:=⟨some 22,.binOp .lss 3 (.tmp 19) (.tmp 21) 3,4, "ref.go:348",#[ed_ 0,ed_ 2],none⟩
def O35_6:Array Oper:=#[o35_6_0,o35_6_1,o35_6_2,o35_6_3]
def c35_21:Code:=.region 6 O35_6 false
def c35_24:Code:=.exit 0
def c35_22:Code:=.cond (Operand.tmp 22) Code.skip c35_24
def c35_20:Code:=.seq c35_21 c35_22
def o35_8_0:Oper:=⟨some 9,.assign (.const (.int .i64 0)),3, "ref.go:349",#[],none⟩
def O35_8:Array Oper:=#[o35_8_0]
def c35_28:Code:=.region 8 O35_8 false
def o35_9_0:Oper:=⟨some 25,.move (.tmp 9),3, "ref.go:349",#[],none⟩
def o35_9_1:Oper:=⟨some 26,.move (.tmp 1),25, "ref.go:349",#[],none⟩
def o35_9_2:Oper:=⟨some 27,.call { callee:=.builtin .len,args:=#[.tmp 26],argTypes:=#[25] },3, "ref.go:349",#[ed_ 1],none⟩
def o35_9_3:Oper:=⟨some 28,.binOp .lss 3 (.tmp 25) (.tmp 27) 3,4, "ref.go:349",#[ed_ 0,ed_ 2],none⟩
def O35_9:Array Oper:=#[o35_9_0,o35_9_1,o35_9_2,o35_9_3]
def c35_33:Code:=.region 9 O35_9 false
def c35_36:Code:=.exit 2
def c35_34:Code:=.cond (Operand.tmp 28) Code.skip c35_36
def c35_32:Code:=.seq c35_33 c35_34
def o35_11_0:Oper:=⟨some 31,.move (.tmp 1),25, "ref.go:350",#[],none⟩
def o35_11_1:Oper:=⟨some 32,.move (.tmp 9),3, "ref.go:350",#[],none⟩
def o35_11_2:Oper:=⟨some 33,.indexAddr 25 (.tmp 31) (.tmp 32),0, "ref.go:350",#[ed_ 0,ed_ 1],none⟩
def o35_11_3:Oper:=⟨some 34,.fieldAddr 29 (.tmp 33) 0,0, "ref.go:350",#[ed_ 2],none⟩
def o35_11_4:Oper:=⟨some 35,.load 2 (.tmp 34),2, "ref.go:350",#[ed_ 3],none⟩
def o35_11_5:Oper:=⟨some 36,.move (.tmp 6),56, "ref.go:350",#[],none⟩
def o35_11_6:Oper:=⟨some 37,.move (.tmp 8),3, "ref.go:350",#[],none⟩
def o35_11_7:Oper:=⟨some 38,.indexAddr 56 (.tmp 36) (.tmp 37),0, "ref.go:350",#[ed_ 5,ed_ 6],none⟩
def o35_11_8:Oper:=⟨some 39,.load 2 (.tmp 38),2, "ref.go:350",#[ed_ 7],none⟩
def o35_11_9:Oper:=⟨some 40,.binOp .eql 2 (.tmp 35) (.tmp 39) 2,4, "ref.go:350",#[ed_ 4,ed_ 8],none⟩
def O35_11:Array Oper:=#[o35_11_0,o35_11_1,o35_11_2,o35_11_3,o35_11_4,o35_11_5,o35_11_6,o35_11_7,o35_11_8,o35_11_9]
theorem ns35_11:Region.noSelect O35_11=true:=by kernel_rfl
def c35_40:Code:=.region 11 O35_11 true
def o35_12_0:Oper:=⟨some 41,.move (.tmp 1),25, "ref.go:351",#[],none⟩
def o35_12_1:Oper:=⟨some 42,.move (.tmp 9),3, "ref.go:351",#[],none⟩
def o35_12_2:Oper:=⟨some 43,.indexAddr 25 (.tmp 41) (.tmp 42),0, "ref.go:351",#[ed_ 0,ed_ 1],none⟩
def o35_12_3:Oper:=⟨some 44,.fieldAddr 29 (.tmp 43) 1,0, "ref.go:351",#[ed_ 2],none⟩
def o35_12_4:Oper:=⟨some 45,.load 24 (.tmp 44),24, "ref.go:351",#[ed_ 3],none⟩
def o35_12_5:Oper:=⟨some 46,.call { callee:=.value (.func 13),args:=#[.tmp 45],argTypes:=#[24] },4, "ref.go:351",#[ed_ 4],none⟩
def o35_12_6:Oper:=⟨some 47,.unOp .not 4 (.tmp 46),4, "ref.go:351",#[ed_ 5],none⟩
def O35_12:Array Oper:=#[o35_12_0,o35_12_1,o35_12_2,o35_12_3,o35_12_4,o35_12_5,o35_12_6]
def c35_44:Code:=.region 12 O35_12 false
def o35_13_0:Oper:=⟨some 48,.build 24 #[],24, "ref.go:352",#[],none⟩
def o35_13_1:Oper:=⟨none,.store 24 (.tmp 4) (.tmp 48),0, "ref.go:352",#[ed_ 0,ep_ 0],none⟩
def o35_13_2:Oper:=⟨some 5,.assign (.const (.int .i64 70)),3, "ref.go:352",#[ec_ 1,ep_ 0,ep_ 1],none⟩
def O35_13:Array Oper:=#[o35_13_0,o35_13_1,o35_13_2]
def c35_47:Code:=.region 13 O35_13 false
def c35_46:Code:=.seq c35_47 Code.ret
def c35_45:Code:=.cond (Operand.tmp 47) c35_46 Code.skip
def c35_43:Code:=.seq c35_44 c35_45
def c35_50:Code:=.exit 2
def c35_42:Code:=.seq c35_43 c35_50
def c35_41:Code:=.cond (Operand.tmp 40) c35_42 Code.skip
def c35_39:Code:=.seq c35_40 c35_41
def c35_38:Code:=.block 3 c35_39
def o35_10_0:Oper:=⟨some 29,.move (.tmp 9),3, "ref.go:349",#[],none⟩
def o35_10_1:Oper:=⟨some 30,.binOp .add 3 (.tmp 29) (.const (.int .i64 1)) 3,3, "ref.go:349",#[ed_ 0],none⟩
def o35_10_2:Oper:=⟨some 9,.assign (.tmp 30),3, "ref.go:349",#[ed_ 1,ep_ 0,ep_ 1],none⟩
def O35_10:Array Oper:=#[o35_10_0,o35_10_1,o35_10_2]
def c35_52:Code:=.region 10 O35_10 false
def c35_37:Code:=.seq c35_38 c35_52
def c35_31:Code:=.seq c35_32 c35_37
def c35_30:Code:=.loop c35_31
def c35_29:Code:=.block 2 c35_30
def c35_27:Code:=.seq c35_28 c35_29
def c35_26:Code:=.block 1 c35_27
def o35_7_0:Oper:=⟨some 23,.move (.tmp 8),3, "ref.go:348",#[],none⟩
def o35_7_1:Oper:=⟨some 24,.binOp .add 3 (.tmp 23) (.const (.int .i64 1)) 3,3, "ref.go:348",#[ed_ 0],none⟩
def o35_7_2:Oper:=⟨some 8,.assign (.tmp 24),3, "ref.go:348",#[ed_ 1,ep_ 0,ep_ 1],none⟩
def O35_7:Array Oper:=#[o35_7_0,o35_7_1,o35_7_2]
def c35_53:Code:=.region 7 O35_7 false
def c35_25:Code:=.seq c35_26 c35_53
def c35_19:Code:=.seq c35_20 c35_25
def c35_18:Code:=.loop c35_19
def c35_17:Code:=.block 0 c35_18
def c35_15:Code:=.seq c35_16 c35_17
def o35_14_0:Oper:=⟨some 49,.move (.tmp 7),3, "ref.go:358",#[],none⟩
def o35_14_1:Oper:=⟨some 50,.binOp .mul 3 (.tmp 49) (.const (.int .i64 8)) 3,3, "ref.go:358",#[ed_ 0],none⟩
def o35_14_2:Oper:=⟨some 51,.binOp .gtr 3 (.tmp 50) (.const (.int .i64 0)) 3,4, "ref.go:358",#[ed_ 1],none⟩
def o35_14_3:Oper:=⟨some 52,.move (.tmp 51),4, "ref.go:358",#[ed_ 2],none⟩
def o35_14_4:Oper:=⟨some 53,.load 24 (.tmp 2),24, "ref.go:358",#[eg_ 3],some (3,true)⟩
def o35_14_5:Oper:=⟨some 54,.move (.tmp 1),25, "ref.go:358",#[eg_ 3],some (3,true)⟩
def o35_14_6:Oper:=⟨some 55,.call { callee:=.value (.func 51),args:=#[.tmp 53,.tmp 54],argTypes:=#[24,25] },3, "ref.go:358",#[ed_ 4,ed_ 5,ec_ 3,eg_ 3],some (3,true)⟩
def o35_14_7:Oper:=⟨some 56,.binOp .gtr 3 (.tmp 55) (.const (.int .i64 2000)) 3,4, "ref.go:358",#[ed_ 6,eg_ 3],some (3,true)⟩
def o35_14_8:Oper:=⟨some 57,.pick (.tmp 52) (.tmp 56) (.const (.bool false)),4, "ref.go:358",#[ed_ 3,ed_ 7],none⟩
def O35_14:Array Oper:=#[o35_14_0,o35_14_1,o35_14_2,o35_14_3,o35_14_4,o35_14_5,o35_14_6,o35_14_7,o35_14_8]
def c35_56:Code:=.region 14 O35_14 false
def o35_15_0:Oper:=⟨some 58,.build 24 #[],24, "ref.go:359",#[],none⟩
def o35_15_1:Oper:=⟨none,.store 24 (.tmp 4) (.tmp 58),0, "ref.go:359",#[ed_ 0,ep_ 0],none⟩
def o35_15_2:Oper:=⟨some 5,.assign (.const (.int .i64 2)),3, "ref.go:359",#[ec_ 1,ep_ 0,ep_ 1],none⟩
def O35_15:Array Oper:=#[o35_15_0,o35_15_1,o35_15_2]
def c35_59:Code:=.region 15 O35_15 false
def c35_58:Code:=.seq c35_59 Code.ret
def c35_57:Code:=.cond (Operand.tmp 57) c35_58 Code.skip
def c35_55:Code:=.seq c35_56 c35_57
def o35_16_0:Oper:=⟨some 59,.load 24 (.tmp 2),24, "ref.go:361",#[],none⟩
def o35_16_1:Oper:=⟨some 60,.move (.tmp 1),25, "ref.go:361",#[],none⟩
def o35_16_2:Oper:=⟨some 61,.call { callee:=.value (.func 52),args:=#[.tmp 59,.tmp 60],argTypes:=#[24,25] },24, "ref.go:361",#[ed_ 0,ed_ 1],none⟩
def o35_16_3:Oper:=⟨some 10,.alloc 24,0, "ref.go:361",#[],none⟩
def o35_16_4:Oper:=⟨none,.store 24 (.tmp 10) (.tmp 61),0, "ref.go:361",#[ed_ 3,ed_ 2,ec_ 2,ep_ 0,ep_ 1,ep_ 2,ep_ 3],none⟩
def O35_16:Array Oper:=#[o35_16_0,o35_16_1,o35_16_2,o35_16_3,o35_16_4]
def c35_63:Code:=.region 16 O35_16 false
def o35_17_0:Oper:=⟨some 62,.load 24 (.tmp 10),24, "ref.go:362",#[],none⟩
def o35_17_1:Oper:=⟨some 63,.call { callee:=.value (.func 53),args:=#[.tmp 62,.const (.int .i64 101)],argTypes:=#[24,3] },3, "ref.go:362",#[ed_ 0],none⟩
def o35_17_2:Oper:=⟨some 64,.binOp .gtr 3 (.tmp 63) (.const (.int .i64 100)) 3,4, "ref.go:362",#[ed_ 1],none⟩
def O35_17:Array Oper:=#[o35_17_0,o35_17_1,o35_17_2]
def c35_66:Code:=.region 17 O35_17 false
def o35_18_0:Oper:=⟨some 65,.build 24 #[],24, "ref.go:363",#[],none⟩
def o35_18_1:Oper:=⟨none,.store 24 (.tmp 4) (.tmp 65),0, "ref.go:363",#[ed_ 0,ep_ 0],none⟩
def o35_18_2:Oper:=⟨some 5,.assign (.const (.int .i64 2)),3, "ref.go:363",#[ec_ 1,ep_ 0,ep_ 1],none⟩
def O35_18:Array Oper:=#[o35_18_0,o35_18_1,o35_18_2]
def c35_69:Code:=.region 18 O35_18 false
def c35_68:Code:=.seq c35_69 Code.ret
def c35_67:Code:=.cond (Operand.tmp 64) c35_68 Code.skip
def c35_65:Code:=.seq c35_66 c35_67
def o35_19_0:Oper:=⟨some 66,.load 24 (.tmp 10),24, "ref.go:365",#[],none⟩
def o35_19_1:Oper:=⟨none,.store 24 (.tmp 4) (.tmp 66),0, "ref.go:365",#[ed_ 0,ep_ 0],none⟩
def o35_19_2:Oper:=⟨some 5,.assign (.const (.int .i64 0)),3, "ref.go:365",#[ec_ 1,ep_ 0,ep_ 1],none⟩
def O35_19:Array Oper:=#[o35_19_0,o35_19_1,o35_19_2]
def c35_73:Code:=.region 19 O35_19 false
def c35_72:Code:=.seq c35_73 Code.ret
def c35_64:Code:=.seq c35_65 c35_72
def c35_62:Code:=.seq c35_63 c35_64
def c35_54:Code:=.seq c35_55 c35_62
def c35_14:Code:=.seq c35_15 c35_54
def c35_12:Code:=.seq c35_13 c35_14
def c35_10:Code:=.seq c35_11 c35_12
def c35_2:Code:=.seq c35_3 c35_10
def c35_0:Code:=.seq c35_1 c35_2
theorem en35_14:Enters Try.prog 13:=enters_of Try.func13 (by kernel_rfl) rfl
theorem en35_25:Enters Try.prog 50:=enters_of Try.func50 (by kernel_rfl) rfl
theorem en35_69:Enters Try.prog 51:=enters_of Try.func51 (by kernel_rfl) rfl
theorem en35_70:Enters Try.prog 52:=enters_of Try.func52 (by kernel_rfl) rfl
theorem body35:Try.f10.body=some c35_0:=by kernel_rfl
set_option maxRecDepth 100000 in
set_option maxHeartbeats 4000000 in
theorem rapp_w {W:World} {t:Tm} {a sa:Option Addr} {c sc:Nat} {bs:List BP} {r:Bool} {f0:Act} {w0:World} (R:FrS 67 f0) (h0:f0.tmps[0]? = some (.agg #[.int .i64 t.k,.string (str t.nm),.int .i64 t.i,.slice a t.args.length c])) (h1:f0.tmps[1]? = some (.slice sa bs.length sc)) (K1:Keep (fun g=>g < W.heap.size) W w0)  (HT:Hid (TmAt W.heap.size W t a c)) (HR:Hid (t.right=r)) (HS:Hid (BSl W.heap.size W sa bs)) (HLB:Hid (bs.length ≤ 1000)) (HBN:Hid (∀ q ∈ bs,q.2.1.ns ≤ 2000)):c35_0.wp Try.prog (bodyPost Try.prog Try.f10 (fun e w'=>∃ a' c',e=.returned (.tuple #[tv (raV t bs).1 a' c',.int .i64 (raV t bs).2])∧TmAt w'.heap.size w' (raV t bs).1 a' c'∧Keep (fun g=>g < W.heap.size) W w')) f0 w0:=by
 refine wp_seq (x:=c35_1) (y:=c35_2) ?_;refine reg_in (l:=[0,1,2]) rfl ?_;have F:=fe_ R;clear R;have Y:(execOp f0.eval o35_0_0).run Try.prog w0=.ok (.value (.pointer (some ⟨w0.heap.size,0,none⟩))) (w0.alloc (.cells #[.int .i64 t.k,.string (str t.nm),.int .i64 t.i,.slice a t.args.length c] 24)):=by have r0:=F.of h0;unfold o35_0_0;go_simp
 have B1:=Blk.new w0 24 #[.int .i64 t.k,.string (str t.nm),.int .i64 t.i,.slice a t.args.length c];obtain ⟨w2,hw⟩:∃ x,x=w0.alloc (.cells #[.int .i64 t.k,.string (str t.nm),.int .i64 t.i,.slice a t.args.length c] 24):=⟨_,rfl⟩;rw [← hw] at Y B1;obtain ⟨b1,hb⟩:∃ x,x=w0.heap.size:=⟨_,rfl⟩;rw [← hb] at Y B1;have LK1_b1:=lk_ hb K1;replace K1:=ka_ hw K1;clear hw hb;refine sw_ rfl Y F fun a3 F h2=>?_;clear Y;have Y:(execOp a3.eval o35_0_1).run Try.prog w2=.ok (.value (.pointer (some ⟨w2.heap.size,0,none⟩))) (w2.alloc (.cells #[.int .i64 0,.string (⟨#[]⟩),.int .i64 0,.slice none 0 0] 24)):=by unfold o35_0_1;go_simp
 have B4:=Blk.new w2 24 #[.int .i64 0,.string (⟨#[]⟩),.int .i64 0,.slice none 0 0];obtain ⟨w5,hw⟩:∃ x,x=w2.alloc (.cells #[.int .i64 0,.string (⟨#[]⟩),.int .i64 0,.slice none 0 0] 24):=⟨_,rfl⟩;rw [← hw] at Y B4;obtain ⟨b4,hb⟩:∃ x,x=w2.heap.size:=⟨_,rfl⟩;rw [← hb] at Y B4;have Nb1_b4:=nb_ hb B1;replace B1:=ba_ hw B1;have LK1_b4:=lk_ hb K1;replace K1:=ka_ hw K1;clear hw hb;refine swe_ rfl Y F fun a6 e F h4=>?_;clear Y;replace h2:=so_ e h2;clear e;have Y:Yv a6 o35_0_2 w5 (.int .i64 0):=by unfold Yv o35_0_2;go_simp
 refine swe_ rfl Y F fun a7 e F h5=>?_;clear Y;have⟨h2,h4⟩:=s2_ e h2 h4;clear e;refine st_end ?_;clear h0;replace h1:=F.of h1;have R:=F.r;clear F;refine wp_seq (x:=c35_3) (y:=c35_10) ?_;refine wp_seq (x:=c35_4) (y:=c35_5) ?_;refine reg_in (l:=[0,1,2]) rfl ?_;have F:=fe_ R;clear R;refine sw_ rfl (yl4_ rfl (F.of h2) B1) F fun a8 F h11=>?_;have hcall:=refRight_any (HT.out.on K1);rw [HR.out] at hcall;refine st_call rfl rfl (wanted_free rfl) (yc1_ en35_14 rfl h11) ((hcall).mono ?_);rintro e9 w9 ⟨rfl,kk⟩;replace K1:=keep_onto K1 kk;replace B1:=blk_on B1 kk;replace B4:=blk_on B4 kk;clear kk;clear hcall;refine ⟨_,rfl,fun a10 e=>?_⟩;clear h11;have h12:=pt_ F e;replace F:=pu_ F e;clear e;cases r with
 | false =>
  have Y:Yv a10 o35_1_2 w9 (.bool true):=by unfold Yv o35_1_2;go_simp
  refine sw_ rfl Y F fun a11 F h13=>?_;clear Y h12;refine st_end ?_;have⟨h1,h2,h4,h5⟩:=F.o4 h1 h2 h4 h5;have R:=F.r;clear F;refine wp_cond_true (x:=c35_6) (y:=Code.skip) (eval_slot h13) ?_;refine wp_seq (x:=c35_7) (y:=Code.ret) ?_;refine reg_in (l:=[0,1,2]) rfl ?_;have F:=fe_ R;clear R;have Y:Yv a11 o35_2_0 w9 (.agg #[.int .i64 0,.string (⟨#[]⟩),.int .i64 0,.slice none 0 0]):=by unfold Yv o35_2_0;go_simp
  refine sw_ rfl Y F fun a12 F h14=>?_;clear Y;obtain ⟨w13,Y,hk,hB⟩:=ys4_ (o:=o35_2_1) rfl (F.of h4) h14 B4;replace K1:=kx_ hk K1 (Nat.not_lt.2 LK1_b4);replace B1:=bx_ hk B1 Nb1_b4;clear B4;have B4:=hB;clear hB hk;refine st_skip rfl rfl (wanted_free rfl) Y ?_;clear Y;have Y:Yv a12 o35_2_2 w13 (.int .i64 70):=by unfold Yv o35_2_2;go_simp
  refine sw_ rfl Y F fun a14 F h5=>?_;clear Y h14;refine st_end ?_;have⟨h1,h2,h4⟩:=F.o3 h1 h2 h4;clear h13;have R:=F.r;clear F;refine wp_ret ?_;change bodyPost Try.prog Try.f10 (fun e w'=>∃ a' c',e=.returned (.tuple #[tv (raV t bs).1 a' c',.int .i64 (raV t bs).2])∧TmAt w'.heap.size w' (raV t bs).1 a' c'∧Keep (fun g=>g < W.heap.size) W w') .ret a14 w13;refine ret_cell_tmp (fn:=Try.f10) rfl R h4 h5 B4 ?_
  first | exact fin_ra0 K1 (ra_wrong HR.out) | exact fin_ra0 K1 (ra_bad HR.out hn9 (by rw [HZ.out];exact bad_at HQ.out (by omega) HNO.out HRQ.out))
 | true =>
  have Y:Yv a10 o35_1_2 w9 (.bool false):=by unfold Yv o35_1_2;go_simp
  refine sw_ rfl Y F fun a15 F h13=>?_;clear Y h12;refine st_end ?_;have⟨h1,h2,h4,h5⟩:=F.o4 h1 h2 h4 h5;have R:=F.r;clear F;refine wp_cond_false (x:=c35_6) (y:=Code.skip) (eval_slot h13) ?_;refine wp_skip ?_;refine wp_seq (x:=c35_11) (y:=c35_12) ?_;refine reg_in (l:=[0,1,2]) rfl ?_;have F:=fe_ R;clear R;refine sw_ rfl (yl4_ rfl (F.of h2) B1) F fun a16 F h15=>?_;refine st_call rfl rfl (wanted_free rfl) (yc1_ en35_25 rfl h15) ((refVars_any (HT.out.on K1) (right_of.1 HR.out).1 (by have:=(right_of.1 HR.out).2.1;omega)).mono ?_);rintro e9 w17 ⟨ua,uc,rfl,hrow,kk⟩;replace K1:=keep_onto K1 kk;replace B1:=blk_on B1 kk;replace B4:=blk_on B4 kk;clear kk;obtain ⟨ua',uc',he9,hlg⟩:=row_longs hrow;injection he9 with e1 e2 e3;subst e1;subst e3;clear hrow e2
  have HLG:=Lib.hid hlg;clear hlg;have KV:=Keep.refl (fun g=>g < w17.heap.size) w17;have HLN:Hid (t.tree.vars.length ≤ 2000):=Lib.hid (Nat.le_trans (T.vars_len _) (Tm.tree_right (right_of.1 HR.out)).2.1);refine ⟨_,rfl,fun a18 e=>?_⟩;clear h15;have h16:=pt_ F e;replace F:=pu_ F e;clear e;refine sw_ rfl (ya_ rfl h16) F fun a19 F h6=>?_;clear h16;refine st_end ?_;have⟨h1,h2,h4,h5⟩:=F.o4 h1 h2 h4 h5;clear h13;have R:=F.r;clear F;refine wp_seq (x:=c35_13) (y:=c35_14) ?_;refine reg_in (l:=[0,1,2]) rfl ?_;have F:=fe_ R;clear R;refine sw_ rfl (yl4_ rfl (F.of h2) B1) F fun a20 F h17=>?_;have Y:(execOp a20.eval o35_4_1).run Try.prog w17=.ok (.enter 42 #[.agg #[.int .i64 t.k,.string (str t.nm),.int .i64 t.i,.slice a t.args.length c],.int .i64 2000]) w17:=by unfold o35_4_1;go_simp
  refine st_call rfl rfl (wanted_free rfl) Y ((refsize_sx (m:=2000) (z:=(t.ns:Int)) (HT.out.on K1) (by decide) (by rfl) (by rw [Nat.min_eq_left (by have:=(right_of.1 HR.out).2.1;omega)])).mono ?_);clear Y;rintro e9 w21 ⟨rfl,kk⟩;replace K1:=keep_onto K1 kk;replace KV:=keep_onto KV kk;replace B1:=blk_on B1 kk;replace B4:=blk_on B4 kk;clear kk;refine ⟨_,rfl,fun a22 e=>?_⟩;clear h17;have h18:=pt_ F e;replace F:=pu_ F e;clear e;refine sw_ rfl (ya_ rfl h18) F fun a23 F h7=>?_;clear h18;refine st_end ?_;have⟨h1,h2,h4,h5⟩:=F.o4 h1 h2 h4 h5;replace h6:=F.of h6;have R:=F.r;clear F;refine wp_seq (x:=c35_15) (y:=c35_54) ?_;refine wp_seq (x:=c35_16) (y:=c35_17) ?_;refine reg_in (l:=[0]) rfl ?_;have F:=fe_ R;clear R;have Y:Yv a23 o35_5_0 w21 (.int .i64 0):=by unfold Yv o35_5_0;go_simp
  refine sw_ rfl Y F fun a24 F h8=>?_;clear Y;refine st_end ?_;have⟨h1,h2,h4,h5,h6,h7⟩:=F.o6 h1 h2 h4 h5 h6 h7;have R:=F.r;clear F;refine wp_block (id:=0) (c:=c35_18) ?_;refine wp_loop_ghost (c:=c35_19) (fun n fX wX=>∃ nv:Nat,n=t.tree.vars.length - nv∧FrS 67 fX∧fX.tmps[1]? = some (.slice sa bs.length sc)∧fX.tmps[2]? = some (.pointer (some ⟨b1,0,none⟩))∧fX.tmps[4]? = some (.pointer (some ⟨b4,0,none⟩))∧fX.tmps[5]? = some (.int .i64 0)∧fX.tmps[6]? = some (.slice ua t.tree.vars.length uc)∧fX.tmps[7]? = some (.int .i64 (t.ns:Int))∧fX.tmps[8]? = some (.int .i64 (nv:Int))∧Keep (fun g=>g < W.heap.size) W wX∧Keep (fun g=>g < w17.heap.size) w17 wX∧Blk wX b1 24 #[.int .i64 t.k,.string (str t.nm),.int .i64 t.i,.slice a t.args.length c]∧Blk wX b4 24 #[.int .i64 0,.string (⟨#[]⟩),.int .i64 0,.slice none 0 0]∧nv ≤ t.tree.vars.length∧Hid (∀ v ∈ t.tree.vars.take nv,badB bs v=false)) (t.tree.vars.length - 0) ⟨0,rfl,R,h1,h2,h4,h5,h6,h7,h8,K1,KV,B1,B4,Nat.zero_le _,(Lib.hid fun v hv=>by simp at hv)⟩ ?_;clear R h1 h2 h4 h5 h6 h7 h8 K1 KV B1 B4;rintro n27 a25 w26 ⟨nv,rfl,R,h1,h2,h4,h5,h6,h7,h8,K1,KV,B1,B4,hn,HNB⟩;have hl8:=HLN.out;have hl9:=HLB.out;refine wp_seq (x:=c35_20) (y:=c35_25) ?_;refine wp_seq (x:=c35_21) (y:=c35_22) ?_;refine reg_in (l:=[0,1,2,3]) rfl ?_;have F:=fe_ R;clear R;refine sw_ rfl (ym_ rfl (F.of h8)) F fun a28 F h19=>?_;refine swe_ rfl (ym_ rfl (F.of h6)) F fun a29 e F h20=>?_;replace h19:=so_ e h19;clear e;have Y:Yv a29 o35_6_2 w26 (.int .i64 t.tree.vars.length):=by unfold Yv o35_6_2;go_simp
  refine swe_ rfl Y F fun a30 e F h21=>?_;clear Y;have⟨h19,h20⟩:=s2_ e h19 h20;clear e;obtain ⟨b31,hb31⟩:∃ x,(decide ((nv:Int) < (t.tree.vars.length:Int)))=x:=⟨_,rfl⟩;have Y:Yv a30 o35_6_3 w26 (.bool b31):=by rw [← hb31];unfold Yv o35_6_3;go_simp
  refine swe_ rfl Y F fun a32 e F h22=>?_;clear Y;have⟨h19,h20,h21⟩:=s3_ e h19 h20 h21;clear e;refine st_end ?_;have⟨h1,h2,h4,h5,h6,h7⟩:=F.o6 h1 h2 h4 h5 h6 h7;replace h8:=F.of h8;have R:=F.r;clear F;cases b31 with
  | false =>
   have fb31:=hb31;clear hb31;simp only [dd_] at fb31;refine wp_cond_false (x:=Code.skip) (y:=c35_24) (eval_slot h22) ?_;refine wp_exit ?_;refine wp_seq (x:=c35_55) (y:=c35_62) ?_;refine wp_seq (x:=c35_56) (y:=c35_57) ?_;refine reg_in (l:=[0,1,2,3,4,5,6,7,8]) rfl ?_;have F:=fe_ R;clear R;refine sw_ rfl (ym_ rfl (F.of h7)) F fun a33 F h49=>?_;have HFI:=Lib.hid (ra_fine (by omega) HNB.out);have HNS:Hid (1 ≤ t.ns∧t.ns ≤ 2000):=Lib.hid ⟨by rw [t.ns_eq];split <;> omega,(right_of.1 HR.out).2.1⟩;have Y:Yv a33 o35_14_1 w26 (.int .i64 ((t.ns:Int) * 8)):=by have hns:=HNS.out;have hw8:IntKind.i64.wrap ((t.ns:Int) * 8)=(t.ns:Int) * 8:=(by rw [IntKind.wrap_i64];omega);unfold Yv o35_14_1;go_simp
   refine sw_ rfl Y F fun a34 F h50=>?_;clear Y h49;have Y:Yv a34 o35_14_2 w26 (.bool true):=by have hns:=HNS.out;have hp8:(0:Int) < (t.ns:Int) * 8:=(by omega);unfold Yv o35_14_2;go_simp
   refine sw_ rfl Y F fun a35 F h51=>?_;clear Y h50;refine sw_ rfl (ym_ rfl h51) F fun a36 F h52=>?_;clear h51;refine st_val rfl rfl (wanted_is (j:=3) (d:=52) rfl rfl h52 rfl) (yl4_ rfl (F.of h2) B1) fun a37 e=>?_;have h53:=pt_ F e;replace F:=pu_ F e;replace h52:=so_ e h52;clear e;refine st_val rfl rfl (wanted_is (j:=3) (d:=52) rfl rfl h52 rfl) (ym_ rfl (F.of h1)) fun a38 e=>?_;have h54:=pt_ F e;replace F:=pu_ F e;have⟨h52,h53⟩:=s2_ e h52 h53;clear e;refine st_call rfl rfl (wanted_is (j:=3) (d:=52) rfl rfl h52 rfl) (yc2_ en35_69 rfl h53 h54) ((refgrown_any bs (Nat.le_trans HLB.out (by decide)) t (right_of.1 HR.out).2.1 w26 a c sa sc (HT.out.on K1) (bsl_on HS.out K1)).mono ?_);rintro e9 w39 ⟨rfl,kk⟩;replace K1:=keep_onto K1 kk;replace KV:=keep_onto KV kk;replace B1:=blk_on B1 kk;replace B4:=blk_on B4 kk;clear kk;refine ⟨_,rfl,fun a40 e=>?_⟩;clear h53 h54;have h55:=pt_ F e;replace F:=pu_ F e;replace h52:=so_ e h52;clear e;obtain ⟨b41,hb41⟩:∃ x,(decide ((2000:Int) < ((grT (grL bs) t:Nat):Int)))=x:=⟨_,rfl⟩;have Y:Yv a40 o35_14_7 w39 (.bool b41):=by rw [← hb41];unfold Yv o35_14_7;go_simp
   refine st_val rfl rfl (wanted_is (j:=3) (d:=52) rfl rfl h52 rfl) Y fun a42 e=>?_;clear Y;clear h55;have h56:=pt_ F e;replace F:=pu_ F e;replace h52:=so_ e h52;clear e;have Y:Yv a42 o35_14_8 w39 (.bool b41):=by unfold Yv o35_14_8;go_simp
   refine sw_ rfl Y F fun a43 F h57=>?_;clear Y h52 h56;refine st_end ?_;have⟨h1,h2,h4,h5⟩:=F.o4 h1 h2 h4 h5;replace h6:=F.of h6;clear h7;have⟨h8,h19,h20,h21⟩:=F.o4 h8 h19 h20 h21;replace h22:=F.of h22;have R:=F.r;clear F;cases b41 with
   | false =>
    have fb41:=hb41;clear hb41;simp only [dd_] at fb41;refine wp_cond_false (x:=c35_58) (y:=Code.skip) (eval_slot h57) ?_;refine wp_skip ?_;refine wp_seq (x:=c35_63) (y:=c35_64) ?_;refine reg_in (l:=[0,1,2,3,4]) rfl ?_;have F:=fe_ R;clear R;refine sw_ rfl (yl4_ rfl (F.of h2) B1) F fun a44 F h59=>?_;refine swe_ rfl (ym_ rfl (F.of h1)) F fun a45 e F h60=>?_;replace h59:=so_ e h59;clear e;have HGR:Hid (¬ 2000 < grT (grL bs) t):=Lib.hid (by omega);obtain ⟨LO,hLO⟩:∃ q,q=w39.heap.size:=⟨_,rfl⟩;have Fb1:b1 < LO:=by rw [hLO];exact B1.lt
    have Fb4:b4 < LO:=by rw [hLO];exact B4.lt
    have hcall:=refapply_any bs (Nat.le_trans HLB.out (by decide)) HBN.out t (right_of.1 HR.out).2.1 w39 a c sa sc (HT.out.on K1) (bsl_on HS.out K1);refine st_call rfl rfl (wanted_free rfl) (yc2_ en35_70 rfl h59 h60) ((hcall).mono ?_);rintro e9 w46 ⟨a9,c9,rfl,hfr,kk⟩;replace K1:=keep_onto K1 kk;replace KV:=keep_onto KV kk;replace B1:=blk_on B1 kk;replace B4:=blk_on B4 kk;clear kk;clear hcall;rw [← hLO] at hfr;clear hLO;have HFC:=Lib.hid hfr;clear hfr;have KX:=Keep.refl (fun g=>LO ≤ g∧g < w46.heap.size) w46;refine ⟨_,rfl,fun a47 e=>?_⟩;clear h59 h60;have h61:=pt_ F e;replace F:=pu_ F e;clear e;have Y:(execOp a47.eval o35_16_3).run Try.prog w46=.ok (.value (.pointer (some ⟨w46.heap.size,0,none⟩))) (w46.alloc (.cells #[.int .i64 0,.string (⟨#[]⟩),.int .i64 0,.slice none 0 0] 24)):=by unfold o35_16_3;go_simp
    have B48:=Blk.new w46 24 #[.int .i64 0,.string (⟨#[]⟩),.int .i64 0,.slice none 0 0];obtain ⟨w49,hw⟩:∃ x,x=w46.alloc (.cells #[.int .i64 0,.string (⟨#[]⟩),.int .i64 0,.slice none 0 0] 24):=⟨_,rfl⟩;rw [← hw] at Y B48;obtain ⟨b48,hb⟩:∃ x,x=w46.heap.size:=⟨_,rfl⟩;rw [← hb] at Y B48;have Nb1_b48:=nb_ hb B1;replace B1:=ba_ hw B1;have Nb4_b48:=nb_ hb B4;replace B4:=ba_ hw B4;have LK1_b48:=lk_ hb K1;replace K1:=ka_ hw K1;have LKV_b48:=lk_ hb KV;replace KV:=ka_ hw KV;have LKX_b48:=lk_ hb KX;replace KX:=ka_ hw KX;clear hw hb;refine swe_ rfl Y F fun a50 e F h10=>?_;clear Y;replace h61:=so_ e h61;clear e;obtain ⟨w51,Y,hk,hB⟩:=ys4_ (o:=o35_16_4) rfl h10 h61 B48;replace K1:=kx_ hk K1 (Nat.not_lt.2 LK1_b48);replace KV:=kx_ hk KV (Nat.not_lt.2 LKV_b48);replace KX:=kx_ hk KX (fun hx=>absurd hx.2 (Nat.not_lt.2 LKX_b48));replace B1:=bx_ hk B1 Nb1_b48;replace B4:=bx_ hk B4 Nb4_b48;clear B48;have B48:=hB;clear hB hk;refine st_skip rfl rfl (wanted_free rfl) Y ?_;clear Y;refine st_end ?_;replace h1:=F.of h1;clear h2;have⟨h4,h5,h6,h8,h19,h20,h21,h22⟩:=F.o8 h4 h5 h6 h8 h19 h20 h21 h22;clear h57;clear h61;have R:=F.r;clear F;refine wp_seq (x:=c35_65) (y:=c35_72) ?_;refine wp_seq (x:=c35_66) (y:=c35_67) ?_;refine reg_in (l:=[0,1,2]) rfl ?_;have F:=fe_ R;clear R;refine sw_ rfl (yl4_ rfl (F.of h10) B48) F fun a52 F h62=>?_;have Y:(execOp a52.eval o35_17_1).run Try.prog w51=.ok (.enter 53 #[.agg #[.int .i64 ((mapT (apL bs) t).k),.string (str (mapT (apL bs) t).nm),.int .i64 ((mapT (apL bs) t).i),.slice a9 (mapT (apL bs) t).args.length c9],.int .i64 101]) w51:=by unfold o35_17_1;go_simp
    refine st_call rfl rfl (wanted_free rfl) Y ((refdepth_sx (m:=101) (z:=((rd 101 (mapT (apL bs) t):Nat):Int)) (fr_at2 HFC.out KX) (by decide) (by rfl) rfl).mono ?_);clear Y;rintro e9 w53 ⟨rfl,kk⟩;replace K1:=keep_onto K1 kk;replace KV:=keep_onto KV kk;replace KX:=KX.trans kk.all;replace B1:=blk_on B1 kk;replace B4:=blk_on B4 kk;replace B48:=blk_on B48 kk;clear kk;refine ⟨_,rfl,fun a54 e=>?_⟩;clear h62;have h63:=pt_ F e;replace F:=pu_ F e;clear e;obtain ⟨b55,hb55⟩:∃ x,(decide ((100:Int) < ((rd 101 (mapT (apL bs) t):Nat):Int)))=x:=⟨_,rfl⟩;have Y:Yv a54 o35_17_2 w53 (.bool b55):=by rw [← hb55];unfold Yv o35_17_2;go_simp
    refine sw_ rfl Y F fun a56 F h64=>?_;clear Y h63;refine st_end ?_;have⟨h1,h4,h5,h6,h8,h10,h19,h20⟩:=F.o8 h1 h4 h5 h6 h8 h10 h19 h20;have⟨h21,h22⟩:=F.o2 h21 h22;have R:=F.r;clear F;cases b55 with
    | false =>
     have fb55:=hb55;clear hb55;simp only [dd_] at fb55;refine wp_cond_false (x:=c35_68) (y:=Code.skip) (eval_slot h64) ?_;refine wp_skip ?_;refine wp_seq (x:=c35_73) (y:=Code.ret) ?_;refine reg_in (l:=[0,1,2]) rfl ?_;have F:=fe_ R;clear R;refine sw_ rfl (yl4_ rfl (F.of h10) B48) F fun a57 F h66=>?_;obtain ⟨w58,Y,hk,hB⟩:=ys4_ (o:=o35_19_1) rfl (F.of h4) h66 B4;replace K1:=kx_ hk K1 (Nat.not_lt.2 LK1_b4);clear KV;replace KX:=kx_ hk KX (fun hx=>absurd hx.1 (Nat.not_le.2 Fb4));replace B1:=bx_ hk B1 Nb1_b4;replace B48:=bx_ hk B48 (Ne.symm Nb4_b48);clear B4;have B4:=hB;clear hB hk;refine st_skip rfl rfl (wanted_free rfl) Y ?_;clear Y;have Y:Yv a57 o35_19_2 w58 (.int .i64 0):=by unfold Yv o35_19_2;go_simp
     refine sw_ rfl Y F fun a59 F h5=>?_;clear Y h66;refine st_end ?_;have⟨h1,h4,h6,h8⟩:=F.o4 h1 h4 h6 h8;clear h10;have⟨h19,h20,h21,h22⟩:=F.o4 h19 h20 h21 h22;clear h64;have R:=F.r;clear F;refine wp_ret ?_;change bodyPost Try.prog Try.f10 (fun e w'=>∃ a' c',e=.returned (.tuple #[tv (raV t bs).1 a' c',.int .i64 (raV t bs).2])∧TmAt w'.heap.size w' (raV t bs).1 a' c'∧Keep (fun g=>g < W.heap.size) W w') .ret a59 w58;refine ret_cell_tmp (fn:=Try.f10) rfl R h4 h5 B4 ?_;exact fin_ra K1 (ra_ok HR.out HFI.out HGR.out (by omega)) (fr_at2 HFC.out KX)
    | true =>
     have fb55:=hb55;clear hb55;simp only [dd_] at fb55;refine wp_cond_true (x:=c35_68) (y:=Code.skip) (eval_slot h64) ?_;refine wp_seq (x:=c35_69) (y:=Code.ret) ?_;refine reg_in (l:=[0,1,2]) rfl ?_;have F:=fe_ R;clear R;have Y:Yv a56 o35_18_0 w53 (.agg #[.int .i64 0,.string (⟨#[]⟩),.int .i64 0,.slice none 0 0]):=by unfold Yv o35_18_0;go_simp
     refine sw_ rfl Y F fun a60 F h65=>?_;clear Y;obtain ⟨w61,Y,hk,hB⟩:=ys4_ (o:=o35_18_1) rfl (F.of h4) h65 B4;replace K1:=kx_ hk K1 (Nat.not_lt.2 LK1_b4);clear KV;replace KX:=kx_ hk KX (fun hx=>absurd hx.1 (Nat.not_le.2 Fb4));replace B1:=bx_ hk B1 Nb1_b4;replace B48:=bx_ hk B48 (Ne.symm Nb4_b48);clear B4;have B4:=hB;clear hB hk;refine st_skip rfl rfl (wanted_free rfl) Y ?_;clear Y;have Y:Yv a60 o35_18_2 w61 (.int .i64 2):=by unfold Yv o35_18_2;go_simp
     refine sw_ rfl Y F fun a62 F h5=>?_;clear Y h65;refine st_end ?_;have⟨h1,h4,h6,h8,h10,h19,h20,h21⟩:=F.o8 h1 h4 h6 h8 h10 h19 h20 h21;replace h22:=F.of h22;clear h64;have R:=F.r;clear F;refine wp_ret ?_;change bodyPost Try.prog Try.f10 (fun e w'=>∃ a' c',e=.returned (.tuple #[tv (raV t bs).1 a' c',.int .i64 (raV t bs).2])∧TmAt w'.heap.size w' (raV t bs).1 a' c'∧Keep (fun g=>g < W.heap.size) W w') .ret a62 w61;refine ret_cell_tmp (fn:=Try.f10) rfl R h4 h5 B4 ?_
     first | exact fin_ra0 K1 (ra_deep HR.out HFI.out HGR.out (by omega)) | exact fin_ra0 K1 (ra_long HR.out HFI.out (by omega))
   | true =>
    have fb41:=hb41;clear hb41;simp only [dd_] at fb41;refine wp_cond_true (x:=c35_58) (y:=Code.skip) (eval_slot h57) ?_;refine wp_seq (x:=c35_59) (y:=Code.ret) ?_;refine reg_in (l:=[0,1,2]) rfl ?_;have F:=fe_ R;clear R;have Y:Yv a43 o35_15_0 w39 (.agg #[.int .i64 0,.string (⟨#[]⟩),.int .i64 0,.slice none 0 0]):=by unfold Yv o35_15_0;go_simp
    refine sw_ rfl Y F fun a63 F h58=>?_;clear Y;obtain ⟨w64,Y,hk,hB⟩:=ys4_ (o:=o35_15_1) rfl (F.of h4) h58 B4;replace K1:=kx_ hk K1 (Nat.not_lt.2 LK1_b4);clear KV;replace B1:=bx_ hk B1 Nb1_b4;clear B4;have B4:=hB;clear hB hk;refine st_skip rfl rfl (wanted_free rfl) Y ?_;clear Y;have Y:Yv a63 o35_15_2 w64 (.int .i64 2):=by unfold Yv o35_15_2;go_simp
    refine sw_ rfl Y F fun a65 F h5=>?_;clear Y h58;refine st_end ?_;have⟨h1,h2,h4,h6,h8,h19,h20,h21⟩:=F.o8 h1 h2 h4 h6 h8 h19 h20 h21;replace h22:=F.of h22;clear h57;have R:=F.r;clear F;refine wp_ret ?_;change bodyPost Try.prog Try.f10 (fun e w'=>∃ a' c',e=.returned (.tuple #[tv (raV t bs).1 a' c',.int .i64 (raV t bs).2])∧TmAt w'.heap.size w' (raV t bs).1 a' c'∧Keep (fun g=>g < W.heap.size) W w') .ret a65 w64;refine ret_cell_tmp (fn:=Try.f10) rfl R h4 h5 B4 ?_
    first | exact fin_ra0 K1 (ra_deep HR.out HFI.out HGR.out (by omega)) | exact fin_ra0 K1 (ra_long HR.out HFI.out (by omega))
  | true =>
   have fb31:=hb31;clear hb31;simp only [dd_] at fb31;refine wp_cond_true (x:=Code.skip) (y:=c35_24) (eval_slot h22) ?_;refine wp_skip ?_;refine wp_seq (x:=c35_26) (y:=c35_53) ?_;refine wp_block (id:=1) (c:=c35_27) ?_;refine wp_seq (x:=c35_28) (y:=c35_29) ?_;refine reg_in (l:=[0]) rfl ?_;have F:=fe_ R;clear R;have Y:Yv a32 o35_8_0 w26 (.int .i64 0):=by unfold Yv o35_8_0;go_simp
   refine sw_ rfl Y F fun a66 F h9=>?_;clear Y;refine st_end ?_;have⟨h1,h2,h4,h5,h6,h7,h8,h19⟩:=F.o8 h1 h2 h4 h5 h6 h7 h8 h19;have⟨h20,h21,h22⟩:=F.o3 h20 h21 h22;have R:=F.r;clear F;refine wp_block (id:=2) (c:=c35_30) ?_;have hn9:nv < t.tree.vars.length:=by omega
   obtain ⟨z,hz⟩:∃ q,t.tree.vars.getD nv 0=q:=⟨_,rfl⟩;have HZ:=Lib.hid hz;clear hz;refine wp_loop_ghost (c:=c35_31) (fun n fX wX=>∃ i:Nat,n=bs.length - i∧FrS 67 fX∧fX.tmps[1]? = some (.slice sa bs.length sc)∧fX.tmps[2]? = some (.pointer (some ⟨b1,0,none⟩))∧fX.tmps[4]? = some (.pointer (some ⟨b4,0,none⟩))∧fX.tmps[5]? = some (.int .i64 0)∧fX.tmps[6]? = some (.slice ua t.tree.vars.length uc)∧fX.tmps[7]? = some (.int .i64 (t.ns:Int))∧fX.tmps[8]? = some (.int .i64 (nv:Int))∧fX.tmps[9]? = some (.int .i64 (i:Int))∧fX.tmps[19]? = some (.int .i64 (nv:Int))∧fX.tmps[20]? = some (.slice ua t.tree.vars.length uc)∧fX.tmps[21]? = some (.int .i64 t.tree.vars.length)∧fX.tmps[22]? = some (.bool true)∧Keep (fun g=>g < W.heap.size) W wX∧Keep (fun g=>g < w17.heap.size) w17 wX∧Blk wX b1 24 #[.int .i64 t.k,.string (str t.nm),.int .i64 t.i,.slice a t.args.length c]∧Blk wX b4 24 #[.int .i64 0,.string (⟨#[]⟩),.int .i64 0,.slice none 0 0]∧i ≤ bs.length∧Hid (∀ r ∈ bs.take i,r.1 ≠ z)) (bs.length - 0) ⟨0,rfl,R,h1,h2,h4,h5,h6,h7,h8,h9,h19,h20,h21,h22,K1,KV,B1,B4,Nat.zero_le _,(Lib.hid fun r hr=>by simp at hr)⟩ ?_;clear R h1 h2 h4 h5 h6 h7 h8 h9 h19 h20 h21 h22 K1 KV B1 B4;rintro n69 a67 w68 ⟨i,rfl,R,h1,h2,h4,h5,h6,h7,h8,h9,h19,h20,h21,h22,K1,KV,B1,B4,hi,HNO⟩;refine wp_seq (x:=c35_32) (y:=c35_37) ?_;refine wp_seq (x:=c35_33) (y:=c35_34) ?_;refine reg_in (l:=[0,1,2,3]) rfl ?_;have F:=fe_ R;clear R;refine sw_ rfl (ym_ rfl (F.of h9)) F fun a70 F h25=>?_;refine swe_ rfl (ym_ rfl (F.of h1)) F fun a71 e F h26=>?_;replace h25:=so_ e h25;clear e;have Y:Yv a71 o35_9_2 w68 (.int .i64 bs.length):=by unfold Yv o35_9_2;go_simp
   refine swe_ rfl Y F fun a72 e F h27=>?_;clear Y;have⟨h25,h26⟩:=s2_ e h25 h26;clear e;obtain ⟨b73,hb73⟩:∃ x,(decide ((i:Int) < (bs.length:Int)))=x:=⟨_,rfl⟩;have Y:Yv a72 o35_9_3 w68 (.bool b73):=by rw [← hb73];unfold Yv o35_9_3;go_simp
   refine swe_ rfl Y F fun a74 e F h28=>?_;clear Y;have⟨h25,h26,h27⟩:=s3_ e h25 h26 h27;clear e;refine st_end ?_;have⟨h1,h2,h4,h5,h6,h7,h8,h9⟩:=F.o8 h1 h2 h4 h5 h6 h7 h8 h9;have⟨h19,h20,h21,h22⟩:=F.o4 h19 h20 h21 h22;have R:=F.r;clear F;cases b73 with
   | false =>
    have fb73:=hb73;clear hb73;simp only [dd_] at fb73;refine wp_cond_false (x:=Code.skip) (y:=c35_36) (eval_slot h28) ?_;refine wp_exit ?_;change (c35_53).wp _ _ _ _;refine reg_in (l:=[0,1,2]) rfl ?_;have F:=fe_ R;clear R;refine sw_ rfl (ym_ rfl (F.of h8)) F fun a75 F h23=>?_;have HBD:Hid (badB bs z=false):=Lib.hid (by first | exact bad_none HNO.out (by omega) | exact bad_at HQ.out (by omega) HNO.out HRQ.out);have Y:Yv a75 o35_7_1 w68 (.int .i64 ((nv:Int) + 1)):=by have hwj:IntKind.i64.wrap ((nv:Int) + 1)=(nv:Int) + 1:=(by rw [IntKind.wrap_i64];omega);unfold Yv o35_7_1;go_simp
    refine swe_ rfl Y F fun a76 e F h24=>?_;clear Y;replace h23:=so_ e h23;clear e;refine swe_ rfl (ya_ rfl h24) F fun a77 e F h8=>?_;have⟨h23,h24⟩:=s2_ e h23 h24;clear e;refine st_end ?_;have⟨h1,h2,h4,h5,h6,h7,h9,h19⟩:=F.o8 h1 h2 h4 h5 h6 h7 h9 h19;have⟨h20,h21,h22,h25,h26,h27⟩:=F.o6 h20 h21 h22 h25 h26 h27;replace h28:=F.of h28;have R:=F.r;clear F;exact ⟨_,by omega,nv + 1,rfl,R,h1,h2,h4,h5,h6,h7,h8,K1,KV,B1,B4,(by omega),(Lib.hid (bad_more HNB.out hn9 HZ.out HBD.out))⟩
   | true =>
    have fb73:=hb73;clear hb73;simp only [dd_] at fb73;refine wp_cond_true (x:=Code.skip) (y:=c35_36) (eval_slot h28) ?_;refine wp_skip ?_;refine wp_seq (x:=c35_38) (y:=c35_52) ?_;refine wp_block (id:=3) (c:=c35_39) ?_;refine wp_seq (x:=c35_40) (y:=c35_41) ?_;change (Code.region 11 O35_11 true).wp _ _ _ _;have D80:=B1;have D81:=B4;have K78:=(Keep.refl (fun g=>g < w68.heap.size) w68).drew;have EK1:=K1;have EKV:=KV;refine dr_in (S:=(fun W=>Keep (fun g=>g < w68.heap.size) w68 W)) (n:=10) (l:=lb_ 10 0) (by kernel_rfl) K78 rfl (by kernel_rfl) ?_;replace K1:=K1.drew;replace KV:=KV.drew;replace B1:=B1.drew;replace B4:=B4.drew;generalize w68.drew=w79 at K78 K1 KV B1 B4 ⊢;have F:=fe_ R;clear R;refine dt_ (i:=0) (l':=(lb_ 10 1)) rfl rfl ns35_11 (wanted_free rfl) K78 (fun _ _=>(ym_ rfl (F.of h1))) fun a82 e=>?_;have h31:=pt_ F e;replace F:=pu_ F e;clear e;refine dt_ (i:=1) (l':=(lb_ 10 3)) rfl rfl ns35_11 (wanted_free rfl) K78 (fun _ _=>(ym_ rfl (F.of h9))) fun a83 e=>?_;have h32:=pt_ F e;replace F:=pu_ F e;replace h31:=so_ e h31;clear e;refine dt_ (i:=5) (l':=(lb_ 10 35)) rfl rfl ns35_11 (wanted_free rfl) K78 (fun _ _=>(ym_ rfl (F.of h6))) fun a84 e=>?_;have h36:=pt_ F e;replace F:=pu_ F e;have⟨h31,h32⟩:=s2_ e h31 h32;clear e;refine dt_ (i:=6) (l':=(lb_ 10 99)) rfl rfl ns35_11 (wanted_free rfl) K78 (fun _ _=>(ym_ rfl (F.of h8))) fun a85 e=>?_;have h37:=pt_ F e;replace F:=pu_ F e;have⟨h31,h32,h36⟩:=s3_ e h31 h32 h36;clear e;refine dr_two (i:=2) (k:=7) (fuel:=5) (by kernel_rfl) ?_ ?_
    ·
     obtain ⟨q,hq⟩:∃ q,bs[i]? = some q:=⟨_,List.getElem?_eq_getElem (by omega)⟩;obtain ⟨bQ,oQ,hsQ,-⟩:=bsl_addr HS.out (show i < bs.length by omega);have hltQ:(i:Int) < (bs.length:Int):=by omega
     have HQ:=Lib.hid hq;clear hq;have HSQ:=Lib.hid hsQ;clear hsQ;have Y:Yv a85 o35_11_2 w79 (.pointer (some ⟨bQ,oQ + i * 5,none⟩)):=by have hsQ:=HSQ.out;unfold Yv o35_11_2;go_simp
     refine dr_val (l':=(lb_ 10 103)) rfl rfl (by kernel_rfl) (wanted_free rfl) Y K78 fun a86 e=>?_;clear Y;have h33:=pt_ F e;replace F:=pu_ F e;have⟨h31,h32,h36,h37⟩:=s4_ e h31 h32 h36 h37;clear e;have Y:∀ W,Keep (fun g=>g < w68.heap.size) w68 W→(execOp a86.eval o35_11_3).run Try.prog W=.ok (.value (.pointer (some ⟨bQ,oQ + i * 5,none⟩))) W:=by intro W7 hS;unfold o35_11_3;go_simp
     refine dt_ (i:=3) (l':=(lb_ 10 111)) rfl rfl ns35_11 (wanted_free rfl) K78 Y fun a87 e=>?_;clear Y;have h34:=pt_ F e;replace F:=pu_ F e;have⟨h31,h32,h33,h36⟩:=s4_ e h31 h32 h33 h36;replace h37:=so_ e h37;clear e;have Y:∀ W,Keep (fun g=>g < w68.heap.size) w68 W→(execOp a87.eval o35_11_4).run Try.prog W=.ok (.value (.int .i64 q.1)) W:=by intro W7 hS;obtain ⟨⟨c0,c1,c2,c3,c4⟩,-⟩:=bsl_at (bsl_on HS.out (keep_onto EK1 hS)) HSQ.out HQ.out;unfold o35_11_4;go_simp
     refine dt_ (i:=4) (l':=(lb_ 10 127)) rfl rfl ns35_11 (wanted_free rfl) K78 Y fun a88 e=>?_;clear Y;have h35:=pt_ F e;replace F:=pu_ F e;have⟨h31,h32,h33,h34,h36,h37⟩:=s6_ e h31 h32 h33 h34 h36 h37;clear e;refine dr_only (i:=7) (fuel:=2) (by kernel_rfl) ?_;obtain ⟨gA,oA,hg,-,hcA⟩:=HLG.out nv hn9;have HA:=Lib.hid hg;clear hg hcA;have hltA:(nv:Int) < (t.tree.vars.length:Int):=by omega
     have Y:Yv a88 o35_11_7 w79 (.pointer (some ⟨gA,oA + nv,none⟩)):=by have hA:=HA.out;unfold Yv o35_11_7;go_simp
     refine dr_val (l':=(lb_ 10 255)) rfl rfl (by kernel_rfl) (wanted_free rfl) Y K78 fun a89 e=>?_;clear Y;have h38:=pt_ F e;replace F:=pu_ F e;have⟨h31,h32,h33,h34,h35,h36⟩:=s6_ e h31 h32 h33 h34 h35 h36;replace h37:=so_ e h37;clear e;have Y:∀ W,Keep (fun g=>g < w68.heap.size) w68 W→(execOp a89.eval o35_11_8).run Try.prog W=.ok (.value (.int .i64 z)) W:=by intro W7 hS;obtain ⟨g9,o9,hg9,hl9,hc9⟩:=longs_on HLG.out (keep_onto EKV hS) nv hn9;rw [HZ.out] at hc9;rw [HA.out] at hg9;cases hg9;unfold o35_11_8;go_simp
     refine dt_ (i:=8) (l':=(lb_ 10 511)) rfl rfl ns35_11 (wanted_free rfl) K78 Y fun a90 e=>?_;clear Y;have h39:=pt_ F e;replace F:=pu_ F e;have⟨h31,h32,h33,h34,h35,h36,h37,h38⟩:=s8_ e h31 h32 h33 h34 h35 h36 h37 h38;clear e;obtain ⟨b91,hb91⟩:∃ x,(((q.1:Int) == (z:Int)))=x:=⟨_,rfl⟩;have Y:∀ W,Keep (fun g=>g < w68.heap.size) w68 W→(execOp a90.eval o35_11_9).run Try.prog W=.ok (.value (.bool b91)) W:=by intro W7 hS;rw [← hb91];unfold o35_11_9;go_simp
     refine dt_ (i:=9) (l':=(lb_ 10 1023)) rfl rfl ns35_11 (wanted_free rfl) K78 Y fun a92 e=>?_;clear Y;have h40:=pt_ F e;replace F:=pu_ F e;have⟨h31,h32,h33,h34,h35,h36,h37,h38⟩:=s8_ e h31 h32 h33 h34 h35 h36 h37 h38;replace h39:=so_ e h39;clear e;refine dr_end (by kernel_rfl) ?_;have⟨h1,h2,h4,h5,h6,h7,h8,h9⟩:=F.o8 h1 h2 h4 h5 h6 h7 h8 h9;have⟨h19,h20,h21,h22,h25,h26,h27,h28⟩:=F.o8 h19 h20 h21 h22 h25 h26 h27 h28;have R:=F.r;clear F;clear K78 EK1 EKV D80 D81;cases b91 with
     | false =>
      have fb91:=hb91;clear hb91;simp only [dd_] at fb91;refine wp_cond_false (x:=c35_42) (y:=Code.skip) (eval_slot h40) ?_;refine wp_skip ?_;change (c35_52).wp _ _ _ _;refine reg_in (l:=[0,1,2]) rfl ?_;have F:=fe_ R;clear R;refine sw_ rfl (ym_ rfl (F.of h9)) F fun a93 F h29=>?_;have Y:Yv a93 o35_10_1 w79 (.int .i64 ((i:Int) + 1)):=by have hwj:IntKind.i64.wrap ((i:Int) + 1)=(i:Int) + 1:=(by rw [IntKind.wrap_i64];omega);unfold Yv o35_10_1;go_simp
      refine swe_ rfl Y F fun a94 e F h30=>?_;clear Y;replace h29:=so_ e h29;clear e;refine swe_ rfl (ya_ rfl h30) F fun a95 e F h9=>?_;have⟨h29,h30⟩:=s2_ e h29 h30;clear e;refine st_end ?_;have⟨h1,h2,h4,h5,h6,h7,h8,h19⟩:=F.o8 h1 h2 h4 h5 h6 h7 h8 h19;have⟨h20,h21,h22,h25,h26,h27,h28,h31⟩:=F.o8 h20 h21 h22 h25 h26 h27 h28 h31;have⟨h32,h33,h34,h35,h36,h37,h38,h39⟩:=F.o8 h32 h33 h34 h35 h36 h37 h38 h39;replace h40:=F.of h40;have R:=F.r;clear F;exact ⟨_,by omega,i + 1,rfl,R,h1,h2,h4,h5,h6,h7,h8,h9,h19,h20,h21,h22,K1,KV,B1,B4,(by omega),(Lib.hid (no_more HNO.out HQ.out (by omega)))⟩
     | true =>
      have fb91:=hb91;clear hb91;simp only [dd_] at fb91;refine wp_cond_true (x:=c35_42) (y:=Code.skip) (eval_slot h40) ?_;refine wp_seq (x:=c35_43) (y:=c35_50) ?_;refine wp_seq (x:=c35_44) (y:=c35_45) ?_;refine reg_in (l:=[0,1,2,3,4,5,6]) rfl ?_;have F:=fe_ R;clear R;refine sw_ rfl (ym_ rfl (F.of h1)) F fun a96 F h41=>?_;refine swe_ rfl (ym_ rfl (F.of h9)) F fun a97 e F h42=>?_;replace h41:=so_ e h41;clear e;have Y:Yv a97 o35_12_2 w79 (.pointer (some ⟨bQ,oQ + i * 5,none⟩)):=by have hsQ:=HSQ.out;unfold Yv o35_12_2;go_simp
      refine swe_ rfl Y F fun a98 e F h43=>?_;clear Y;have⟨h41,h42⟩:=s2_ e h41 h42;clear e;have Y:Yv a98 o35_12_3 w79 (.pointer (some ⟨bQ,oQ + i * 5 + 1,none⟩)):=by unfold Yv o35_12_3;go_simp
      refine swe_ rfl Y F fun a99 e F h44=>?_;clear Y;have⟨h41,h42,h43⟩:=s3_ e h41 h42 h43;clear e;have Y:Yv a99 o35_12_4 w79 (.agg #[.int .i64 q.2.1.k,.string (str q.2.1.nm),.int .i64 q.2.1.i,.slice q.2.2.1 q.2.1.args.length q.2.2.2]):=by obtain ⟨⟨c0,c1,c2,c3,c4⟩,-⟩:=bsl_at (bsl_on HS.out K1) HSQ.out HQ.out;have c2':=c2;have c3':=c3;have c4':=c4;rw [show oQ + i * 5 + 2=oQ + i * 5 + 1 + 1 from rfl] at c2;rw [show oQ + i * 5 + 3=oQ + i * 5 + 1 + 2 from rfl] at c3;rw [show oQ + i * 5 + 4=oQ + i * 5 + 1 + 3 from rfl] at c4;unfold Yv o35_12_4;go_simp
      refine swe_ rfl Y F fun a100 e F h45=>?_;clear Y;have⟨h41,h42,h43,h44⟩:=s4_ e h41 h42 h43 h44;clear e;have hcall:=refRight_any (bsl_at (bsl_on HS.out K1) HSQ.out HQ.out).2.2;obtain ⟨rq,hrq⟩:∃ z,q.2.1.right=z:=⟨_,rfl⟩;rw [hrq] at hcall;have HRQ:=Lib.hid hrq;clear hrq;refine st_call rfl rfl (wanted_free rfl) (yc1_ en35_14 rfl h45) ((hcall).mono ?_);rintro e9 w101 ⟨rfl,kk⟩;replace K1:=keep_onto K1 kk;replace KV:=keep_onto KV kk;replace B1:=blk_on B1 kk;replace B4:=blk_on B4 kk;clear kk;clear hcall;refine ⟨_,rfl,fun a102 e=>?_⟩;have h46:=pt_ F e;replace F:=pu_ F e;have⟨h41,h42,h43,h44⟩:=s4_ e h41 h42 h43 h44;replace h45:=so_ e h45;clear e;cases rq with
      | false =>
       have Y:Yv a102 o35_12_6 w101 (.bool true):=by unfold Yv o35_12_6;go_simp
       refine swe_ rfl Y F fun a103 e F h47=>?_;clear Y;have⟨h41,h42,h43,h44,h45,h46⟩:=s6_ e h41 h42 h43 h44 h45 h46;clear e;refine st_end ?_;have⟨h1,h2,h4,h5,h6,h7,h8,h9⟩:=F.o8 h1 h2 h4 h5 h6 h7 h8 h9;have⟨h19,h20,h21,h22,h25,h26,h27,h28⟩:=F.o8 h19 h20 h21 h22 h25 h26 h27 h28;have⟨h31,h32,h33,h34,h35,h36,h37,h38⟩:=F.o8 h31 h32 h33 h34 h35 h36 h37 h38;have⟨h39,h40⟩:=F.o2 h39 h40;have R:=F.r;clear F;refine wp_cond_true (x:=c35_46) (y:=Code.skip) (eval_slot h47) ?_;refine wp_seq (x:=c35_47) (y:=Code.ret) ?_;refine reg_in (l:=[0,1,2]) rfl ?_;have F:=fe_ R;clear R;have Y:Yv a103 o35_13_0 w101 (.agg #[.int .i64 0,.string (⟨#[]⟩),.int .i64 0,.slice none 0 0]):=by unfold Yv o35_13_0;go_simp
       refine sw_ rfl Y F fun a104 F h48=>?_;clear Y;obtain ⟨w105,Y,hk,hB⟩:=ys4_ (o:=o35_13_1) rfl (F.of h4) h48 B4;replace K1:=kx_ hk K1 (Nat.not_lt.2 LK1_b4);clear KV;replace B1:=bx_ hk B1 Nb1_b4;clear B4;have B4:=hB;clear hB hk;refine st_skip rfl rfl (wanted_free rfl) Y ?_;clear Y;have Y:Yv a104 o35_13_2 w105 (.int .i64 70):=by unfold Yv o35_13_2;go_simp
       refine swe_ rfl Y F fun a106 e F h5=>?_;clear Y;replace h48:=so_ e h48;clear e;refine st_end ?_;have⟨h1,h2,h4,h6,h7,h8,h9,h19⟩:=F.o8 h1 h2 h4 h6 h7 h8 h9 h19;have⟨h20,h21,h22,h25,h26,h27,h28,h31⟩:=F.o8 h20 h21 h22 h25 h26 h27 h28 h31;have⟨h32,h33,h34,h35,h36,h37,h38,h39⟩:=F.o8 h32 h33 h34 h35 h36 h37 h38 h39;have⟨h40,h41,h42,h43,h44,h45,h46,h47⟩:=F.o8 h40 h41 h42 h43 h44 h45 h46 h47;have R:=F.r;clear F;refine wp_ret ?_;change bodyPost Try.prog Try.f10 (fun e w'=>∃ a' c',e=.returned (.tuple #[tv (raV t bs).1 a' c',.int .i64 (raV t bs).2])∧TmAt w'.heap.size w' (raV t bs).1 a' c'∧Keep (fun g=>g < W.heap.size) W w') .ret a106 w105;refine ret_cell_tmp (fn:=Try.f10) rfl R h4 h5 B4 ?_
       first | exact fin_ra0 K1 (ra_wrong HR.out) | exact fin_ra0 K1 (ra_bad HR.out hn9 (by rw [HZ.out];exact bad_at HQ.out (by omega) HNO.out HRQ.out))
      | true =>
       have Y:Yv a102 o35_12_6 w101 (.bool false):=by unfold Yv o35_12_6;go_simp
       refine swe_ rfl Y F fun a107 e F h47=>?_;clear Y;have⟨h41,h42,h43,h44,h45,h46⟩:=s6_ e h41 h42 h43 h44 h45 h46;clear e;refine st_end ?_;have⟨h1,h2,h4,h5,h6,h7,h8,h9⟩:=F.o8 h1 h2 h4 h5 h6 h7 h8 h9;have⟨h19,h20,h21,h22,h25,h26,h27,h28⟩:=F.o8 h19 h20 h21 h22 h25 h26 h27 h28;have⟨h31,h32,h33,h34,h35,h36,h37,h38⟩:=F.o8 h31 h32 h33 h34 h35 h36 h37 h38;have⟨h39,h40⟩:=F.o2 h39 h40;have R:=F.r;clear F;refine wp_cond_false (x:=c35_46) (y:=Code.skip) (eval_slot h47) ?_;refine wp_skip ?_;refine wp_exit ?_;change (c35_53).wp _ _ _ _;refine reg_in (l:=[0,1,2]) rfl ?_;have F:=fe_ R;clear R;refine sw_ rfl (ym_ rfl (F.of h8)) F fun a108 F h23=>?_;have HBD:Hid (badB bs z=false):=Lib.hid (by first | exact bad_none HNO.out (by omega) | exact bad_at HQ.out (by omega) HNO.out HRQ.out);have Y:Yv a108 o35_7_1 w101 (.int .i64 ((nv:Int) + 1)):=by have hwj:IntKind.i64.wrap ((nv:Int) + 1)=(nv:Int) + 1:=(by rw [IntKind.wrap_i64];omega);unfold Yv o35_7_1;go_simp
       refine swe_ rfl Y F fun a109 e F h24=>?_;clear Y;replace h23:=so_ e h23;clear e;refine swe_ rfl (ya_ rfl h24) F fun a110 e F h8=>?_;have⟨h23,h24⟩:=s2_ e h23 h24;clear e;refine st_end ?_;have⟨h1,h2,h4,h5,h6,h7,h9,h19⟩:=F.o8 h1 h2 h4 h5 h6 h7 h9 h19;have⟨h20,h21,h22,h25,h26,h27,h28,h31⟩:=F.o8 h20 h21 h22 h25 h26 h27 h28 h31;have⟨h32,h33,h34,h35,h36,h37,h38,h39⟩:=F.o8 h32 h33 h34 h35 h36 h37 h38 h39;have⟨h40,h41,h42,h43,h44,h45,h46,h47⟩:=F.o8 h40 h41 h42 h43 h44 h45 h46 h47;have R:=F.r;clear F;exact ⟨_,by omega,nv + 1,rfl,R,h1,h2,h4,h5,h6,h7,h8,K1,KV,B1,B4,(by omega),(Lib.hid (bad_more HNB.out hn9 HZ.out HBD.out))⟩
    ·
     obtain ⟨gA,oA,hg,-,hcA⟩:=HLG.out nv hn9;have HA:=Lib.hid hg;clear hg hcA;have hltA:(nv:Int) < (t.tree.vars.length:Int):=by omega
     have Y:Yv a85 o35_11_7 w79 (.pointer (some ⟨gA,oA + nv,none⟩)):=by have hA:=HA.out;unfold Yv o35_11_7;go_simp
     refine dr_val (l':=(lb_ 10 227)) rfl rfl (by kernel_rfl) (wanted_free rfl) Y K78 fun a111 e=>?_;clear Y;have h38:=pt_ F e;replace F:=pu_ F e;have⟨h31,h32,h36,h37⟩:=s4_ e h31 h32 h36 h37;clear e;have Y:∀ W,Keep (fun g=>g < w68.heap.size) w68 W→(execOp a111.eval o35_11_8).run Try.prog W=.ok (.value (.int .i64 z)) W:=by intro W7 hS;obtain ⟨g9,o9,hg9,hl9,hc9⟩:=longs_on HLG.out (keep_onto EKV hS) nv hn9;rw [HZ.out] at hc9;rw [HA.out] at hg9;cases hg9;unfold o35_11_8;go_simp
     refine dt_ (i:=8) (l':=(lb_ 10 483)) rfl rfl ns35_11 (wanted_free rfl) K78 Y fun a112 e=>?_;clear Y;have h39:=pt_ F e;replace F:=pu_ F e;have⟨h31,h32,h36,h37⟩:=s4_ e h31 h32 h36 h37;replace h38:=so_ e h38;clear e;refine dr_only (i:=2) (fuel:=3) (by kernel_rfl) ?_;obtain ⟨q,hq⟩:∃ q,bs[i]? = some q:=⟨_,List.getElem?_eq_getElem (by omega)⟩;obtain ⟨bQ,oQ,hsQ,-⟩:=bsl_addr HS.out (show i < bs.length by omega);have hltQ:(i:Int) < (bs.length:Int):=by omega
     have HQ:=Lib.hid hq;clear hq;have HSQ:=Lib.hid hsQ;clear hsQ;have Y:Yv a112 o35_11_2 w79 (.pointer (some ⟨bQ,oQ + i * 5,none⟩)):=by have hsQ:=HSQ.out;unfold Yv o35_11_2;go_simp
     refine dr_val (l':=(lb_ 10 487)) rfl rfl (by kernel_rfl) (wanted_free rfl) Y K78 fun a113 e=>?_;clear Y;have h33:=pt_ F e;replace F:=pu_ F e;have⟨h31,h32,h36,h37,h38,h39⟩:=s6_ e h31 h32 h36 h37 h38 h39;clear e;have Y:∀ W,Keep (fun g=>g < w68.heap.size) w68 W→(execOp a113.eval o35_11_3).run Try.prog W=.ok (.value (.pointer (some ⟨bQ,oQ + i * 5,none⟩))) W:=by intro W7 hS;unfold o35_11_3;go_simp
     refine dt_ (i:=3) (l':=(lb_ 10 495)) rfl rfl ns35_11 (wanted_free rfl) K78 Y fun a114 e=>?_;clear Y;have h34:=pt_ F e;replace F:=pu_ F e;have⟨h31,h32,h33,h36,h37,h38⟩:=s6_ e h31 h32 h33 h36 h37 h38;replace h39:=so_ e h39;clear e;have Y:∀ W,Keep (fun g=>g < w68.heap.size) w68 W→(execOp a114.eval o35_11_4).run Try.prog W=.ok (.value (.int .i64 q.1)) W:=by intro W7 hS;obtain ⟨⟨c0,c1,c2,c3,c4⟩,-⟩:=bsl_at (bsl_on HS.out (keep_onto EK1 hS)) HSQ.out HQ.out;unfold o35_11_4;go_simp
     refine dt_ (i:=4) (l':=(lb_ 10 511)) rfl rfl ns35_11 (wanted_free rfl) K78 Y fun a115 e=>?_;clear Y;have h35:=pt_ F e;replace F:=pu_ F e;have⟨h31,h32,h33,h34,h36,h37,h38,h39⟩:=s8_ e h31 h32 h33 h34 h36 h37 h38 h39;clear e;obtain ⟨b116,hb116⟩:∃ x,(((q.1:Int) == (z:Int)))=x:=⟨_,rfl⟩;have Y:∀ W,Keep (fun g=>g < w68.heap.size) w68 W→(execOp a115.eval o35_11_9).run Try.prog W=.ok (.value (.bool b116)) W:=by intro W7 hS;rw [← hb116];unfold o35_11_9;go_simp
     refine dt_ (i:=9) (l':=(lb_ 10 1023)) rfl rfl ns35_11 (wanted_free rfl) K78 Y fun a117 e=>?_;clear Y;have h40:=pt_ F e;replace F:=pu_ F e;have⟨h31,h32,h33,h34,h35,h36,h37,h38⟩:=s8_ e h31 h32 h33 h34 h35 h36 h37 h38;replace h39:=so_ e h39;clear e;refine dr_end (by kernel_rfl) ?_;have⟨h1,h2,h4,h5,h6,h7,h8,h9⟩:=F.o8 h1 h2 h4 h5 h6 h7 h8 h9;have⟨h19,h20,h21,h22,h25,h26,h27,h28⟩:=F.o8 h19 h20 h21 h22 h25 h26 h27 h28;have R:=F.r;clear F;clear K78 EK1 EKV D80 D81;cases b116 with
     | false =>
      have fb116:=hb116;clear hb116;simp only [dd_] at fb116;refine wp_cond_false (x:=c35_42) (y:=Code.skip) (eval_slot h40) ?_;refine wp_skip ?_;change (c35_52).wp _ _ _ _;refine reg_in (l:=[0,1,2]) rfl ?_;have F:=fe_ R;clear R;refine sw_ rfl (ym_ rfl (F.of h9)) F fun a118 F h29=>?_;have Y:Yv a118 o35_10_1 w79 (.int .i64 ((i:Int) + 1)):=by have hwj:IntKind.i64.wrap ((i:Int) + 1)=(i:Int) + 1:=(by rw [IntKind.wrap_i64];omega);unfold Yv o35_10_1;go_simp
      refine swe_ rfl Y F fun a119 e F h30=>?_;clear Y;replace h29:=so_ e h29;clear e;refine swe_ rfl (ya_ rfl h30) F fun a120 e F h9=>?_;have⟨h29,h30⟩:=s2_ e h29 h30;clear e;refine st_end ?_;have⟨h1,h2,h4,h5,h6,h7,h8,h19⟩:=F.o8 h1 h2 h4 h5 h6 h7 h8 h19;have⟨h20,h21,h22,h25,h26,h27,h28,h31⟩:=F.o8 h20 h21 h22 h25 h26 h27 h28 h31;have⟨h32,h33,h34,h35,h36,h37,h38,h39⟩:=F.o8 h32 h33 h34 h35 h36 h37 h38 h39;replace h40:=F.of h40;have R:=F.r;clear F;exact ⟨_,by omega,i + 1,rfl,R,h1,h2,h4,h5,h6,h7,h8,h9,h19,h20,h21,h22,K1,KV,B1,B4,(by omega),(Lib.hid (no_more HNO.out HQ.out (by omega)))⟩
     | true =>
      have fb116:=hb116;clear hb116;simp only [dd_] at fb116;refine wp_cond_true (x:=c35_42) (y:=Code.skip) (eval_slot h40) ?_;refine wp_seq (x:=c35_43) (y:=c35_50) ?_;refine wp_seq (x:=c35_44) (y:=c35_45) ?_;refine reg_in (l:=[0,1,2,3,4,5,6]) rfl ?_;have F:=fe_ R;clear R;refine sw_ rfl (ym_ rfl (F.of h1)) F fun a121 F h41=>?_;refine swe_ rfl (ym_ rfl (F.of h9)) F fun a122 e F h42=>?_;replace h41:=so_ e h41;clear e;have Y:Yv a122 o35_12_2 w79 (.pointer (some ⟨bQ,oQ + i * 5,none⟩)):=by have hsQ:=HSQ.out;unfold Yv o35_12_2;go_simp
      refine swe_ rfl Y F fun a123 e F h43=>?_;clear Y;have⟨h41,h42⟩:=s2_ e h41 h42;clear e;have Y:Yv a123 o35_12_3 w79 (.pointer (some ⟨bQ,oQ + i * 5 + 1,none⟩)):=by unfold Yv o35_12_3;go_simp
      refine swe_ rfl Y F fun a124 e F h44=>?_;clear Y;have⟨h41,h42,h43⟩:=s3_ e h41 h42 h43;clear e;have Y:Yv a124 o35_12_4 w79 (.agg #[.int .i64 q.2.1.k,.string (str q.2.1.nm),.int .i64 q.2.1.i,.slice q.2.2.1 q.2.1.args.length q.2.2.2]):=by obtain ⟨⟨c0,c1,c2,c3,c4⟩,-⟩:=bsl_at (bsl_on HS.out K1) HSQ.out HQ.out;have c2':=c2;have c3':=c3;have c4':=c4;rw [show oQ + i * 5 + 2=oQ + i * 5 + 1 + 1 from rfl] at c2;rw [show oQ + i * 5 + 3=oQ + i * 5 + 1 + 2 from rfl] at c3;rw [show oQ + i * 5 + 4=oQ + i * 5 + 1 + 3 from rfl] at c4;unfold Yv o35_12_4;go_simp
      refine swe_ rfl Y F fun a125 e F h45=>?_;clear Y;have⟨h41,h42,h43,h44⟩:=s4_ e h41 h42 h43 h44;clear e;have hcall:=refRight_any (bsl_at (bsl_on HS.out K1) HSQ.out HQ.out).2.2;obtain ⟨rq,hrq⟩:∃ z,q.2.1.right=z:=⟨_,rfl⟩;rw [hrq] at hcall;have HRQ:=Lib.hid hrq;clear hrq;refine st_call rfl rfl (wanted_free rfl) (yc1_ en35_14 rfl h45) ((hcall).mono ?_);rintro e9 w126 ⟨rfl,kk⟩;replace K1:=keep_onto K1 kk;replace KV:=keep_onto KV kk;replace B1:=blk_on B1 kk;replace B4:=blk_on B4 kk;clear kk;clear hcall;refine ⟨_,rfl,fun a127 e=>?_⟩;have h46:=pt_ F e;replace F:=pu_ F e;have⟨h41,h42,h43,h44⟩:=s4_ e h41 h42 h43 h44;replace h45:=so_ e h45;clear e;cases rq with
      | false =>
       have Y:Yv a127 o35_12_6 w126 (.bool true):=by unfold Yv o35_12_6;go_simp
       refine swe_ rfl Y F fun a128 e F h47=>?_;clear Y;have⟨h41,h42,h43,h44,h45,h46⟩:=s6_ e h41 h42 h43 h44 h45 h46;clear e;refine st_end ?_;have⟨h1,h2,h4,h5,h6,h7,h8,h9⟩:=F.o8 h1 h2 h4 h5 h6 h7 h8 h9;have⟨h19,h20,h21,h22,h25,h26,h27,h28⟩:=F.o8 h19 h20 h21 h22 h25 h26 h27 h28;have⟨h31,h32,h33,h34,h35,h36,h37,h38⟩:=F.o8 h31 h32 h33 h34 h35 h36 h37 h38;have⟨h39,h40⟩:=F.o2 h39 h40;have R:=F.r;clear F;refine wp_cond_true (x:=c35_46) (y:=Code.skip) (eval_slot h47) ?_;refine wp_seq (x:=c35_47) (y:=Code.ret) ?_;refine reg_in (l:=[0,1,2]) rfl ?_;have F:=fe_ R;clear R;have Y:Yv a128 o35_13_0 w126 (.agg #[.int .i64 0,.string (⟨#[]⟩),.int .i64 0,.slice none 0 0]):=by unfold Yv o35_13_0;go_simp
       refine sw_ rfl Y F fun a129 F h48=>?_;clear Y;obtain ⟨w130,Y,hk,hB⟩:=ys4_ (o:=o35_13_1) rfl (F.of h4) h48 B4;replace K1:=kx_ hk K1 (Nat.not_lt.2 LK1_b4);clear KV;replace B1:=bx_ hk B1 Nb1_b4;clear B4;have B4:=hB;clear hB hk;refine st_skip rfl rfl (wanted_free rfl) Y ?_;clear Y;have Y:Yv a129 o35_13_2 w130 (.int .i64 70):=by unfold Yv o35_13_2;go_simp
       refine swe_ rfl Y F fun a131 e F h5=>?_;clear Y;replace h48:=so_ e h48;clear e;refine st_end ?_;have⟨h1,h2,h4,h6,h7,h8,h9,h19⟩:=F.o8 h1 h2 h4 h6 h7 h8 h9 h19;have⟨h20,h21,h22,h25,h26,h27,h28,h31⟩:=F.o8 h20 h21 h22 h25 h26 h27 h28 h31;have⟨h32,h33,h34,h35,h36,h37,h38,h39⟩:=F.o8 h32 h33 h34 h35 h36 h37 h38 h39;have⟨h40,h41,h42,h43,h44,h45,h46,h47⟩:=F.o8 h40 h41 h42 h43 h44 h45 h46 h47;have R:=F.r;clear F;refine wp_ret ?_;change bodyPost Try.prog Try.f10 (fun e w'=>∃ a' c',e=.returned (.tuple #[tv (raV t bs).1 a' c',.int .i64 (raV t bs).2])∧TmAt w'.heap.size w' (raV t bs).1 a' c'∧Keep (fun g=>g < W.heap.size) W w') .ret a131 w130;refine ret_cell_tmp (fn:=Try.f10) rfl R h4 h5 B4 ?_
       first | exact fin_ra0 K1 (ra_wrong HR.out) | exact fin_ra0 K1 (ra_bad HR.out hn9 (by rw [HZ.out];exact bad_at HQ.out (by omega) HNO.out HRQ.out))
      | true =>
       have Y:Yv a127 o35_12_6 w126 (.bool false):=by unfold Yv o35_12_6;go_simp
       refine swe_ rfl Y F fun a132 e F h47=>?_;clear Y;have⟨h41,h42,h43,h44,h45,h46⟩:=s6_ e h41 h42 h43 h44 h45 h46;clear e;refine st_end ?_;have⟨h1,h2,h4,h5,h6,h7,h8,h9⟩:=F.o8 h1 h2 h4 h5 h6 h7 h8 h9;have⟨h19,h20,h21,h22,h25,h26,h27,h28⟩:=F.o8 h19 h20 h21 h22 h25 h26 h27 h28;have⟨h31,h32,h33,h34,h35,h36,h37,h38⟩:=F.o8 h31 h32 h33 h34 h35 h36 h37 h38;have⟨h39,h40⟩:=F.o2 h39 h40;have R:=F.r;clear F;refine wp_cond_false (x:=c35_46) (y:=Code.skip) (eval_slot h47) ?_;refine wp_skip ?_;refine wp_exit ?_;change (c35_53).wp _ _ _ _;refine reg_in (l:=[0,1,2]) rfl ?_;have F:=fe_ R;clear R;refine sw_ rfl (ym_ rfl (F.of h8)) F fun a133 F h23=>?_;have HBD:Hid (badB bs z=false):=Lib.hid (by first | exact bad_none HNO.out (by omega) | exact bad_at HQ.out (by omega) HNO.out HRQ.out);have Y:Yv a133 o35_7_1 w126 (.int .i64 ((nv:Int) + 1)):=by have hwj:IntKind.i64.wrap ((nv:Int) + 1)=(nv:Int) + 1:=(by rw [IntKind.wrap_i64];omega);unfold Yv o35_7_1;go_simp
       refine swe_ rfl Y F fun a134 e F h24=>?_;clear Y;replace h23:=so_ e h23;clear e;refine swe_ rfl (ya_ rfl h24) F fun a135 e F h8=>?_;have⟨h23,h24⟩:=s2_ e h23 h24;clear e;refine st_end ?_;have⟨h1,h2,h4,h5,h6,h7,h9,h19⟩:=F.o8 h1 h2 h4 h5 h6 h7 h9 h19;have⟨h20,h21,h22,h25,h26,h27,h28,h31⟩:=F.o8 h20 h21 h22 h25 h26 h27 h28 h31;have⟨h32,h33,h34,h35,h36,h37,h38,h39⟩:=F.o8 h32 h33 h34 h35 h36 h37 h38 h39;have⟨h40,h41,h42,h43,h44,h45,h46,h47⟩:=F.o8 h40 h41 h42 h43 h44 h45 h46 h47;have R:=F.r;clear F;exact ⟨_,by omega,nv + 1,rfl,R,h1,h2,h4,h5,h6,h7,h8,K1,KV,B1,B4,(by omega),(Lib.hid (bad_more HNB.out hn9 HZ.out HBD.out))⟩
theorem refApply_any {W:World} {t:Tm} {a sa:Option Addr} {c sc:Nat} {bs:List BP} (hT:TmAt W.heap.size W t a c) (hS:BSl W.heap.size W sa bs) (hlb:bs.length ≤ 1000) (hbn:∀ q ∈ bs,q.2.1.ns ≤ 2000):Calls Try.prog 10 #[tv t a c,.slice sa bs.length sc] W fun e w'=>∃ a' c',e=.returned (.tuple #[tv (raV t bs).1 a' c',.int .i64 (raV t bs).2])∧TmAt w'.heap.size w' (raV t bs).1 a' c'∧Keep (fun g=>g < W.heap.size) W w':=by
  refine enter_sx Try.func10 body35 rfl (by show (2:Nat) ≤ 67;decide) fun f0 R hs=>?_;exact rapp_w R (hs 0 _ rfl) (hs 1 _ rfl) (Keep.refl _ W) (Lib.hid hT) (Lib.hid rfl) (Lib.hid hS) (Lib.hid hlb) (Lib.hid hbn)
end Go.Proofs.Ytjinmnekfhekpaa
