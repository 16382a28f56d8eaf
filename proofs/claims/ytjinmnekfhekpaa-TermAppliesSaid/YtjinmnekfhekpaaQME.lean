/-
  Joined texts (Tm24, Tm25, Tm26). No condition.
-/
import Derived.Test.YtjinmnekfhekpaaQMD
import Derived.RangeFuncNested
import Derived.RangeFuncLeaves
import Derived.RangeFuncCalls
import Derived.OwnWalkIn
import Derived.TacticsInMore
import Derived.RegionIn
import Derived.LoopNIn
import Derived.LoopIn
import Derived.Shelf.Abstract
import Derived.Lib.Hide
namespace Go.Proofs.Ytjinmnekfhekpaa
open Go.RowKit Go.Maps Go.Shelf
set_option linter.unusedVariables false
set_option linter.unusedSimpArgs false
attribute [local go_sem] Oper.semAt_some
def KpB (Bs:Nat) (a:Option Addr) (A B:World):Prop:=B.heap[Bs]? = A.heap[Bs]?∧∀ b off,a=some ⟨b,off,none⟩→B.heap[b]? = A.heap[b]?
def SlT (W:World) (a:Option Addr) (len:Nat) (V:Nat→Value × Value × Value × Value):Prop :=
  ∀ j,j < len→∃ b off,a=some ⟨b,off,none⟩∧b < W.heap.size∧W.cell? ⟨b,off + j * 4,none⟩=some (V j).1∧W.cell? ⟨b,off + j * 4 + 1,none⟩=some (V j).2.1∧W.cell? ⟨b,off + j * 4 + 2,none⟩=some (V j).2.2.1∧W.cell? ⟨b,off + j * 4 + 3,none⟩=some (V j).2.2.2
theorem SlT.same {W W':World} {a:Option Addr} {len:Nat} {V:Nat→Value × Value × Value × Value} (h:SlT W a len V) (hs:W.heap.size ≤ W'.heap.size) (hk:∀ b off,a=some ⟨b,off,none⟩→W'.heap[b]? = W.heap[b]?):SlT W' a len V:=fun j hj=>by
  obtain ⟨b,off,ha,hlt,h1,h2,h3,h4⟩:=h j hj;have hb:=hk b off ha;exact ⟨b,off,ha,by omega,(World.cell?_of_block (a:=⟨b,_,none⟩) hb).trans h1,(World.cell?_of_block (a:=⟨b,_,none⟩) hb).trans h2,(World.cell?_of_block (a:=⟨b,_,none⟩) hb).trans h3,(World.cell?_of_block (a:=⟨b,_,none⟩) hb).trans h4⟩
abbrev Pl (len:Nat):={ j:Nat // j < len }
abbrev plV (V:Nat→Value × Value × Value × Value) (j:Nat):Value:=.agg #[(V j).1,(V j).2.1,(V j).2.2.1,(V j).2.2.2]
theorem down_step {len k:Nat} (hk:k + 1 ≤ len):((List.range len).drop k).reverse=((List.range len).drop (k + 1)).reverse ++ [k]:=by
  rw [List.drop_eq_getElem_cons (by simp;omega),List.reverse_cons];simp
set_option maxRecDepth 100000 in
set_option maxHeartbeats 4000000 in
theorem back1_in (F:Fence) (n:Nat) (hf:F.fn 74) (hro:F.round=none) (hn:1 ≤ n) (l Bs:Nat) (a:Option Addr) (len cap:Nat) (hlen:len ≤ 2305843009213693951) (V:Nat→Value × Value × Value × Value)
    (J Jx:List (Pl len)→World→Prop)
    (hY:∀ pre (x:Pl len) W,J pre W→pre.length < len→YieldAt F (n - 1) Try.prog l #[.int .i64 (x.1:Int),plV V x.1] W fun e W' =>
      (e=.returned (.bool true)∧J (pre ++ [x]) W'∧KpB Bs a W W'∧W.heap.size ≤ W'.heap.size)∨(e=.returned (.bool false)∧Jx (pre ++ [x]) W'))
    (W:World) (hBs:W.cell? ⟨Bs,0,none⟩=some (.slice a len cap)) (hc:SlT W a len V) (h0:J [] W) :
    CallsIn F n Try.prog 74 #[.func (.yield l) #[] #[],.pointer (some ⟨Bs,0,none⟩)] W fun e W'=>(∃ v,e=.returned v) ∧
      ((∃ xs:List (Pl len),xs.map (·.1)=(List.range len).reverse∧J xs W')∨(∃ pre,True∧Jx pre W')):=by
  refine callsIn_of_wp Try.func74 rfl hf ?_ hro;simp only [Try.ntmps74,List.size_toArray,List.length_cons,List.length_nil,Nat.reduceAdd,Nat.reduceSub,Array.replicate_succ,Array.replicate_zero,List.push_toArray,List.append_toArray,List.nil_append,List.cons_append];have HC:=Lib.hid hc;clear hc;have h0':=Lib.hid h0;clear h0;have hwr:IntKind.i64.wrap ((len:Int) - 1)=(len:Int) - 1:=by rw [IntKind.wrap_i64];omega
  have HB:=Lib.hid hBs
  gi_wp2
  gi_loopw [3] (fun i wr=>∃ (k:Nat) (pre:List (Pl len)),k ≤ len∧i=.int .i64 ((k:Int) - 1)∧pre.map (·.1)=((List.range len).drop k).reverse∧J pre wr∧KpB Bs a W wr∧W.heap.size ≤ wr.heap.size)
    (fun i _=>(intOf i + 1).toNat)
  case atStart=>exact ⟨len,[],Nat.le_refl _,rfl,by simp,h0'.out,⟨rfl,fun _ _ _=>rfl⟩,Nat.le_refl _⟩
  case round =>
    obtain ⟨k,pre,hk,rfl,hpre,hJ,hkb,hsz⟩:=hrel;have hpl:pre.length=len - k:=by have:=congrArg List.length hpre;simpa using this
    have hbs:wr.cell? ⟨Bs,0,none⟩=some (.slice a len cap):=(World.cell?_of_block (a:=⟨Bs,0,none⟩) hkb.1).trans HB.out;cases k with
    | zero =>
      have HJ:=Lib.hid hJ;clear hJ
      gi_wp2
      go_end0
      exact ⟨⟨_,rfl⟩,.inl ⟨pre,by simpa using hpre,HJ.out⟩⟩
    | succ k =>
      obtain ⟨b,off,rfl,hlt,e0,e1,e2,e3⟩:=HC.out.same hsz hkb.2 k (by omega);obtain ⟨fn,tmps,assign,body,hy,hR⟩:=hY pre ⟨k,by omega⟩ wr hJ (by omega);have hw1:((k + 1:Nat):Int) - 1=(k:Int):=by push_cast;omega
      have hwk:IntKind.i64.wrap ((k:Int) - 1)=(k:Int) - 1:=by rw [IntKind.wrap_i64];omega
      dsimp only at hy
      unfold plV at hy;rw [hw1];have HP:=Lib.hid hpre;clear hpre;have HK:=Lib.hid hkb;clear hkb;have HJ:=Lib.hid hJ;clear hJ;have hkl:k < len:=by omega
      generalize V k=vk at *
      obtain ⟨v0,v1,v2,v3⟩:=vk
      dsimp only at e0 e1 e2 e3 hy
      gi_wp2
      refine hR.mono ?_;rintro e W3 (⟨rfl,hJ3,hk3,hs3⟩ | ⟨rfl,hJx3⟩)
      · have HK3:=Lib.hid hk3;clear hk3;have HJ3:=Lib.hid hJ3;clear hJ3
        gi_wp2
        go_roundw
        case rel=>exact ⟨k,pre ++ [⟨k,by omega⟩],by omega,by go_num,by rw [List.map_append,HP.out,down_step hk];rfl,HJ3.out,⟨HK3.out.1.trans HK.out.1,fun b' off' e=>(HK3.out.2 b' off' e).trans (HK.out.2 b' off' e)⟩,by omega⟩
        case measure=>simp [intOf]
      · gi_wp2
        refine bodyPost_ret (results_none rfl _ _ _) rfl ?_;exact ⟨⟨_,rfl⟩,.inr ⟨_,trivial,hJx3⟩⟩
theorem back_stops (F:Fence) (n:Nat) (hf:F.fn 74) (hro:F.round=none) (hn:1 ≤ n) (Bs:Nat) (a:Option Addr) (len cap:Nat) (hlen:len ≤ 2305843009213693951) (V:Nat→Value × Value × Value × Value)
    (w:World) (hBl:Bs < w.heap.size) (hBs:w.cell? ⟨Bs,0,none⟩=some (.slice a len cap)) (hc:SlT w a len V) :
    SeqStopsK F n Try.prog 74 #[.pointer (some ⟨Bs,0,none⟩)] (fun x:Pl len=>#[.int .i64 (x.1:Int),plV V x.1]) (fun A B=>KpB Bs a A B∧A.heap.size ≤ B.heap.size) (fun xs=>xs.map (·.1)=(List.range len).reverse) (fun _=>True) len w:=fun l J Jx W hW hJ hJx hY h0=>by
  have hcW:SlT W a len V:=fun j hj=>by
    obtain ⟨b,off,ha,hlt,h1,h2,h3,h4⟩:=hc j hj;have hb:=hW.block b hlt;exact ⟨b,off,ha,Nat.lt_of_lt_of_le hlt hW.size,(World.cell?_of_block (a:=⟨b,_,none⟩) hb).trans h1,(World.cell?_of_block (a:=⟨b,_,none⟩) hb).trans h2,(World.cell?_of_block (a:=⟨b,_,none⟩) hb).trans h3,(World.cell?_of_block (a:=⟨b,_,none⟩) hb).trans h4⟩
  exact back1_in F n hf hro hn l Bs a len cap hlen V J Jx (fun pre x W1 hj hl=>by
    obtain ⟨fn,tmps,assign,body,hy,hR⟩:=hY pre x W1 hj hl;refine ⟨fn,tmps,assign,body,hy,hR.mono ?_⟩;rintro e W' (⟨he,hj',hk⟩ | hx)
    · exact .inl ⟨he,hj',hk.1,hk.2⟩
    · exact .inr hx) W ((hW.cell (p:=⟨Bs,0,none⟩) hBl).trans hBs) hcW h0
set_option maxRecDepth 100000 in
theorem back_any (a:Option Addr) (len cap:Nat) (w:World):Calls Try.prog 57 #[.slice a len cap] w fun e w' =>
    e=.returned (.func (.func 74) #[] #[.pointer (some ⟨w.heap.size,0,none⟩)])∧w'=w.alloc (.cells #[.slice a len cap] 22):=by
  go_enter Try.func57,Try.ntmps57
  go_wp2
  go_ret
  exact ⟨rfl,rfl⟩
attribute [local go_sem] Oper.semAt_some
def lsT (ts:List Tm) (tail:Tm):Tm:=ts.foldr (fun t l=>.node 4 [46] 0 [t,l]) tail
def bld (f:Nat→Tm) (tail:Tm) (pre:List Nat):Tm:=pre.foldl (fun l j=>.node 4 [46] 0 [f j,l]) tail
theorem bld_snoc (f:Nat→Tm) (tail:Tm) (pre:List Nat) (j:Nat):bld f tail (pre ++ [j])=.node 4 [46] 0 [f j,bld f tail pre]:=by simp [bld,List.foldl_append]
theorem bld_all (ts:List Tm) (tail:Tm):bld (fun j=>ts[j]?.getD default) tail (List.range ts.length).reverse=lsT ts tail:=by
  unfold bld lsT;rw [List.foldl_reverse];have e:ts=(List.range ts.length).map (fun j=>ts[j]?.getD default):=by
    apply List.ext_getElem
    · simp
    · intro i h1 h2;simp [h1]
  conv=>rhs;rw [e,List.foldr_map]
def TmSl (B:Nat) (w:World) (a:Option Addr) (ps:List TP):Prop :=
  ∀ j p,ps[j]? = some p→(∃ b off,a=some ⟨b,off,none⟩∧b < B∧∀ f v,p.cells[f]? = some v→w.cell? ⟨b,off + (j * 4 + f),none⟩=some v)∧TmAt B w p.1 p.2.1 p.2.2
def tpV (ps:List TP) (j:Nat):Value × Value × Value × Value :=
  let p:=ps[j]?.getD (default,none,0)
  (.int .i64 p.1.k,.string (str p.1.nm),.int .i64 p.1.i,.slice p.2.1 p.1.args.length p.2.2)
theorem TmSl.slT {B:Nat} {w:World} {a:Option Addr} {ps:List TP} (h:TmSl B w a ps) (hB:B ≤ w.heap.size):SlT w a ps.length (tpV ps):=fun j hj=>by
  obtain ⟨p,hp⟩:∃ p,ps[j]? = some p:=⟨_,List.getElem?_eq_getElem hj⟩;obtain ⟨⟨b,off,ha,hlt,hc⟩,_⟩:=h j p hp;have e:ps[j]?.getD (default,none,0)=p:=by rw [hp];rfl
  refine ⟨b,off,ha,by omega,?_⟩;unfold tpV;simp only [e];exact ⟨hc 0 _ rfl,hc 1 _ rfl,hc 2 _ rfl,hc 3 _ rfl⟩
inductive Ch (B0 lo:Nat) (W:World):Tm→Option Addr→Nat→Prop
  | base {t:Tm} {a:Option Addr} {c:Nat} (h:TmAt B0 W t a c):Ch B0 lo W t a c
  | link {x l:Tm} {ax al:Option Addr} {cx cl g:Nat} (hx:TmAt B0 W x ax cx) (hl:Ch B0 lo W l al cl) (hg:lo ≤ g) (hb:Blk W g 24 (x.cells ax cx ++ l.cells al cl).toArray):Ch B0 lo W (.node 4 [46] 0 [x,l]) (some ⟨g,0,none⟩) 2
section
variable {B0 lo:Nat} {W W':World} {t:Tm} {a:Option Addr} {c:Nat}
theorem Ch.kept (h:Ch B0 lo W t a c) (h1:∀ k,k < B0→k < W.heap.size→W'.heap[k]? = W.heap[k]?) (h2:∀ k ty cs,lo ≤ k→Blk W k ty cs→Blk W' k ty cs) (hB:B0 ≤ W.heap.size) (hs:Keep (fun _=>False) W W'):Ch B0 lo W' t a c:=by
  have hk:Keep (fun k=>k < B0) W W':=⟨hs.os,hs.tape,hs.output,hs.size,fun k hk1 hk2=>h1 k hk2 hk1⟩;induction h with
  | base h=>exact .base (h.keepX hk (fun _ h=>h))
  | link hx hl hg hb ih=>exact .link (hx.keepX hk (fun _ h=>h)) ih hg (h2 _ _ _ hg hb)
theorem Ch.keep (h:Ch B0 lo W t a c) {X:Nat→Prop} (hk:Keep X W W') (hX:∀ k,k < B0∨lo ≤ k→X k) (hB:B0 ≤ W.heap.size):Ch B0 lo W' t a c :=
  h.kept (fun k h1 h2=>hk.block k h2 (hX k (.inl h1))) (fun k ty cs h1 hb=>hb.keep hk (hX k (.inr h1))) hB ⟨hk.os,hk.tape,hk.output,hk.size,fun _ _ h=>h.elim⟩
theorem Ch.at_ (h:Ch B0 lo W t a c) (hB:B0 ≤ W.heap.size):TmAt W.heap.size W t a c:=by
  induction h with
  | base h=>exact h.up hB
  | @link x l ax al cx cl g hx hl hg hb ih =>
    have hx2:=hx.up hB;refine .mk _ _ _ (fun j=>if j=0 then ax else al) (fun j=>if j=0 then cx else cl) (show (Lit.int .i64 4).wf=true by decide) (show (Lit.int .i64 0).wf=true by decide) (show 1 ≤ maxLen by decide) (show 2 ≤ maxLen by decide) (fun j y hj=>?_) (fun j y hj=>?_)
    · refine ⟨g,0,rfl,hb.lt,fun f v hf=>?_⟩;have hfl:f < 4:=get_lt' hf;rw [Nat.zero_add,hb.cell]
      match j,hj with
      | 0,hj =>
        simp only [Tm.args,List.getElem?_cons_zero,Option.some.injEq] at hj;subst hj;simp only [if_true] at hf;rw [List.getElem?_toArray,List.getElem?_append_left (by show _ < 4;omega),Nat.zero_mul,Nat.zero_add];exact hf
      | 1,hj =>
        simp only [Tm.args,List.getElem?_cons_succ,List.getElem?_cons_zero,Option.some.injEq] at hj;subst hj;simp only [if_neg (by decide:¬ (1:Nat)=0)] at hf;rw [List.getElem?_toArray,List.getElem?_append_right (by show 4 ≤ _;omega)];show (_:List Value)[1 * 4 + f - 4]? = _;rw [show 1 * 4 + f - 4=f by omega];exact hf
      | j + 2,hj=>simp [Tm.args] at hj
    · match j,hj with
      | 0,hj =>
        simp only [Tm.args,List.getElem?_cons_zero,Option.some.injEq] at hj;subst hj;exact hx2
      | 1,hj =>
        simp only [Tm.args,List.getElem?_cons_succ,List.getElem?_cons_zero,Option.some.injEq] at hj;subst hj;exact ih
      | j + 2,hj=>simp [Tm.args] at hj
end
def lsV (ts:List Tm) (tail:Tm):Tm × Int:=if ts.length < 100 then (if (lsT ts tail).right=true then ((lsT ts tail).tree.tm,0) else (.node 0 [] 0 [],70)) else (.node 0 [] 0 [],70)
section
variable {w:World} {ps:List TP} {t:Tm} {a b:Option Addr} {cap d:Nat}
set_option maxRecDepth 100000 in
set_option maxHeartbeats 8000000 in
theorem List_in (hS:TmSl w.heap.size w a ps) (hT:TmAt w.heap.size w t b d) (hlen:ps.length ≤ 2305843009213693951) (ha:∀ g off,a=some ⟨g,off,none⟩→g < w.heap.size) :
    CallsIn Fence.wide 8 Try.prog 16 #[.slice a ps.length cap,tv t b d] w fun e w'=>∃ a' c',e=.returned (.tuple #[tv (lsV (ps.map (·.1)) t).1 a' c',.int .i64 (lsV (ps.map (·.1)) t).2]) ∧
      Fr 0 (fun _=>False) w' w.heap.size w'.heap.size (lsV (ps.map (·.1)) t).1 a' c'∧Keep (fun g=>g < w.heap.size) w w':=by
  refine callsIn_of_wp_marks Try.func16 rfl trivial ?_ rfl;simp only [Try.ntmps16,List.size_toArray,List.length_cons,List.length_nil,Nat.reduceAdd,Nat.reduceSub,Array.replicate_succ,Array.replicate_zero,List.push_toArray,List.append_toArray,List.nil_append,List.cons_append];have k0:Keep (fun g=>g < w.heap.size) w ((w.alloc (tb t b d)).alloc zb):=((Keep.refl _ w).alloc _).alloc _;have bR:=Blk.new (w.alloc (tb t b d)) 24 #[.int .i64 0,.string ⟨#[]⟩,.int .i64 0,.slice none 0 0];rw [World.size_alloc] at bR;have K0:=Lib.hid (And.intro k0 bR);clear k0 bR;have HS:=Lib.hid hS;clear hS;have HT:=Lib.hid hT;clear hT;obtain ⟨ov,hov⟩:∃ ov,ov=lsV (ps.map (·.1)) t:=⟨_,rfl⟩;rw [← hov];have HOV:=Lib.hid hov;clear hov;unfold tv;obtain ⟨len,hln⟩:∃ len,len=ps.length:=⟨_,rfl⟩;rw [← hln] at hlen ⊢;have HLN:=Lib.hid hln;clear hln;by_cases hlt:len < 100
  · have hf71:Fence.wide.fn 57:=trivial
    gi_wp2_with (first
      | (gi_at_call 57;refine (callsIn_wide.2 (back_any _ _ _ _)).mono ?_;rintro e w' ⟨rfl,rfl⟩)
      | gi_in)
    obtain ⟨kk0,bR⟩:=K0.out;obtain ⟨Wc,hWc⟩:∃ Wc,(((w.alloc (tb t b d)).alloc zb).alloc (tb t b d)).alloc (.cells #[.slice a len cap] 22)=Wc:=⟨_,rfl⟩;have hcs:Wc.heap.size=w.heap.size + 4:=by rw [← hWc];simp
    have hbl:Blk Wc (w.heap.size + 1 + 1) 24 #[.int .i64 t.k,.string (str t.nm),.int .i64 t.i,.slice b t.args.length d]:=by
      rw [← hWc];have:=(Blk.new ((w.alloc (tb t b d)).alloc zb) 24 #[.int .i64 t.k,.string (str t.nm),.int .i64 t.i,.slice b t.args.length d]).alloc (.cells #[.slice a len cap] 22);simpa using this
    have hbs:Blk Wc (w.heap.size + 1 + 1 + 1) 22 #[.slice a len cap]:=by
      rw [← hWc];have:=Blk.new (((w.alloc (tb t b d)).alloc zb).alloc (tb t b d)) 22 #[.slice a len cap];simpa using this
    have hkc:Keep (fun g=>g < ((w.alloc (tb t b d)).alloc zb).heap.size) ((w.alloc (tb t b d)).alloc zb) Wc:=by rw [← hWc];exact ((Keep.refl _ _).alloc _).alloc _
    have bRc:=bR.keep hkc (by simp);have kc:Keep (fun g=>g < w.heap.size) w Wc:=kk0.onto hkc;have hTc:TmAt w.heap.size Wc t b d:=HT.out.keepX kc (fun _ h=>h);have hSc:TmSl w.heap.size Wc a ps:=fun j p hj=>by
      obtain ⟨⟨b,off,e,hlt,hc⟩,h2⟩:=HS.out j p hj;exact ⟨⟨b,off,e,hlt,fun f v hv=>(World.cell?_of_block (a:=⟨b,_,none⟩) (kc.block b hlt hlt)).trans (hc f v hv)⟩,h2.keepX kc (fun _ h=>h)⟩
    have hslc:SlT Wc a len (tpV ps):=by rw [HLN.out];exact hSc.slT (by omega)
    unfold tb zb at hWc;rw [hWc];clear hWc;have hseq:=back_stops Fence.wide 7 trivial rfl (by omega) (w.heap.size + 1 + 1 + 1) a len cap hlen (tpV ps) Wc (by omega) (by simpa using hbs.cell 0) hslc;refine wpIn_rangeFunc_ownH (F:=Fence.wide) (n:=8) rfl (by omega) (gf:=74) (lb:=#[.pointer (some ⟨w.heap.size + 1 + 1 + 1,0,none⟩)]) rfl trivial (enters_of Try.func74 (by kernel_rfl) rfl)
      hseq (fun h k=>⟨⟨k.1.1.trans h.1.1,fun b off e=>(k.1.2 b off e).trans (h.1.2 b off e)⟩,Nat.le_trans h.2 k.2⟩)
      (fun W2 l o o' hl _ _ _=>⟨⟨World.putObj_heap_other (by omega),fun b off e=>World.putObj_heap_other (by have:=ha b off e;omega)⟩,by simp [World.putObj]⟩) (Below.refl _ _) (fun _=>rfl)
      (fun pre W2=>Keep (fun g=>g < Wc.heap.size∧g ≠ w.heap.size + 1 + 1) Wc W2∧∃ al cl,Blk W2 (w.heap.size + 1 + 1) 24 #[.int .i64 (bld (fun j=>(ps[j]?.getD (default,none,0)).1) t (pre.map (·.1))).k,.string (str (bld (fun j=>(ps[j]?.getD (default,none,0)).1) t (pre.map (·.1))).nm),.int .i64 (bld (fun j=>(ps[j]?.getD (default,none,0)).1) t (pre.map (·.1))).i,.slice al (bld (fun j=>(ps[j]?.getD (default,none,0)).1) t (pre.map (·.1))).args.length cl]∧Ch w.heap.size (w.heap.size + 4) W2 (bld (fun j=>(ps[j]?.getD (default,none,0)).1) t (pre.map (·.1))) al cl)
      (fun _ _ _=>False)
      (fun pre X Y row hs hg hr=>by
        have hk:Keep (· < Wc.heap.size) X Y:=⟨hg.os,hg.tape,hg.output,hg.size,fun k hk1 hk2=>hg.block k hk1 (fun e=>by have:=(hr k e.symm).1;omega)⟩;have hX:=hs.1.size;obtain ⟨hs1,al,cl,hb,hch⟩:=hs;refine ⟨hs1.trans (hk.less (fun k hk=>hk.1)),al,cl,hb.keep hk (by omega),hch.kept (fun k h1 h2=>hk.block k h2 (by omega)) (fun k ty cs h1 hbk=>(hg.block k hbk.lt (fun e=>?_)).trans hbk) (by omega) ⟨hg.os,hg.tape,hg.output,hg.size,fun _ _ h=>h.elim⟩⟩;obtain ⟨_,o,ho,hc⟩:=hr k e.symm;unfold Blk at hbk;rw [hbk] at ho;cases ho;simp [Obj.isCells] at hc)
      (fun _ _ _ _ _ hs _ _=>hs)
      ⟨Keep.refl _ _,b,d,hbl,.base hTc⟩
      (fun (x:Pl len) a' W2=>∃ Bx,w.heap.size + 4 ≤ Bx∧Blk W2 Bx 24 #[(tpV ps x.1).1,(tpV ps x.1).2.1,(tpV ps x.1).2.2.1,(tpV ps x.1).2.2.2]∧a'={ tmps:=#[.slice a len cap,.agg #[.int .i64 t.k,.string (str t.nm),.int .i64 t.i,.slice b t.args.length d],undef,.pointer (some ⟨w.heap.size,0,none⟩),.pointer (some ⟨w.heap.size + 1,0,none⟩),.int .i64 0,.pointer (some ⟨w.heap.size + 1 + 1,0,none⟩),undef,.pointer (some ⟨Bx,0,none⟩),.slice a len cap,.int .i64 len,.bool (decide (100 ≤ (len:Int))),undef,.agg #[.int .i64 t.k,.string (str t.nm),.int .i64 t.i,.slice b t.args.length d],.slice a len cap,.func (.func 74) #[] #[.pointer (some ⟨w.heap.size + 1 + 1 + 1,0,none⟩)],.int .i64 (x.1:Int),plV (tpV ps) x.1,undef,undef,undef,undef,undef,undef,undef,undef,undef,undef],defers:=[] })
      (fun x a' _ X Y row hs hg hr=>by
        obtain ⟨Bx,h1,hbx,h2⟩:=hs;refine ⟨Bx,h1,(hg.block Bx hbx.lt (fun e=>?_)).trans hbx,h2⟩;obtain ⟨_,o,ho,hc⟩:=hr Bx e.symm;unfold Blk at hbx;rw [hbx] at ho;cases ho;simp [Obj.isCells] at hc) ?assign ?body ?done ?stop
    case assign =>
      intro l pre x W2 K2 hI2 hK2;obtain ⟨hk2,al,cl,hb2,hch2⟩:=hI2;have hz2:=hk2.size;have hka:∀ o,Keep (fun g=>g < W2.heap.size) W2 (W2.alloc o):=fun o=>(Keep.refl _ _).alloc _;have hfin:=fun a' o (hA:∃ Bx,w.heap.size + 4 ≤ Bx∧Blk (W2.alloc o) Bx 24 #[(tpV ps x.1).1,(tpV ps x.1).2.1,(tpV ps x.1).2.2.1,(tpV ps x.1).2.2.2]∧a'=_)=>hK2 a' (W2.alloc o) ((KeepsOthers.alloc _ _).from _) ⟨⟨(hka o).block _ (by omega) (by omega),fun b' off' e=>(hka o).block _ (by have:=ha b' off' e;omega) (by have:=ha b' off' e;omega)⟩,(hka o).size⟩
        ⟨hk2.trans ((hka o).less (fun g hg=>by omega)),al,cl,hb2.keep (hka o) hb2.lt,hch2.kept (fun k h1 h2=>(hka o).block k h2 h2) (fun k ty cs h1 hbk=>hbk.keep (hka o) hbk.lt) (by omega) ⟨(hka o).os,(hka o).tape,(hka o).output,(hka o).size,fun _ _ h=>h.elim⟩⟩ hA
      have HF:=Lib.hid hfin;clear hfin hK2 hb2 hch2 hka hk2;simp only [plV,tpV] at HF ⊢;generalize (ps[x.1]?.getD (default,none,0))=p at *
      gi_wp2
      refine HF.out _ _ ⟨W2.heap.size,by omega,Blk.new W2 _ _,rfl⟩
    case body =>
      rintro l pre ⟨j,hj⟩ a' W2 hl hr2 ⟨hk2,al,cl,hb2,hch2⟩ ⟨Bx,hBx,hbx,rfl⟩ hpl;have hz2:=hk2.size;obtain ⟨p,hp⟩:∃ p,ps[j]? = some p:=⟨_,List.getElem?_eq_getElem (by rw [← HLN.out];exact hj)⟩;have hpe:ps[j]?.getD (default,none,0)=p:=by rw [hp];rfl
      have hTx:TmAt w.heap.size W2 p.1 p.2.1 p.2.2:=(hSc j p hp).2.keepX hk2 (fun k hk=>by omega);simp only [tpV,plV,hpe] at hbx ⊢;obtain ⟨L,hL⟩:∃ L,L=bld (fun j=>(ps[j]?.getD (default,none,0)).1) t (pre.map (·.1)):=⟨_,rfl⟩;rw [← hL] at hb2 hch2;have hsn:bld (fun j=>(ps[j]?.getD (default,none,0)).1) t ((pre ++ [(⟨j,hj⟩:Pl len)]).map (·.1))=.node 4 [46] 0 [p.1,L]:=by
        rw [List.map_append,List.map_cons,List.map_nil,bld_snoc,hpe,← hL]
      have HSN:=Lib.hid hsn;clear hsn;have HL:=Lib.hid hL;clear hL;obtain ⟨x,ax,cx⟩:=p
      dsimp only at hTx hbx ⊢
      have c0:=hbx.cell 0;have c1:=hbx.cell 1;have c2:=hbx.cell 2;have c3:=hbx.cell 3;simp at c0 c1 c2 c3;have e0:=hb2.cell 0;have e1:=hb2.cell 1;have e2:=hb2.cell 2;have e3:=hb2.cell 3;simp at e0 e1 e2 e3;have f0:=hb2.frozen 0;have f1:=hb2.frozen 1;have f2:=hb2.frozen 2;have f3:=hb2.frozen 3;have lx:=hbx.lt;have lb:=hb2.lt;have HH:=Lib.hid (And.intro hk2 (And.intro hb2 (And.intro hch2 hTx)));clear hk2 hb2 hch2 hTx hbx hpe hp;clear hseq hslc hSc hTc kc bRc hkc hbs hbl bR kk0;have hfin:∀ W3,W3=((((W2.setCell ⟨w.heap.size + 1 + 1,0,none⟩ (.int .i64 4)).setCell ⟨w.heap.size + 1 + 1,1,none⟩ (.string ⟨#[46]⟩)).setCell ⟨w.heap.size + 1 + 1,2,none⟩ (.int .i64 0)).setCell ⟨w.heap.size + 1 + 1,3,none⟩ (.slice (some ⟨W2.heap.size,0,none⟩) 2 2)).alloc (.cells #[.int .i64 x.k,.string (str x.nm),.int .i64 x.i,.slice ax x.args.length cx,.int .i64 L.k,.string (str L.nm),.int .i64 L.i,.slice al L.args.length cl] 24) →
          KeepsFrom Wc.heap.size W2 W3∧(KpB (w.heap.size + 1 + 1 + 1) a W2 W3∧W2.heap.size ≤ W3.heap.size)∧Keep (fun g=>g < Wc.heap.size∧g ≠ w.heap.size + 1 + 1) Wc W3∧∃ al cl,Blk W3 (w.heap.size + 1 + 1) 24 #[.int .i64 (bld (fun j=>(ps[j]?.getD (default,none,0)).1) t ((pre ++ [(⟨j,hj⟩:Pl len)]).map (·.1))).k,.string (str (bld (fun j=>(ps[j]?.getD (default,none,0)).1) t ((pre ++ [(⟨j,hj⟩:Pl len)]).map (·.1))).nm),.int .i64 (bld (fun j=>(ps[j]?.getD (default,none,0)).1) t ((pre ++ [(⟨j,hj⟩:Pl len)]).map (·.1))).i,.slice al (bld (fun j=>(ps[j]?.getD (default,none,0)).1) t ((pre ++ [(⟨j,hj⟩:Pl len)]).map (·.1))).args.length cl]∧Ch w.heap.size (w.heap.size + 4) W3 (bld (fun j=>(ps[j]?.getD (default,none,0)).1) t ((pre ++ [(⟨j,hj⟩:Pl len)]).map (·.1))) al cl:=by
        intro W3 hW3;obtain ⟨hk2,hb2,hch2,hTx⟩:=HH.out;have hsb:Blk ((((W2.setCell ⟨w.heap.size + 1 + 1,0,none⟩ (.int .i64 4)).setCell ⟨w.heap.size + 1 + 1,1,none⟩ (.string ⟨#[46]⟩)).setCell ⟨w.heap.size + 1 + 1,2,none⟩ (.int .i64 0)).setCell ⟨w.heap.size + 1 + 1,3,none⟩ (.slice (some ⟨W2.heap.size,0,none⟩) 2 2)) (w.heap.size + 1 + 1) 24 #[.int .i64 4,.string ⟨#[46]⟩,.int .i64 0,.slice (some ⟨W2.heap.size,0,none⟩) 2 2]:=hb2.set4;have hsk:Keep (fun k=>k ≠ w.heap.size + 1 + 1) W2 ((((W2.setCell ⟨w.heap.size + 1 + 1,0,none⟩ (.int .i64 4)).setCell ⟨w.heap.size + 1 + 1,1,none⟩ (.string ⟨#[46]⟩)).setCell ⟨w.heap.size + 1 + 1,2,none⟩ (.int .i64 0)).setCell ⟨w.heap.size + 1 + 1,3,none⟩ (.slice (some ⟨W2.heap.size,0,none⟩) 2 2)):=(Keep.refl _ W2).set4 (o:=0) (fun h=>h rfl);have hzz:((((W2.setCell ⟨w.heap.size + 1 + 1,0,none⟩ (.int .i64 4)).setCell ⟨w.heap.size + 1 + 1,1,none⟩ (.string ⟨#[46]⟩)).setCell ⟨w.heap.size + 1 + 1,2,none⟩ (.int .i64 0)).setCell ⟨w.heap.size + 1 + 1,3,none⟩ (.slice (some ⟨W2.heap.size,0,none⟩) 2 2)).heap.size=W2.heap.size:=by simp [World.setCell]
        generalize ((((W2.setCell ⟨w.heap.size + 1 + 1,0,none⟩ (.int .i64 4)).setCell ⟨w.heap.size + 1 + 1,1,none⟩ (.string ⟨#[46]⟩)).setCell ⟨w.heap.size + 1 + 1,2,none⟩ (.int .i64 0)).setCell ⟨w.heap.size + 1 + 1,3,none⟩ (.slice (some ⟨W2.heap.size,0,none⟩) 2 2))=W0 at *
        have hk3:Keep (fun k=>k ≠ w.heap.size + 1 + 1) W2 W3:=by rw [hW3];exact hsk.alloc _
        have hb3:Blk W3 (w.heap.size + 1 + 1) 24 #[.int .i64 4,.string ⟨#[46]⟩,.int .i64 0,.slice (some ⟨W2.heap.size,0,none⟩) 2 2]:=by rw [hW3];exact hsb.alloc _
        have hn3:Blk W3 W2.heap.size 24 #[.int .i64 x.k,.string (str x.nm),.int .i64 x.i,.slice ax x.args.length cx,.int .i64 L.k,.string (str L.nm),.int .i64 L.i,.slice al L.args.length cl]:=by
          have:=Blk.new W0 24 #[.int .i64 x.k,.string (str x.nm),.int .i64 x.i,.slice ax x.args.length cx,.int .i64 L.k,.string (str L.nm),.int .i64 L.i,.slice al L.args.length cl];rw [← hW3,hzz] at this;exact this
        refine ⟨⟨hk3.size,fun k o hB ho hc=>(hk3.block k (Array.getElem?_eq_some_iff.1 ho).1 (by omega)).trans ho⟩,⟨⟨hk3.block _ (by omega) (by omega),fun b' off' e=>hk3.block _ (by have:=ha b' off' e;omega) (by have:=ha b' off' e;omega)⟩,hk3.size⟩,hk2.trans (hk3.less (fun g hg=>hg.2)),?_⟩;rw [HSN.out];exact ⟨some ⟨W2.heap.size,0,none⟩,2,hb3,.link (hTx.keepX hk3 (fun k hk=>by omega)) (hch2.keep hk3 (fun k hk=>by omega) (by omega)) (by omega) hn3⟩
      have HFI:=Lib.hid hfin;clear hfin;clear hcs hz2
      gi_wp2
      exact HFI.out _ rfl
    case done =>
      rintro D xs W3 hD hS ⟨hk3,al,cl,hb3,hch3⟩ hDD;have hS':xs.map (·.1)=(List.range len).reverse:=hS;have hfe:(fun (j:Nat)=>(ps[j]?.getD (default,none,0)).1)=(fun (j:Nat)=>(ps.map (·.1))[j]?.getD default):=by
        funext j;rw [List.getElem?_map];cases ps[j]? <;> rfl
      rw [hS',hfe,show len=(ps.map (·.1)).length by rw [HLN.out,List.length_map],bld_all] at hb3 hch3;have hz3:=hk3.size;have hR:=isRight_any (hch3.at_ (by omega));have bR3:=bRc.keep hk3 (by omega);have hov:ov=if (lsT (ps.map (·.1)) t).right=true then ((lsT (ps.map (·.1)) t).tree.tm,0) else (.node 0 [] 0 [],70):=by
        rw [HOV.out];unfold lsV;rw [List.length_map,← HLN.out,if_pos hlt]
      generalize lsT (ps.map (·.1)) t=L at *
      obtain ⟨r,hr⟩:∃ r,r=L.right:=⟨_,rfl⟩;rw [← hr] at hov hR;have e0:=hb3.cell 0;have e1:=hb3.cell 1;have e2:=hb3.cell 2;have e3:=hb3.cell 3;simp at e0 e1 e2 e3;have HR:=Lib.hid hR;clear hR;have HX:=Lib.hid (And.intro hov (And.intro hr (And.intro hk3 (And.intro hb3 (And.intro hch3 (And.intro bR3 hDD))))));have HY:=Lib.hid (And.intro kc (And.intro hcs hD));clear hov hr hk3 hb3 hch3 bR3 hDD hS hS' hfe hseq hslc hSc hTc kc bRc hkc hbs hbl bR kk0 HOV hcs hz3 hD
      gi_wp2
      refine ⟨trivial,?_⟩;refine (callsIn_wide.2 HR.out).mono ?_;rintro e w1 ⟨rfl,k1⟩;obtain ⟨hov,hr,hk3,hb3,hch3,bR3,hDD⟩:=HX.out;obtain ⟨kc,hcs,hD⟩:=HY.out;have hz3:=hk3.size;have hz1:=k1.size;have bR1:=bR3.keep k1 (by omega);have hb1:=hb3.keep k1 (by omega);have hDl:D < W3.heap.size:=(Array.getElem?_eq_some_iff.1 hDD).1;have hD1:w1.heap[D]? = some (.deferred (some [])):=(k1.block D hDl hDl).trans hDD;have kw1:Keep (fun g=>g < w.heap.size) w w1:=(kc.trans (hk3.less (fun g hg=>by omega))).trans (k1.less (fun g hg=>by omega));have hT1:=(hch3.at_ (by omega)).on k1;have p0:=bR1.cell 0;have p1:=bR1.cell 1;have p2:=bR1.cell 2;have p3:=bR1.cell 3;simp at p0 p1 p2 p3;have f0:=bR1.frozen 0;have f1:=bR1.frozen 1;have f2:=bR1.frozen 2;have f3:=bR1.frozen 3;have q0:=hb1.cell 0;have q1:=hb1.cell 1;have q2:=hb1.cell 2;have q3:=hb1.cell 3;simp at q0 q1 q2 q3;have l1:=bR1.lt;have l2:=hb1.lt;cases r with
      | false =>
        rw [if_neg (by simp)] at hov;subst hov;obtain ⟨W,hW,-,hsz,hbW,-,hkW⟩:=box_put (x:=.node 0 [] 0 []) (a:=none) (c:=0) bR1 (Keep.refl (fun _=>True) _) trivial;obtain ⟨Wf,hWf⟩:∃ Wf,Wf=W.putObj D (.deferred none):=⟨_,rfl⟩;have hDW:W.heap[D]? = some (.deferred (some [])):=(hkW.block D (by omega) (by omega)).trans hD1;have hkf:Keep (fun k=>k ≠ w.heap.size + 1∧k ≠ D) w1 Wf:=(hkW.less (fun k hk=>hk.1)).trans (by rw [hWf];exact ⟨rfl,rfl,rfl,by simp [World.putObj],fun k _ hne=>World.putObj_heap_other hne.2⟩);have hbf:Blk Wf (w.heap.size + 1) 24 #[.int .i64 0,.string (str []),.int .i64 0,.slice none 0 0]:=by
          rw [hWf];exact (World.putObj_heap_other (by omega)).trans hbW
        have hfin:Fr 0 (fun _=>False) Wf w.heap.size Wf.heap.size (.node 0 [] 0 []) none 0∧Keep (fun g=>g < w.heap.size) w Wf:=⟨.old (tm_leaf (by decide) (by decide) (by simp)) (by have:=hkf.size;omega),kw1.trans (hkf.less (fun g hg=>by omega))⟩;have g0:=hbf.cell 0;have g1:=hbf.cell 1;have g2:=hbf.cell 2;have g3:=hbf.cell 3;rw [hWf] at hfin g0 g1 g2 g3;rw [hW] at hfin hDW g0 g1 g2 g3;simp [Tm.k,Tm.nm,Tm.i,Tm.args] at g0 g1 g2 g3;have es:str []=(⟨#[]⟩:ByteArray):=rfl;simp only [es] at g0 g1 g2 g3;clear es;have HE:=Lib.hid (And.intro hDW hfin);clear hDW hfin hWf hbf hkf;clear hW hsz hbW hkW kw1 hD1 hT1 bR1 hb1 hr hk3 hb3 hch3 bR3 hDD kc k1 HX HY HR hD hcs hz3 hz1 hDl
        gi_wp2
        refine ⟨by simp,.inl ⟨D,_,rfl,run_takeDeferred HE.out.1,?_⟩⟩;exact ⟨.tuple #[.agg #[.int .i64 0,.string ⟨#[]⟩,.int .i64 0,.slice none 0 0],.int .i64 70],by simp [results,Try.results16,go_sem,g0,g1,g2,g3],none,0,rfl,HE.out.2⟩
      | true =>
        have hAN:=anew_any (Nat.le_refl _) hT1 (right_of.1 hr.symm).1;obtain ⟨x,hx⟩:∃ x,x=L.tree.tm:=⟨_,rfl⟩;rw [if_pos rfl,← hx] at hov;rw [← hx] at hAN;subst hov;unfold tv at hAN;clear hx;have HAN:=Lib.hid hAN;clear hAN;have HE:=Lib.hid (And.intro bR1 (And.intro kw1 (And.intro hD1 (And.intro hcs (And.intro hD hDl)))));clear kw1 hD1 hT1 bR1 hb1 hr hk3 hb3 hch3 bR3 hDD kc k1 HX HY HR hD hcs hz3 hz1 hDl f0 f1 f2 f3 p0 p1 p2 p3
        gi_wp2
        refine ⟨trivial,?_⟩;refine (callsIn_wide.2 HAN.out).mono ?_;rintro e w2 ⟨a2,c2,rfl,hfr,k2⟩;obtain ⟨bR1,kw1,hD1,hcs,hD,hDl⟩:=HE.out;have bR2:=bR1.keep k2 bR1.lt;have hz2:=k2.size;have p0:=bR2.cell 0;have p1:=bR2.cell 1;have p2:=bR2.cell 2;have p3:=bR2.cell 3;simp at p0 p1 p2 p3;have f0:=bR2.frozen 0;have f1:=bR2.frozen 1;have f2:=bR2.frozen 2;have f3:=bR2.frozen 3;have hDl1:D < w1.heap.size:=(Array.getElem?_eq_some_iff.1 hD1).1;have hD2:w2.heap[D]? = some (.deferred (some [])):=(k2.block D hDl1 hDl1).trans hD1;obtain ⟨W,hW,-,hsz,hbW,-,hkW⟩:=box_put (x:=x) (a:=a2) (c:=c2) bR2 (Keep.refl (fun _=>True) _) trivial;obtain ⟨Wf,hWf⟩:∃ Wf,Wf=W.putObj D (.deferred none):=⟨_,rfl⟩;have hDW:W.heap[D]? = some (.deferred (some [])):=(hkW.block D (by omega) (by omega)).trans hD2;have hkf:Keep (fun k=>k ≠ w.heap.size + 1∧k ≠ D) w2 Wf:=(hkW.less (fun k hk=>hk.1)).trans (by rw [hWf];exact ⟨rfl,rfl,rfl,by simp [World.putObj],fun k _ hne=>World.putObj_heap_other hne.2⟩);have hbf:Blk Wf (w.heap.size + 1) 24 #[.int .i64 x.k,.string (str x.nm),.int .i64 x.i,.slice a2 x.args.length c2]:=by
          rw [hWf];exact (World.putObj_heap_other (by omega)).trans hbW
        have hfin:Fr 0 (fun _=>False) Wf w.heap.size Wf.heap.size x a2 c2∧Keep (fun g=>g < w.heap.size) w Wf :=
          ⟨(hfr.keepR hkf (fun g hg=>by omega)).up hkf.size (by omega),(kw1.trans (k2.less (fun g hg=>by omega))).trans (hkf.less (fun g hg=>by omega))⟩
        have g0:=hbf.cell 0;have g1:=hbf.cell 1;have g2:=hbf.cell 2;have g3:=hbf.cell 3;rw [hWf] at hfin g0 g1 g2 g3;rw [hW] at hfin hDW g0 g1 g2 g3;simp at g0 g1 g2 g3;have HF:=Lib.hid (And.intro hDW hfin);clear hDW hfin hWf hbf hkf;clear hW hsz hbW hkW bR1 kw1 hD1 hcs hD hDl bR2 hz2 hDl1 hD2 hfr k2 HE HAN
        gi_wp2
        refine ⟨by simp,.inl ⟨D,_,rfl,run_takeDeferred HF.out.1,?_⟩⟩;exact ⟨.tuple #[.agg #[.int .i64 x.k,.string (str x.nm),.int .i64 x.i,.slice a2 x.args.length c2],.int .i64 0],by simp [results,Try.results16,go_sem,g0,g1,g2,g3],a2,c2,rfl,HF.out.2⟩
    case stop =>
      rintro D c pre W3 _ _ h _;exact h.elim
  · obtain ⟨kk0,bR⟩:=K0.out;have hov:ov=(.node 0 [] 0 [],70):=by
      rw [HOV.out];unfold lsV;rw [List.length_map,← HLN.out,if_neg hlt]
    subst hov;have hfin:Fr 0 (fun _=>False) ((w.alloc (tb t b d)).alloc zb) w.heap.size ((w.alloc (tb t b d)).alloc zb).heap.size (.node 0 [] 0 []) none 0∧Keep (fun g=>g < w.heap.size) w ((w.alloc (tb t b d)).alloc zb):=⟨.old (tm_leaf (by decide) (by decide) (by simp)) (by simp;omega),kk0⟩;have g0:=bR.cell 0;have g1:=bR.cell 1;have g2:=bR.cell 2;have g3:=bR.cell 3;simp at g0 g1 g2 g3;have HE:=Lib.hid hfin;clear hfin;clear kk0 bR K0 HOV
    gi_wp2
    exact ⟨.tuple #[.agg #[.int .i64 0,.string ⟨#[]⟩,.int .i64 0,.slice none 0 0],.int .i64 70],by simp [results,Try.results16,go_sem,g0,g1,g2,g3],none,0,rfl,HE.out⟩
theorem List_any (hS:TmSl w.heap.size w a ps) (hT:TmAt w.heap.size w t b d) (hlen:ps.length ≤ 2305843009213693951) (ha:∀ g off,a=some ⟨g,off,none⟩→g < w.heap.size) :
    Calls Try.prog 16 #[.slice a ps.length cap,tv t b d] w fun e w'=>∃ a' c',e=.returned (.tuple #[tv (lsV (ps.map (·.1)) t).1 a' c',.int .i64 (lsV (ps.map (·.1)) t).2]) ∧
      Fr 0 (fun _=>False) w' w.heap.size w'.heap.size (lsV (ps.map (·.1)) t).1 a' c'∧Keep (fun g=>g < w.heap.size) w w':=(callsIn_wide (n:=8)).1 (List_in hS hT hlen ha)
end
def itF:Nat→T→List T × T
  | 0,t=>([],t)
  | n + 1,.c nm [x,l]=>if nm=[46] then (x::(itF n l).1,(itF n l).2) else ([],.c nm [x,l])
  | n + 1,t=>([],t)
def T.items (t:T):List T × T:=itF t.nd t
def lenOf:Value→Nat
  | .slice _ n _=>n
  | _=>0
theorem itF_stop {n:Nat} {t:Tm} (h:¬ (t.k=4∧t.nm=[46]∧t.args.length=2)) (hok:t.ok=true):itF n t.tree=([],t.tree):=by
  cases n with
  | zero=>rfl
  | succ n =>
    rcases Tm.ok_kind hok with hk | hk | hk | hk
    · rw [tree_1 hk];rfl
    · rw [tree_2 hk];rfl
    · rw [tree_3 hk];rfl
    · rw [tree_4 hk]
      match hl:t.args with
      | []=>rfl
      | [x]=>rfl
      | [x,y] =>
        have hn:¬ t.nm=[46]:=fun e=>h ⟨hk,e,by rw [hl];rfl⟩;simp [itF,hn]
      | x::y::z::r=>rfl
theorem itF_go {n:Nat} {t x l:Tm} (hk:t.k=4) (hn:t.nm=[46]) (hl:t.args=[x,l]):itF (n + 1) t.tree=(x.tree::(itF n l.tree).1,(itF n l.tree).2):=by
  rw [tree_4 hk,hl,hn];simp [itF]
theorem news_at {w:World} {g:Nat} {ty:TypeId} {news:List Value} (hb:Blk w g ty news.toArray):∀ j u,news[j]? = some u→w.cell? ((⟨g,0,none⟩:Addr).add j)=some u:=fun j u h=>by
  have e:((⟨g,0,none⟩:Addr).add j)=⟨g,j,none⟩:=by simp [Addr.add];omega
  rw [e,hb.cell,List.getElem?_toArray];exact h
theorem Fr.growR {B0 lo hi c:Nat} {Q Q':Nat→Prop} {w:World} {t:Tm} {a:Option Addr} (h:Fr B0 Q w lo hi t a c) {H:Nat} (hH:hi ≤ H):(∀ k,lo ≤ k→Q' k→Q k∨H ≤ k)→Fr B0 Q' w lo hi t a c:=by
  induction h with
  | old h hl=>intro _;exact .old h hl
  | node hk1 hw hn h8 hlb hub hq blk hcp hs ih =>
    intro hQ;refine .node hk1 hw hn h8 hlb hub (fun h=>?_) blk hcp fun j p hj=>ih j p hj hQ;rcases hQ _ hlb h with h | h
    · exact hq h
    · omega
structure ItR (w w1:World) (t:Tm) (m:Nat) (L:List T) (u:Value) (cur:Tm) (a:Option Addr) (c:Nat) (ps:List TP) (wr:World):Prop where
  kp:Keep (fun g=>g < w.heap.size + 2∧g ≠ w.heap.size) w1 wr
  box:Blk wr w.heap.size 24 #[.int .i64 cur.k,.string (str cur.nm),.int .i64 cur.i,.slice a cur.args.length c]
  cu:TmAt w.heap.size wr cur a c
  ok:cur.ok=true
  nd:cur.nd ≤ m
  row:wr.ownsRow (w.heap.size + 2) 24 4 u ps.length (ps.flatMap TP.cells)
  fr:∀ p ∈ ps,Fr 0 (fun k=>u.ownBlock=some k) wr (w.heap.size + 2) wr.heap.size p.1 p.2.1 p.2.2
  trm:ps.map (·.1)=L.map T.tm
  eq:t.tree.items=(L ++ (itF m cur.tree).1,(itF m cur.tree).2)
  len:ps.length + m ≤ 100
def itV (t:Tm):List Tm × Tm:=if t.right=true then (t.tree.items.1.map T.tm,t.tree.items.2.tm) else ([],.node 0 [] 0 [])
section
variable {w:World} {t:Tm} {a:Option Addr} {c:Nat}
set_option maxRecDepth 100000 in
set_option maxHeartbeats 4000000 in
theorem Items_any (hT:TmAt w.heap.size w t a c) :
    Calls Try.prog 18 #[tv t a c] w fun e w'=>∃ (u:Value) (ps:List TP) (a':Option Addr) (c':Nat),e=.returned (.tuple #[u,tv (itV t).2 a' c'])∧w'.ownsRow w.heap.size 24 4 u ps.length (ps.flatMap TP.cells)∧ps.map (·.1)=(itV t).1 ∧
      (∀ p ∈ ps,Fr 0 (fun k=>u.ownBlock=some k) w' w.heap.size w'.heap.size p.1 p.2.1 p.2.2)∧Fr 0 (fun k=>u.ownBlock=some k) w' w.heap.size w'.heap.size (itV t).2 a' c'∧Keep (fun g=>g < w.heap.size) w w':=by
  have k0:Keep (fun g=>g < w.heap.size) w ((w.alloc (tb t a c)).alloc zb):=((Keep.refl _ w).alloc _).alloc _;have b0:=(Blk.new w 24 #[.int .i64 t.k,.string (str t.nm),.int .i64 t.i,.slice a t.args.length c]).alloc zb;have b1:=Blk.new (w.alloc (tb t a c)) 24 #[.int .i64 0,.string ⟨#[]⟩,.int .i64 0,.slice none 0 0];obtain ⟨w0,hw0⟩:∃ w0,w0=(w.alloc (tb t a c)).alloc zb:=⟨_,rfl⟩;have hz0:w0.heap.size=w.heap.size + 2:=by rw [hw0];simp
  simp only [World.size_alloc,← hw0] at k0 b0 b1;have hR:=isRight_any (hT.on k0);have K0:=Lib.hid (And.intro k0 (And.intro b0 b1));clear k0 b0 b1;have HR:=Lib.hid hR;clear hR;have HT:=Lib.hid hT;clear hT;unfold tv;obtain ⟨ov,hov⟩:∃ ov,ov=itV t:=⟨_,rfl⟩;rw [← hov];unfold itV at hov;have HOV:=Lib.hid hov;clear hov;obtain ⟨r,hr⟩:∃ r,r=t.right:=⟨_,rfl⟩;rw [← hr] at HR HOV;have Hr:=Lib.hid hr;clear hr;unfold tb at hw0;have HW0:=Lib.hid hw0;clear hw0
  go_enter Try.func18,Try.ntmps18
  go_wp2_with fail
  rw [← HW0.out];refine HR.out.mono ?_;rintro e w1 ⟨rfl,k1⟩;obtain ⟨kk0,bb0,bb1⟩:=K0.out;have hz1:=k1.size;have bc0:=bb0.keep k1 bb0.lt;have bc1:=bb1.keep k1 bb1.lt;have kk1:=kk0.onto k1;have hT1:TmAt w.heap.size w1 t a c:=HT.out.keepX kk1 (fun _ h=>h);have f0:=bc1.frozen 0;have f1:=bc1.frozen 1;have f2:=bc1.frozen 2;have f3:=bc1.frozen 3;have e0:=bc1.cell 0;have e1:=bc1.cell 1;have e2:=bc1.cell 2;have e3:=bc1.cell 3;simp at e0 e1 e2 e3;have l0:w.heap.size < w1.heap.size:=by omega
  have l1:w.heap.size + 1 < w1.heap.size:=by omega
  cases r with
  | false =>
    obtain ⟨W,hW,-,hsz,hbW,-,hkW⟩:=box_put (x:=.node 0 [] 0 []) (a:=none) (c:=0) bc1 (Keep.refl (fun _=>True) _) trivial;have g0:=hbW.cell 0;have g1:=hbW.cell 1;have g2:=hbW.cell 2;have g3:=hbW.cell 3;rw [hW] at g0 g1 g2 g3;simp [Tm.k,Tm.nm,Tm.i,Tm.args] at g0 g1 g2 g3;have es:str []=(⟨#[]⟩:ByteArray):=rfl;simp only [es] at g0 g1 g2 g3;clear es;have hfin:Fr 0 (fun k=>(Value.slice none 0 0).ownBlock=some k) W w.heap.size W.heap.size (.node 0 [] 0 []) none 0∧Keep (fun g=>g < w.heap.size) w W:=⟨.old (tm_leaf (by decide) (by decide) (by simp)) (by omega),kk1.trans (hkW.less (fun g hg=>by omega))⟩;rw [hW] at hfin;have HE:=Lib.hid hfin;clear hfin;clear hW hkW hbW hsz kk0 bb0 bb1 bc0 bc1 kk1 hT1 k1 K0 HW0 hz1;have hov:=HOV.out;rw [if_neg (by simp)] at hov;subst hov;clear HOV
    go_wp2_with fail
    exact bodyPost_ret (v:=.tuple #[.slice none 0 0,.agg #[.int .i64 0,.string ⟨#[]⟩,.int .i64 0,.slice none 0 0]]) (by simp [results,Try.results18,go_sem,g0,g1,g2,g3]) rfl ⟨_,[],none,0,rfl,⟨by simp,.inl ⟨rfl,rfl⟩⟩,rfl,by simp,HE.out⟩
  | true =>
    have hright:=right_of.1 Hr.out.symm;have hrel0:ItR w w1 t t.nd [] (.slice none 0 0) t a c [] w1:=⟨Keep.refl _ _,bc0,hT1,hright.1,Nat.le_refl _,⟨by simp,.inl ⟨rfl,rfl⟩⟩,by simp,rfl,by unfold T.items;rw [(Tm.tree_ns hright.1).2.1];simp,by have:=hright.2.2;simp;omega⟩;have HREL0:=Lib.hid hrel0;clear hrel0;obtain ⟨i0,hi0,hz0',hz1',hz2'⟩:=info_parts infoT;have HX:=Lib.hid (And.intro bc1 (And.intro kk1 (And.intro hz0 hz1)));have hovv:=HOV.out;rw [if_pos rfl] at hovv;subst hovv;clear HOV hright hT1 kk1 bc0 bc1 k1 kk0 bb0 bb1 K0 HW0 HR HT Hr;have c0:=HREL0.out.box.cell 0;simp at c0
    go_wp2_with fail
    go_loopw [4] (fun u wr=>∃ (m:Nat) (L:List T) (cur:Tm) (a':Option Addr) (c':Nat) (ps:List TP) (ua:Option Addr) (uc:Nat),u=.slice ua ps.length uc∧ItR w w1 t m L (.slice ua ps.length uc) cur a' c' ps wr) (fun u _=>101 - lenOf u)
    case atStart=>exact ⟨t.nd,[],t,a,c,[],none,0,rfl,HREL0.out⟩
    case round =>
      clear c0 e0 e1 e2 e3 f0 f1 f2 f3;obtain ⟨m,L,cur,a',c',ps,ua,uc,rfl,hrel⟩:=hrel;have q0:=hrel.box.cell 0;have q1:=hrel.box.cell 1;have q2:=hrel.box.cell 2;have q3:=hrel.box.cell 3;simp at q0 q1 q2 q3;have g0:=hrel.box.frozen 0;have g1:=hrel.box.frozen 1;have g2:=hrel.box.frozen 2;have g3:=hrel.box.frozen 3;have lq:=hrel.box.lt;have hps:=hrel.len;have hzr:=hrel.kp.size;by_cases hgo:cur.k=4∧cur.nm=[46]∧cur.args.length=2
      · obtain ⟨hk,hn,hl⟩:=hgo;obtain ⟨x,l,hxl⟩:∃ x l,cur.args=[x,l]:=by
          match h:cur.args with
          | []=>rw [h] at hl;simp at hl
          | [_]=>rw [h] at hl;simp at hl
          | [x,l]=>exact ⟨x,l,rfl⟩
          | _::_::_::_=>rw [h] at hl;simp at hl
        have hokx:=Tm.ok_args hrel.ok hk;have HK4:=Lib.hid (And.intro hk hn);obtain ⟨b,off,ax,cx,ha1,hbB,hTx,u0,u1,u2,u3⟩:=hrel.cu.arg (j:=0) (x:=x) (by rw [hxl];rfl);obtain ⟨b',off',al,cl,ha2,-,hTl,v0,v1,v2,v3⟩:=hrel.cu.arg (j:=1) (x:=l) (by rw [hxl];rfl);rw [ha1] at ha2;simp only [Option.some.injEq,Addr.mk.injEq,and_true] at ha2;obtain ⟨rfl,rfl⟩:=ha2;subst ha1;simp only [Nat.zero_mul,Nat.zero_add,Nat.add_zero,Nat.one_mul,← Nat.add_assoc] at u0 u1 u2 u3 v0 v1 v2 v3;have hAN:=anew_any (Nat.le_refl _) ((hTx.up (Nat.le_trans (Nat.le_add_right _ 2) (by omega:w.heap.size + 2 ≤ wr.heap.size)))) (hokx.2.2.1 x (by rw [hxl];simp));have HREL:=Lib.hid hrel;clear hrel;have HAN:=Lib.hid hAN;clear hAN;have HQ:=Lib.hid (And.intro hokx (And.intro hTx (And.intro hTl (And.intro hbB hxl))));clear hokx hTx hTl hbB hxl;rw [hk] at q0;rw [hn] at q1;rw [hl] at q3;have es:str [46]=(⟨#[46]⟩:ByteArray):=rfl;rw [es] at q1;clear es hk hn hl
        go_wp2_with fail
        obtain ⟨y,hy⟩:∃ y,y=x.tree.tm:=⟨_,rfl⟩;rw [← hy] at HAN;refine HAN.out.mono ?_;rintro e w2 ⟨a2,c2,rfl,hfr,k2⟩;have hrel:=HREL.out;obtain ⟨hokx,hTx,hTl,hbB,hxl⟩:=HQ.out;have hz2:=k2.size;have hn4:cur.k=4:=HK4.out.1;have hnd:l.nd + 1 ≤ m:=by
          have h1:=hrel.nd;rw [cur.nd_eq,if_pos hn4,hxl,ndL_cons,ndL_cons,ndL_nil] at h1;omega
        obtain ⟨m',rfl⟩:∃ m',m=m' + 1:=⟨m - 1,by omega⟩;have hrow2:=row_on hrel.row k2 (fun g hg=>by obtain ⟨_,cs,hb⟩:=row_type hrel.row hg;exact hb.lt);have hbx2:=hrel.box.keep k2 hrel.box.lt;have hafter:∀ g1 cap1 w3,w3.ownsRow (w.heap.size + 2) 24 4 (.slice (some ⟨g1,0,none⟩) (ps.length + 1) cap1) (ps.length + 1) (ps.flatMap TP.cells ++ y.cells a2 c2)→(w2.alloc (.cells (y.cells a2 c2).toArray 24)).grownBy w3 (Value.slice ua ps.length uc).ownBlock→((Value.slice ua ps.length uc).ownBlock=some g1∨g1=w2.heap.size + 1)→g1 < w3.heap.size →
            w.heap.size < w3.heap.size∧Blk w3 w.heap.size 24 #[.int .i64 cur.k,.string (str cur.nm),.int .i64 cur.i,.slice (some ⟨b,off,none⟩) cur.args.length c']∧b < w3.heap.size∧(∀ o v,wr.cell? ⟨b,o,none⟩=some v→w3.cell? ⟨b,o,none⟩=some v) ∧
            ∀ W,W=((((w3.setCell ⟨w.heap.size,0,none⟩ (.int .i64 l.k)).setCell ⟨w.heap.size,1,none⟩ (.string (str l.nm))).setCell ⟨w.heap.size,2,none⟩ (.int .i64 l.i)).setCell ⟨w.heap.size,3,none⟩ (.slice al l.args.length cl))→ItR w w1 t m' (L ++ [x.tree]) (.slice (some ⟨g1,0,none⟩) (ps.length + 1) cap1) l al cl (ps ++ [(y,a2,c2)]) W:=by
          intro g1 cap1 w3 hown hgr hat hlt;have hz3:=hgr.size;rw [World.size_alloc] at hz3;have nup:∀ k,(Value.slice ua ps.length uc).ownBlock=some k→w.heap.size + 2 ≤ k∧k < wr.heap.size:=fun k hk=>by
            obtain ⟨h1,cs,hb⟩:=row_type hrel.row hk;exact ⟨h1,hb.lt⟩
          have kg:Keep (fun k=>(Value.slice ua ps.length uc).ownBlock ≠ some k) wr w3:=(k2.all).trans (((Keep.refl _ w2).alloc _).trans (Keep.ofGrown hgr (fun k e hx=>hx e)));have hbx3:=hrel.box.keep kg (fun e=>by have:=nup _ e;omega);refine ⟨by omega,hbx3,by omega,fun o v hv=>(World.cell?_of_block (a:=⟨b,o,none⟩) (kg.block b (by omega) (fun e=>by have:=nup _ e;omega))).trans hv,fun W hW=>?_⟩;have ks:Keep (fun k=>k ≠ w.heap.size) w3 W:=by rw [hW];exact (Keep.refl _ w3).set4 (o:=0) (fun h=>h rfl)
          have hsz:W.heap.size=w3.heap.size:=by rw [hW];simp [World.setCell]
          have kc:Keep (fun k=>(Value.slice ua ps.length uc).ownBlock ≠ some k∧k ≠ w.heap.size) wr W:=(kg.less (fun k hk=>hk.1)).trans (ks.less (fun k hk=>hk.2));have hg1:w.heap.size + 2 ≤ g1:=by
            rcases hat with e | e
            · exact (nup _ e).1
            · omega
          refine ⟨?_,by rw [hW];exact hbx3.set4,hTl.keepX kc (fun k hk=>⟨fun e=>by have:=nup _ e;omega,by omega⟩),hokx.2.2.1 l (by rw [hxl];simp),by omega,?_,?_,?_,?_,?_⟩
          · exact hrel.kp.trans (kc.less (fun g hg=>⟨fun e=>by have:=nup _ e;omega,hg.2⟩))
          · have:=row_on hown ks (fun k hk=>by simp only [Value.ownBlock,Option.some.injEq] at hk;omega);rw [List.length_append,List.length_singleton,List.flatMap_append];simpa [TP.cells] using this
          · intro p hp;rcases List.mem_append.1 hp with hp | hp
            · have h1:=(hrel.fr p hp).keepR kc (fun k hk=>by
                rcases hk with hk | hk
                · omega
                · exact ⟨hk.2,by omega⟩)
              refine (h1.growR (Q':=fun k=>(Value.slice (some ⟨g1,0,none⟩) (ps.length + 1) cap1).ownBlock=some k) (Nat.le_refl _) (fun k hk hq=>?_)).up (by omega) (Nat.le_refl _);simp only [Value.ownBlock,Option.some.injEq] at hq;rcases hat with e | e
              · left;rw [e,hq]
              · right;omega
            · simp only [List.mem_singleton] at hp;subst hp;have h1:=hfr.keepR (X:=fun k=>w2.heap.size ≤ k∨((Value.slice ua ps.length uc).ownBlock ≠ some k∧k ≠ w.heap.size)) (w':=W) ⟨ks.os.trans (hgr.os.trans rfl),ks.tape.trans (hgr.tape.trans rfl),ks.output.trans (hgr.output.trans rfl),by omega,fun k hk hx=>by
                  rcases hx with hx | hx
                  · omega
                  · rw [ks.block k (by omega) hx.2,hgr.block k (by rw [World.size_alloc];omega) (fun e=>hx.1 e.symm)];exact ((Keep.refl (fun _=>True) w2).alloc _).block k hk trivial⟩ (fun k hk=>by
                rcases hk with hk | hk
                · omega
                · right;exact ⟨fun e=>by have:=nup _ e;omega,by omega⟩)
              refine (h1.growR (Q':=fun k=>(Value.slice (some ⟨g1,0,none⟩) (ps.length + 1) cap1).ownBlock=some k) (Nat.le_refl _) (fun k hk hq=>?_)).up (by omega) (by omega);simp only [Value.ownBlock,Option.some.injEq] at hq;rcases hat with e | e
              · have:=nup _ e;omega
              · right;omega
          · rw [List.map_append,List.map_append,hrel.trm,hy];rfl
          · rw [hrel.eq,itF_go hn4 HK4.out.2 hxl,List.append_assoc];rfl
          · have:=hrel.len;simp;omega
        have HAFT:=Lib.hid hafter;clear hafter;have HV:=Lib.hid (And.intro v0 (And.intro v1 (And.intro v2 v3)));have HL2:=Lib.hid (show cur.args.length=2 by rw [hxl];rfl);have HR2:=Lib.hid hrow2;clear hrow2;have HFX:=Lib.hid (And.intro hfr (And.intro k2 hbx2));clear hfr k2 hbx2;clear hrel hokx hTx hTl hbB hxl hn4 hnd HAN HREL HQ hy u0 u1 u2 u3 v0 v1 v2 v3 q0 q1 q2 q3 g0 g1 g2 g3
        go_wp2_with (at_builtin;refine wpList_append_lies _ rfl _ _ 22 rfl (w.heap.size + 2) 24 i0 (.agg #[.int .i64 0,.string ⟨#[]⟩,.int .i64 0,.slice none 0 0]) 4 56 Try.underlying22 hi0 hz0' hz1' hz2' rfl (by decide) _ ps.length _ rfl (HR2.out.alloc _) ⟨w2.heap.size,0,none⟩ 1 1 (y.cells a2 c2) rfl rfl (news_at (Blk.new w2 24 (y.cells a2 c2).toArray)) (by simp [Tm.cells,Value.oneCell']) (by decide) (by unfold maxLen;omega) (by omega) (by simp;omega) (w2.heap.size + 1) (by simp) ?_)
        intro g1 capg1 w3 hown hgr hat hltg1;obtain ⟨lt3,bx3,lb3,hcell,hfin⟩:=HAFT.out g1 capg1 w3 hown hgr hat hltg1;obtain ⟨v0,v1,v2,v3⟩:=HV.out;replace v0:=hcell _ _ v0;replace v1:=hcell _ _ v1;replace v2:=hcell _ _ v2;replace v3:=hcell _ _ v3;have q0:=bx3.cell 0;have q1:=bx3.cell 1;have q2:=bx3.cell 2;have q3:=bx3.cell 3;rw [HL2.out] at q3;simp at q0 q1 q2 q3;have g0:=bx3.frozen 0;have gg1:=bx3.frozen 1;have g2:=bx3.frozen 2;have g3:=bx3.frozen 3;have HFN:=Lib.hid hfin;clear hfin;clear hown hgr hat bx3 hcell HAFT HV HR2 HFX
        go_wp2_with fail
        go_roundw
        case rel=>exact ⟨m',L ++ [x.tree],l,al,cl,ps ++ [(y,a2,c2)],some ⟨g1,0,none⟩,capg1,by rw [List.length_append];rfl,by rw [List.length_append,List.length_singleton];exact HFN.out _ rfl⟩
        case measure=>simp [lenOf];omega
      · have hstop:=itF_stop (n:=m) hgo hrel.ok;have heq:=hrel.eq;rw [hstop,List.append_nil] at heq;have hAN:=anew_any (Nat.le_refl _) (hrel.cu.up (by omega:w.heap.size ≤ wr.heap.size)) hrel.ok;obtain ⟨y,hy⟩:∃ y,y=t.tree.items.2.tm:=⟨_,rfl⟩;have hyc:cur.tree.tm=y:=by rw [hy,heq]
        rw [hyc] at hAN;obtain ⟨bc1,kk1,-,-⟩:=HX.out;have hL:ps.map (·.1)=t.tree.items.1.map T.tm:=by rw [hrel.trm,heq]
        have nup:∀ k,(Value.slice ua ps.length uc).ownBlock=some k→w.heap.size + 2 ≤ k∧k < wr.heap.size:=fun k hk=>by
          obtain ⟨h1,cs,hb⟩:=row_type hrel.row hk;exact ⟨h1,hb.lt⟩
        have hfl:∀ w2,Keep (fun g=>g < wr.heap.size) wr w2→∀ a2 c2,Fr 0 (fun _=>False) w2 wr.heap.size w2.heap.size y a2 c2→Blk w2 (w.heap.size + 1) 24 #[.int .i64 0,.string ⟨#[]⟩,.int .i64 0,.slice none 0 0] ∧
            ∀ W,W.heap.size=w2.heap.size→Keep (fun k=>k ≠ w.heap.size + 1) w2 W→W.ownsRow w.heap.size 24 4 (.slice ua ps.length uc) ps.length (ps.flatMap TP.cells)∧ps.map (·.1)=t.tree.items.1.map T.tm ∧
              (∀ p ∈ ps,Fr 0 (fun k=>(Value.slice ua ps.length uc).ownBlock=some k) W w.heap.size W.heap.size p.1 p.2.1 p.2.2)∧Fr 0 (fun k=>(Value.slice ua ps.length uc).ownBlock=some k) W w.heap.size W.heap.size y a2 c2∧Keep (fun g=>g < w.heap.size) w W:=by
          intro w2 k2 a2 c2 hfr;refine ⟨(bc1.keep hrel.kp ⟨by omega,by omega⟩).keep k2 (by omega),fun W hsz hkW=>?_⟩;have hz2:=k2.size;have kc:Keep (fun k=>k ≠ w.heap.size + 1) wr W:=(k2.all).trans hkW;refine ⟨?_,hL,fun p hp=>?_,?_,?_⟩
          · have h1:=row_on hrel.row kc (fun k hk=>by have:=nup k hk;omega);refine ⟨h1.1,?_⟩;rcases h1.2 with h2 | ⟨g,cap,cu,e,hb,r⟩
            · exact .inl h2
            · exact .inr ⟨g,cap,cu,e,by omega,r⟩
          · exact ((hrel.fr p hp).keepR kc (fun k hk=>by omega)).up (by omega) (by omega)
          · have h1:=hfr.keepR hkW (fun k hk=>by omega);exact (h1.growR (Q':=fun k=>(Value.slice ua ps.length uc).ownBlock=some k) (Nat.le_refl _) (fun k hk hq=>by have:=nup k hq;omega)).up (by omega) (by omega)
          · exact kk1.trans ((hrel.kp.less (fun g hg=>⟨by omega,by omega⟩)).trans (kc.less (fun g hg=>by omega)))
        have HFL:=Lib.hid hfl;clear hfl;have HAN:=Lib.hid hAN;clear hAN;have HREL:=Lib.hid hrel;clear hrel;have HY:=Lib.hid (And.intro hy (And.intro hyc hL));clear hy hyc hL;clear hstop heq bc1 kk1 nup;by_cases hk:cur.k=4
        · rw [hk] at q0;by_cases hn:cur.nm=[46]
          · have hl:¬ cur.args.length=2:=fun e=>hgo ⟨hk,hn,e⟩;rw [hn] at q1;have es:str [46]=(⟨#[46]⟩:ByteArray):=rfl;rw [es] at q1;have hAN:=HAN.out;unfold tv at hAN;rw [hk,hn,es] at hAN;replace HAN:=Lib.hid hAN;clear es hgo hAN
            go_wp2_with fail
            refine HAN.out.mono ?_;rintro e w2 ⟨a2,c2,rfl,hfr,k2⟩;obtain ⟨bR2,hfinal⟩:=HFL.out w2 k2 a2 c2 hfr;have e0:=bR2.cell 0;have e1:=bR2.cell 1;have e2:=bR2.cell 2;have e3:=bR2.cell 3;simp at e0 e1 e2 e3;have f0:=bR2.frozen 0;have f1:=bR2.frozen 1;have f2:=bR2.frozen 2;have f3:=bR2.frozen 3;have le:=bR2.lt;obtain ⟨W,hW,-,hsz,hbW,-,hkW⟩:=box_put (x:=y) (a:=a2) (c:=c2) bR2 (Keep.refl (fun _=>True) _) trivial;have z0:=hbW.cell 0;have z1:=hbW.cell 1;have z2:=hbW.cell 2;have z3:=hbW.cell 3;rw [hW] at z0 z1 z2 z3;simp at z0 z1 z2 z3;have hE:=hfinal W hsz hkW;rw [hW] at hE;have HE:=Lib.hid hE;clear hE;clear hW hsz hbW hkW hfinal bR2 hfr k2 HFL HAN
            go_wp2_with fail
            have hy:=HY.out.1;subst hy;exact bodyPost_ret (v:=.tuple #[.slice ua ps.length uc,.agg #[.int .i64 t.tree.items.2.tm.k,.string (str t.tree.items.2.tm.nm),.int .i64 t.tree.items.2.tm.i,.slice a2 t.tree.items.2.tm.args.length c2]]) (by simp [results,Try.results18,go_sem,z0,z1,z2,z3]) rfl ⟨_,ps,a2,c2,rfl,HE.out.1,HE.out.2.1,(by first | exact HE.out.2.2.1 | exact fun x1 x2 x3 h=>HE.out.2.2.1 (x1,x2,x3) h),HE.out.2.2.2⟩
          · have hne0:¬ (str cur.nm).toList=[46]:=by
              rw [ByteArray.toList_eq,str_data];exact hn
            have hne:((str cur.nm).toList == [46])=false:=by simpa using hne0
            have hAN:=HAN.out;unfold tv at hAN;rw [hk] at hAN;replace HAN:=Lib.hid hAN;clear hgo hAN
            go_wp2_with fail
            refine HAN.out.mono ?_;rintro e w2 ⟨a2,c2,rfl,hfr,k2⟩;obtain ⟨bR2,hfinal⟩:=HFL.out w2 k2 a2 c2 hfr;have e0:=bR2.cell 0;have e1:=bR2.cell 1;have e2:=bR2.cell 2;have e3:=bR2.cell 3;simp at e0 e1 e2 e3;have f0:=bR2.frozen 0;have f1:=bR2.frozen 1;have f2:=bR2.frozen 2;have f3:=bR2.frozen 3;have le:=bR2.lt;obtain ⟨W,hW,-,hsz,hbW,-,hkW⟩:=box_put (x:=y) (a:=a2) (c:=c2) bR2 (Keep.refl (fun _=>True) _) trivial;have z0:=hbW.cell 0;have z1:=hbW.cell 1;have z2:=hbW.cell 2;have z3:=hbW.cell 3;rw [hW] at z0 z1 z2 z3;simp at z0 z1 z2 z3;have hE:=hfinal W hsz hkW;rw [hW] at hE;have HE:=Lib.hid hE;clear hE;clear hW hsz hbW hkW hfinal bR2 hfr k2 HFL HAN
            go_wp2_with fail
            have hy:=HY.out.1;subst hy;exact bodyPost_ret (v:=.tuple #[.slice ua ps.length uc,.agg #[.int .i64 t.tree.items.2.tm.k,.string (str t.tree.items.2.tm.nm),.int .i64 t.tree.items.2.tm.i,.slice a2 t.tree.items.2.tm.args.length c2]]) (by simp [results,Try.results18,go_sem,z0,z1,z2,z3]) rfl ⟨_,ps,a2,c2,rfl,HE.out.1,HE.out.2.1,(by first | exact HE.out.2.2.1 | exact fun x1 x2 x3 h=>HE.out.2.2.1 (x1,x2,x3) h),HE.out.2.2.2⟩
        · clear hgo
          go_wp2_with fail
          refine HAN.out.mono ?_;rintro e w2 ⟨a2,c2,rfl,hfr,k2⟩;obtain ⟨bR2,hfinal⟩:=HFL.out w2 k2 a2 c2 hfr;have e0:=bR2.cell 0;have e1:=bR2.cell 1;have e2:=bR2.cell 2;have e3:=bR2.cell 3;simp at e0 e1 e2 e3;have f0:=bR2.frozen 0;have f1:=bR2.frozen 1;have f2:=bR2.frozen 2;have f3:=bR2.frozen 3;have le:=bR2.lt;obtain ⟨W,hW,-,hsz,hbW,-,hkW⟩:=box_put (x:=y) (a:=a2) (c:=c2) bR2 (Keep.refl (fun _=>True) _) trivial;have z0:=hbW.cell 0;have z1:=hbW.cell 1;have z2:=hbW.cell 2;have z3:=hbW.cell 3;rw [hW] at z0 z1 z2 z3;simp at z0 z1 z2 z3;have hE:=hfinal W hsz hkW;rw [hW] at hE;have HE:=Lib.hid hE;clear hE;clear hW hsz hbW hkW hfinal bR2 hfr k2 HFL HAN
          go_wp2_with fail
          have hy:=HY.out.1;subst hy;exact bodyPost_ret (v:=.tuple #[.slice ua ps.length uc,.agg #[.int .i64 t.tree.items.2.tm.k,.string (str t.tree.items.2.tm.nm),.int .i64 t.tree.items.2.tm.i,.slice a2 t.tree.items.2.tm.args.length c2]]) (by simp [results,Try.results18,go_sem,z0,z1,z2,z3]) rfl ⟨_,ps,a2,c2,rfl,HE.out.1,HE.out.2.1,(by first | exact HE.out.2.2.1 | exact fun x1 x2 x3 h=>HE.out.2.2.1 (x1,x2,x3) h),HE.out.2.2.2⟩
end
end Go.Proofs.Ytjinmnekfhekpaa
