/-
  Joined texts (Tm27, Tm28, Tm29, Tm30). No condition.
-/
import Derived.Test.YtjinmnekfhekpaaQME
namespace Go.Proofs.Ytjinmnekfhekpaa
open Go.RowKit Go.Maps
set_option linter.unusedVariables false
set_option linter.unusedSimpArgs false
abbrev zT:Value:=.agg #[.int .i64 0,.string ⟨#[]⟩,.int .i64 0,.slice none 0 0]
def fBd (bd:Int→Option TP):Unit→Int→Tm × Unit:=fun _ x=>(match bd x with | some p=>p.1 | none=>.node 1 [] x [],())
structure ApI (B0 mb bn:Nat) (bd:Int→Option TP) (n:Nat) (s:Unit) (P:Nat→Prop) (w:World):Prop where
  map:MapI w mb zT (fun x=>(bd x).map (fun p=>tv p.1 p.2.1 p.2.2)) n
  hbn:Blk w bn 68 #[.map (some mb)]
  tms:∀ x p,bd x=some p→TmAt B0 w p.1 p.2.1 p.2.2
  own:P mb∧P bn
  lo:∀ g,P g→B0 ≤ g∧g < w.heap.size
theorem ApI.on {B0 mb bn n:Nat} {bd:Int→Option TP} {P:Nat→Prop} {w w':World} (h:ApI B0 mb bn bd n () P w) (hk:Keep (fun g=>g < w.heap.size) w w'):ApI B0 mb bn bd n () P w' :=
  ⟨h.map.keep hk h.map.lt,h.hbn.keep hk h.hbn.lt,fun x p hx=>(h.tms x p hx).keepX (X:=fun _=>True) hk.all (fun _ _=>trivial),h.own,fun g hg=>⟨(h.lo g hg).1,Nat.lt_of_lt_of_le (h.lo g hg).2 hk.size⟩⟩
set_option maxRecDepth 100000 in
set_option maxHeartbeats 4000000 in
theorem put_apply {B0 mb bn n:Nat} {bd:Int→Option TP}:PutC (fBd bd) B0 B0 47 #[.pointer (some ⟨bn,0,none⟩)] (ApI B0 mb bn bd n) (fun _ _=>True) where
  enter:=fun args w=>enters_of Try.func47 (by kernel_rfl) rfl args w
  frame:=fun _ P w w' h hk=>⟨h.map.keep hk (.inl h.own.1),h.hbn.keep hk (.inl h.own.2),fun x p hx=>(h.tms x p hx).keepX hk (fun k hk=>.inr hk),h.own,fun g hg=>⟨(h.lo g hg).1,Nat.lt_of_lt_of_le (h.lo g hg).2 hk.size⟩⟩
  lt:=fun _ P w h g hg=>(h.lo g hg).2
  old:=fun _ P w h g hg hp=>by have:=(h.lo g hp).1;omega
  le:=Nat.le_refl _
  call:=by
    intro s P w v h hB hwf hv1 _;have k0:∀ o,Keep (fun g=>g < w.heap.size) w (w.alloc o):=fun o=>(Keep.refl _ w).alloc o;have h1:=h.on (k0 zb);have hlk:=h1.map.look Try.underlying68 (by kernel_rfl) hwf;have c1:=h.hbn.cell 0;simp at c1;have l1:=h.hbn.lt;have hbx:=Blk.new w 24 #[.int .i64 0,.string ⟨#[]⟩,.int .i64 0,.slice none 0 0];show Calls _ _ #[.int .i64 v,.pointer (some ⟨bn,0,none⟩)] w _;unfold fBd;cases hbd:bd v with
    | none =>
      simp only [hbd,Option.map_none,Option.getD_none,Option.isSome_none] at hlk;have hvar:=fun W=>variable_any W v;have hfin:∀ w2,Keep (fun g=>g < ((w.alloc zb).alloc zb).heap.size) ((w.alloc zb).alloc zb) w2→Blk w2 w.heap.size 24 #[.int .i64 0,.string ⟨#[]⟩,.int .i64 0,.slice none 0 0] ∧
          ∀ W,Keep (fun k=>k ≠ w.heap.size) w2 W→ApI B0 mb bn bd n () P W∧Keep (fun g=>¬ P g) w W:=fun w2 hk=>by
        have hk1:Keep (fun g=>g < w.heap.size) w w2:=(((Keep.refl _ w).alloc _).alloc _).trans (hk.less (fun g hg=>by simp;omega));have h2:=h.on hk1;refine ⟨(hbx.alloc zb).keep hk (by simp;omega),fun W hW=>?_⟩;have hk3:Keep (fun g=>g < w.heap.size) w W:=hk1.trans (hW.less (fun g hg=>by omega));exact ⟨h.on hk3,hk3.all⟩
      have HFIN:=Lib.hid hfin;clear hfin;have HVAR:=Lib.hid hvar;clear hvar;clear h h1 hbx k0 hbd
      go_enter Try.func47,Try.ntmps47
      go_wp2_with fail
      refine (HVAR.out _).mono ?_;rintro e w2 ⟨rfl,hk2⟩;obtain ⟨hb2,hfin⟩:=HFIN.out w2 hk2;have f0:=hb2.frozen 0;have f1:=hb2.frozen 1;have f2:=hb2.frozen 2;have f3:=hb2.frozen 3;have d0:=hb2.cell 0;have d1:=hb2.cell 1;have d2:=hb2.cell 2;have d3:=hb2.cell 3;simp at d0 d1 d2 d3;obtain ⟨W,hW,-,-,hbW,-,hkW⟩:=box_put (x:=.node 1 [] v []) (a:=none) (c:=0) hb2 (Keep.refl (fun _=>True) _) trivial;have g0:=hbW.cell 0;have g1:=hbW.cell 1;have g2:=hbW.cell 2;have g3:=hbW.cell 3;rw [hW] at g0 g1 g2 g3;simp [Tm.k,Tm.nm,Tm.i,Tm.args] at g0 g1 g2 g3;have hE:=hfin W hkW;have HE:=Lib.hid hE;clear hE;have HW:=Lib.hid hW;clear hW;clear hbW hb2 hk2 HVAR HFIN hkW hfin
      go_wp2_with fail
      refine bodyPost_ret (v:=.agg #[.int .i64 1,.string ⟨#[]⟩,.int .i64 v,.slice none 0 0]) (by simp [results,Try.results47,go_sem,Tm.k,Tm.nm,Tm.i,Tm.args,g0,g1,g2,g3];rfl) rfl ⟨none,0,P,rfl,tm_leaf (by decide) hwf (by simp),?_,?_,fun g hg=>.inl hg⟩
      · have hE:=HE.out.1;rw [HW.out] at hE;exact hE
      · have hE:=HE.out.2;rw [HW.out] at hE;exact hE
    | some p =>
      obtain ⟨x,ax,cx⟩:=p;have hTx:=h.tms v _ hbd
      dsimp only at hTx
      simp only [hbd,Option.map_some,Option.getD_some,Option.isSome_some] at hlk;unfold tv at hlk;have HH:=Lib.hid (And.intro h hTx);clear h h1 hTx hbx k0 hbd
      go_enter Try.func47,Try.ntmps47
      go_wp2_with fail
      have hk2:Keep (fun g=>g < w.heap.size) w ((w.alloc (tb x ax cx)).alloc (tb x ax cx)):=((Keep.refl _ w).alloc _).alloc _;have hbx:=(Blk.new w 24 #[.int .i64 x.k,.string (str x.nm),.int .i64 x.i,.slice ax x.args.length cx]).alloc (tb x ax cx);have g0:=hbx.cell 0;have g1:=hbx.cell 1;have g2:=hbx.cell 2;have g3:=hbx.cell 3;simp at g0 g1 g2 g3;refine bodyPost_ret (v:=.agg #[.int .i64 x.k,.string (str x.nm),.int .i64 x.i,.slice ax x.args.length cx]) (by simp [results,Try.results47,go_sem,g0,g1,g2,g3]) rfl ⟨ax,cx,P,rfl,HH.out.2.keepX (X:=fun _=>True) hk2.all (fun _ _=>trivial),HH.out.1.on hk2,hk2.all,fun g hg=>.inl hg⟩
open Go.Shelf
attribute [local go_sem] Oper.semAt_some
abbrev V5:=Value × Value × Value × Value × Value
def SlB (W:World) (a:Option Addr) (len:Nat) (V:Nat→V5):Prop :=
  ∀ j,j < len→∃ b off,a=some ⟨b,off,none⟩∧b < W.heap.size∧W.cell? ⟨b,off + j * 5,none⟩=some (V j).1∧W.cell? ⟨b,off + j * 5 + 1,none⟩=some (V j).2.1∧W.cell? ⟨b,off + j * 5 + 2,none⟩=some (V j).2.2.1∧W.cell? ⟨b,off + j * 5 + 3,none⟩=some (V j).2.2.2.1∧W.cell? ⟨b,off + j * 5 + 4,none⟩=some (V j).2.2.2.2
theorem SlB.same {W W':World} {a:Option Addr} {len:Nat} {V:Nat→V5} (h:SlB W a len V) (hs:W.heap.size ≤ W'.heap.size) (hk:∀ b off,a=some ⟨b,off,none⟩→W'.heap[b]? = W.heap[b]?):SlB W' a len V:=fun j hj=>by
  obtain ⟨b,off,ha,hlt,h1,h2,h3,h4,h5⟩:=h j hj;have hb:=hk b off ha;exact ⟨b,off,ha,by omega,(World.cell?_of_block (a:=⟨b,_,none⟩) hb).trans h1,(World.cell?_of_block (a:=⟨b,_,none⟩) hb).trans h2,(World.cell?_of_block (a:=⟨b,_,none⟩) hb).trans h3,(World.cell?_of_block (a:=⟨b,_,none⟩) hb).trans h4,(World.cell?_of_block (a:=⟨b,_,none⟩) hb).trans h5⟩
abbrev pbV (V:Nat→V5) (j:Nat):Value:=.agg #[(V j).1,(V j).2.1,(V j).2.2.1,(V j).2.2.2.1,(V j).2.2.2.2]
set_option maxRecDepth 100000 in
set_option maxHeartbeats 4000000 in
theorem bback1_in (F:Fence) (n:Nat) (hf:F.fn 71) (hro:F.round=none) (hn:1 ≤ n) (l Bs:Nat) (a:Option Addr) (len cap:Nat) (hlen:len ≤ 2305843009213693951) (V:Nat→V5)
    (J Jx:List (Pl len)→World→Prop)
    (hY:∀ pre (x:Pl len) W,J pre W→pre.length < len→YieldAt F (n - 1) Try.prog l #[.int .i64 (x.1:Int),pbV V x.1] W fun e W' =>
      (e=.returned (.bool true)∧J (pre ++ [x]) W'∧KpB Bs a W W'∧W.heap.size ≤ W'.heap.size)∨(e=.returned (.bool false)∧Jx (pre ++ [x]) W'))
    (W:World) (hBs:W.cell? ⟨Bs,0,none⟩=some (.slice a len cap)) (hc:SlB W a len V) (h0:J [] W) :
    CallsIn F n Try.prog 71 #[.func (.yield l) #[] #[],.pointer (some ⟨Bs,0,none⟩)] W fun e W'=>(∃ v,e=.returned v) ∧
      ((∃ xs:List (Pl len),xs.map (·.1)=(List.range len).reverse∧J xs W')∨(∃ pre,True∧Jx pre W')):=by
  refine callsIn_of_wp Try.func71 rfl hf ?_ hro;simp only [Try.ntmps71,List.size_toArray,List.length_cons,List.length_nil,Nat.reduceAdd,Nat.reduceSub,Array.replicate_succ,Array.replicate_zero,List.push_toArray,List.append_toArray,List.nil_append,List.cons_append];have HC:=Lib.hid hc;clear hc;have h0':=Lib.hid h0;clear h0;have hwr:IntKind.i64.wrap ((len:Int) - 1)=(len:Int) - 1:=by rw [IntKind.wrap_i64];omega
  have HB:=Lib.hid hBs
  gi_wp2
  gi_loopw [3] (fun i wr=>∃ (k:Nat) (pre:List (Pl len)),k ≤ len∧i=.int .i64 ((k:Int) - 1)∧pre.map (·.1)=((List.range len).drop k).reverse∧J pre wr∧KpB Bs a W wr∧W.heap.size ≤ wr.heap.size)
    (fun i _=>(intOf i + 1).toNat)
  case atStart=>exact ⟨len,[],Nat.le_refl _,rfl,by simp,h0'.out,⟨rfl,fun _ _ _=>rfl⟩,Nat.le_refl _⟩
  case round =>
    obtain ⟨k,pre,hk,rfl,hpre,hJ,hkb,hsz⟩:=hrel;have hpl:pre.length=len - k:=by have:=congrArg List.length hpre;simpa using this
    have hbs:wr.cell? ⟨Bs,0,none⟩=some (.slice a len cap):=(World.cell?_of_block (a:=⟨Bs,0,none⟩) hkb.1).trans HB.out;cases k with
    | zero =>
      have HJ:=Lib.hid hJ;clear hJ
      gi_wp2
      go_end0
      exact ⟨⟨_,rfl⟩,.inl ⟨pre,by simpa using hpre,HJ.out⟩⟩
    | succ k =>
      obtain ⟨b,off,rfl,hlt,e0,e1,e2,e3,e4⟩:=HC.out.same hsz hkb.2 k (by omega);obtain ⟨fn,tmps,assign,body,hy,hR⟩:=hY pre ⟨k,by omega⟩ wr hJ (by omega);have hw1:((k + 1:Nat):Int) - 1=(k:Int):=by push_cast;omega
      have hwk:IntKind.i64.wrap ((k:Int) - 1)=(k:Int) - 1:=by rw [IntKind.wrap_i64];omega
      dsimp only at hy
      unfold pbV at hy;rw [hw1];have HP:=Lib.hid hpre;clear hpre;have HK:=Lib.hid hkb;clear hkb;have HJ:=Lib.hid hJ;clear hJ;have hkl:k < len:=by omega
      generalize V k=vk at *
      obtain ⟨v0,v1,v2,v3,v4⟩:=vk
      dsimp only at e0 e1 e2 e3 e4 hy
      gi_wp2
      refine hR.mono ?_;rintro e W3 (⟨rfl,hJ3,hk3,hs3⟩ | ⟨rfl,hJx3⟩)
      · have HK3:=Lib.hid hk3;clear hk3;have HJ3:=Lib.hid hJ3;clear hJ3
        gi_wp2
        go_roundw
        case rel=>exact ⟨k,pre ++ [⟨k,by omega⟩],by omega,by go_num,by rw [List.map_append,HP.out,down_step hk];rfl,HJ3.out,⟨HK3.out.1.trans HK.out.1,fun b' off' e=>(HK3.out.2 b' off' e).trans (HK.out.2 b' off' e)⟩,by omega⟩
        case measure=>simp [intOf]
      · gi_wp2
        refine bodyPost_ret (results_none rfl _ _ _) rfl ?_;exact ⟨⟨_,rfl⟩,.inr ⟨_,trivial,hJx3⟩⟩
theorem bback_stops (F:Fence) (n:Nat) (hf:F.fn 71) (hro:F.round=none) (hn:1 ≤ n) (Bs:Nat) (a:Option Addr) (len cap:Nat) (hlen:len ≤ 2305843009213693951) (V:Nat→V5)
    (w:World) (hBl:Bs < w.heap.size) (hBs:w.cell? ⟨Bs,0,none⟩=some (.slice a len cap)) (hc:SlB w a len V) :
    SeqStopsK F n Try.prog 71 #[.pointer (some ⟨Bs,0,none⟩)] (fun x:Pl len=>#[.int .i64 (x.1:Int),pbV V x.1]) (fun A B=>KpB Bs a A B∧A.heap.size ≤ B.heap.size) (fun xs=>xs.map (·.1)=(List.range len).reverse) (fun _=>True) len w:=fun l J Jx W hW hJ hJx hY h0=>by
  have hcW:SlB W a len V:=fun j hj=>by
    obtain ⟨b,off,ha,hlt,h1,h2,h3,h4,h5⟩:=hc j hj;have hb:=hW.block b hlt;exact ⟨b,off,ha,Nat.lt_of_lt_of_le hlt hW.size,(World.cell?_of_block (a:=⟨b,_,none⟩) hb).trans h1,(World.cell?_of_block (a:=⟨b,_,none⟩) hb).trans h2,(World.cell?_of_block (a:=⟨b,_,none⟩) hb).trans h3,(World.cell?_of_block (a:=⟨b,_,none⟩) hb).trans h4,(World.cell?_of_block (a:=⟨b,_,none⟩) hb).trans h5⟩
  exact bback1_in F n hf hro hn l Bs a len cap hlen V J Jx (fun pre x W1 hj hl=>by
    obtain ⟨fn,tmps,assign,body,hy,hR⟩:=hY pre x W1 hj hl;refine ⟨fn,tmps,assign,body,hy,hR.mono ?_⟩;rintro e W' (⟨he,hj',hk⟩ | hx)
    · exact .inl ⟨he,hj',hk.1,hk.2⟩
    · exact .inr hx) W ((hW.cell (p:=⟨Bs,0,none⟩) hBl).trans hBs) hcW h0
set_option maxRecDepth 100000 in
theorem bback_any (a:Option Addr) (len cap:Nat) (w:World):Calls Try.prog 45 #[.slice a len cap] w fun e w' =>
    e=.returned (.func (.func 71) #[] #[.pointer (some ⟨w.heap.size,0,none⟩)])∧w'=w.alloc (.cells #[.slice a len cap] 25):=by
  go_enter Try.func45,Try.ntmps45
  go_wp2
  go_ret
  exact ⟨rfl,rfl⟩
attribute [local go_sem] Oper.semAt_some
abbrev BP:=Int × TP
def bdOf (bs:List BP):Int→Option TP:=fun x=>(bs.find? (fun q=>q.1 == x)).map (·.2)
def tabP (B:Nat→BP) (pre:List Nat):Int→Option TP:=pre.foldl (fun m j=>fun x=>if x=(B j).1 then some (B j).2 else m x) (fun _=>none)
theorem tabP_snoc (B:Nat→BP) (pre:List Nat) (j:Nat):tabP B (pre ++ [j])=fun x=>if x=(B j).1 then some (B j).2 else tabP B pre x:=by simp [tabP,List.foldl_append]
theorem tabP_all (bs:List BP):tabP (fun j=>bs[j]?.getD (0,default,none,0)) (List.range bs.length).reverse=bdOf bs:=by
  unfold tabP;rw [List.foldl_reverse];have e:bs=(List.range bs.length).map (fun j=>bs[j]?.getD (0,default,none,0)):=by
    apply List.ext_getElem
    · simp
    · intro i h1 h2;simp [h1]
  have go:∀ l:List BP,l.foldr (fun q m=>fun x=>if x=q.1 then some q.2 else m x) (fun _=>none)=bdOf l:=by
    intro l;induction l with
    | nil=>rfl
    | cons q l ih =>
      rw [List.foldr_cons,ih];funext x;unfold bdOf;rw [List.find?_cons];by_cases h:x=q.1
      · subst h;simp
      · have:(q.1 == x)=false:=by simpa using fun e=>h e.symm
        rw [if_neg h,this]
  rw [← go bs]
  conv=>rhs;rw [e,List.foldr_map]
def BSl (B0:Nat) (w:World) (a:Option Addr) (bs:List BP):Prop :=
  ∀ j q,bs[j]? = some q→(∃ b off,a=some ⟨b,off,none⟩∧b < B0∧w.cell? ⟨b,off + j * 5,none⟩=some (.int .i64 q.1)∧w.cell? ⟨b,off + j * 5 + 1,none⟩=some (.int .i64 q.2.1.k)∧w.cell? ⟨b,off + j * 5 + 2,none⟩=some (.string (str q.2.1.nm))∧w.cell? ⟨b,off + j * 5 + 3,none⟩=some (.int .i64 q.2.1.i)∧w.cell? ⟨b,off + j * 5 + 4,none⟩=some (.slice q.2.2.1 q.2.1.args.length q.2.2.2))∧(ik q.1).wf=true∧TmAt B0 w q.2.1 q.2.2.1 q.2.2.2
def bpV (bs:List BP) (j:Nat):V5 :=
  let q:=bs[j]?.getD (0,default,none,0)
  (.int .i64 q.1,.int .i64 q.2.1.k,.string (str q.2.1.nm),.int .i64 q.2.1.i,.slice q.2.2.1 q.2.1.args.length q.2.2.2)
theorem BSl.slB {B0:Nat} {w:World} {a:Option Addr} {bs:List BP} (h:BSl B0 w a bs) (hB:B0 ≤ w.heap.size):SlB w a bs.length (bpV bs):=fun j hj=>by
  obtain ⟨q,hq⟩:∃ q,bs[j]? = some q:=⟨_,List.getElem?_eq_getElem hj⟩;obtain ⟨⟨b,off,ha,hlt,h0,h1,h2,h3,h4⟩,_⟩:=h j q hq;have e:bs[j]?.getD (0,default,none,0)=q:=by rw [hq];rfl
  refine ⟨b,off,ha,by omega,?_⟩;unfold bpV;simp only [e];exact ⟨h0,h1,h2,h3,h4⟩
theorem BSl.keep {B0:Nat} {w w':World} {a:Option Addr} {bs:List BP} (h:BSl B0 w a bs) (hB:B0 ≤ w.heap.size) (hk:Keep (fun g=>g < B0) w w'):BSl B0 w' a bs:=fun j q hq=>by
  obtain ⟨⟨b,off,ha,hlt,h0,h1,h2,h3,h4⟩,h5,h6⟩:=h j q hq;have hb:=hk.block b (by omega) hlt;exact ⟨⟨b,off,ha,hlt,(World.cell?_of_block (a:=⟨b,_,none⟩) hb).trans h0,(World.cell?_of_block (a:=⟨b,_,none⟩) hb).trans h1,(World.cell?_of_block (a:=⟨b,_,none⟩) hb).trans h2,(World.cell?_of_block (a:=⟨b,_,none⟩) hb).trans h3,(World.cell?_of_block (a:=⟨b,_,none⟩) hb).trans h4⟩,h5,h6.keepX hk (fun _ h=>h)⟩
theorem bdOf_mem {bs:List BP} {x:Int} {p:TP} (h:bdOf bs x=some p):∃ (j:Nat) (q:BP),bs[j]? = some q∧q.2=p:=by
  unfold bdOf at h;obtain ⟨q,hq,rfl⟩:=Option.map_eq_some_iff.1 h;obtain ⟨j,hj⟩:=List.mem_iff_getElem?.1 (List.mem_of_find?_eq_some hq);exact ⟨j,q,hj,rfl⟩
def badB (bs:List BP) (v:Int):Bool:=match bdOf bs v with | some p=>!p.1.right | none=>false
def apV (t:Tm) (bs:List BP):Tm × Int :=
  if t.right=true then (if t.tree.vars.any (badB bs)=true then (.node 0 [] 0 [],70)
    else if (t.cop (fBd (bdOf bs)) ()).1.right=true then ((t.cop (fBd (bdOf bs)) ()).1.tree.tm,0) else (.node 0 [] 0 [],2)) else (.node 0 [] 0 [],70)
attribute [local go_sem] Oper.semAt_some
theorem ret_put {w w4:World} {D:Nat} {x:Tm} {ax:Option Addr} {cx:Nat} (hb:Blk w4 (w.heap.size + 1) 24 #[.int .i64 0,.string ⟨#[]⟩,.int .i64 0,.slice none 0 0]) (hkw:Keep (fun g=>g < w.heap.size) w w4) (hD:w4.heap[D]? = some (.deferred (some []))) (hDs:w.heap.size + 2 ≤ D) {lo:Nat} (hlo:w.heap.size + 2 ≤ lo) (hfr:Fr 0 (fun k=>k=D) w4 lo w4.heap.size x ax cx) :
    ∃ W,W=((((w4.setCell ⟨w.heap.size + 1,0,none⟩ (.int .i64 x.k)).setCell ⟨w.heap.size + 1,1,none⟩ (.string (str x.nm))).setCell ⟨w.heap.size + 1,2,none⟩ (.int .i64 x.i)).setCell ⟨w.heap.size + 1,3,none⟩ (.slice ax x.args.length cx)) ∧
      W.heap[D]? = some (.deferred (some []))∧Fr 0 (fun _=>False) (W.putObj D (.deferred none)) w.heap.size (W.putObj D (.deferred none)).heap.size x ax cx∧Keep (fun g=>g < w.heap.size) w (W.putObj D (.deferred none)) ∧
      Blk (W.putObj D (.deferred none)) (w.heap.size + 1) 24 #[.int .i64 x.k,.string (str x.nm),.int .i64 x.i,.slice ax x.args.length cx]∧(∀ i,w4.frozen? ⟨w.heap.size + 1,i,none⟩=false):=by
  obtain ⟨W,hW,-,hsz,hbW,-,hkW⟩:=box_put (x:=x) (a:=ax) (c:=cx) hb (Keep.refl (fun _=>True) _) trivial;have hDl:D < w4.heap.size:=(Array.getElem?_eq_some_iff.1 hD).1;have hkf:Keep (fun k=>k ≠ w.heap.size + 1∧k ≠ D) w4 (W.putObj D (.deferred none)):=(hkW.less (fun k hk=>hk.1)).trans ⟨rfl,rfl,rfl,by simp [World.putObj],fun k _ hne=>World.putObj_heap_other hne.2⟩;refine ⟨W,hW,(hkW.block D hDl (by omega)).trans hD,?_,hkw.trans (hkf.less (fun g hg=>by omega)),(World.putObj_heap_other (by omega)).trans hbW,hb.frozen⟩;exact ((hfr.keepR hkf (fun g hg=>by omega)).growR (Q':=fun _=>False) (Nat.le_refl _) (fun k _ h=>h.elim)).up hkf.size (by omega)
theorem row_ints {w:World} {base:Nat} {u:Value} {xs:List Int} (h:w.ownsRow base 2 1 u xs.length (xs.map (Value.int .i64))):∃ a c,u=.slice a xs.length c∧∀ j,j < xs.length→∃ g,a=some ⟨g,0,none⟩∧g < w.heap.size∧w.cell? ⟨g,j,none⟩=some (.int .i64 (xs.getD j 0)):=by
  rcases h.2 with ⟨rfl,h0⟩ | ⟨g,cap,cur,rfl,_,hb,_⟩
  · exact ⟨none,0,by rw [h0],fun j hj=>by omega⟩
  · refine ⟨_,_,rfl,fun j hj=>⟨g,rfl,(show Blk w g 2 cur from hb).lt,?_⟩⟩;rw [h.cellAt j (by omega)];simp [List.getD,hj]
theorem TmAt.has_wf {B:Nat} {w:World} {t:Tm} {a:Option Addr} {c:Nat} (h:TmAt B w t a c):t.ok=true→∀ x,t.tree.has x→(Lit.int .i64 x).wf=true:=by
  induction h with
  | mk t a c A C hk hi hn hl hc ha ih =>
    intro hok x hx;rcases Tm.ok_kind hok with h | h | h | h
    · rw [tree_1 h] at hx;cases hx;exact hi
    · rw [tree_2 h] at hx;cases hx
    · rw [tree_3 h] at hx;cases hx
    · rw [tree_4 h] at hx;obtain ⟨y,hy,hx⟩:=has_c.1 hx;obtain ⟨z,hz,rfl⟩:=List.mem_map.1 hy;obtain ⟨j,hj⟩:=List.mem_iff_getElem?.1 hz;exact ih j z hj ((Tm.ok_args hok h).2.2.1 z hz) x hx
section
variable {w:World} {bs:List BP} {t:Tm} {a b:Option Addr} {cap d:Nat}
set_option maxRecDepth 100000 in
set_option maxHeartbeats 8000000 in
theorem Apply_in (hS:BSl w.heap.size w a bs) (hT:TmAt w.heap.size w t b d) (hlen:bs.length ≤ 2305843009213693951) (ha:∀ g off,a=some ⟨g,off,none⟩→g < w.heap.size) :
    CallsIn Fence.wide 8 Try.prog 9 #[tv t b d,.slice a bs.length cap] w fun e w'=>∃ a' c',e=.returned (.tuple #[tv (apV t bs).1 a' c',.int .i64 (apV t bs).2]) ∧
      Fr 0 (fun _=>False) w' w.heap.size w'.heap.size (apV t bs).1 a' c'∧Keep (fun g=>g < w.heap.size) w w':=by
  refine callsIn_of_wp_marks Try.func9 rfl trivial ?_ rfl;simp only [Try.ntmps9,List.size_toArray,List.length_cons,List.length_nil,Nat.reduceAdd,Nat.reduceSub,Array.replicate_succ,Array.replicate_zero,List.push_toArray,List.append_toArray,List.nil_append,List.cons_append];have k0:Keep (fun g=>g < w.heap.size) w ((w.alloc (tb t b d)).alloc zb):=((Keep.refl _ w).alloc _).alloc _;have b0:=(Blk.new w 24 #[.int .i64 t.k,.string (str t.nm),.int .i64 t.i,.slice b t.args.length d]).alloc zb;have b1:=Blk.new (w.alloc (tb t b d)) 24 #[.int .i64 0,.string ⟨#[]⟩,.int .i64 0,.slice none 0 0];obtain ⟨w0,hw0⟩:∃ w0,w0=(w.alloc (tb t b d)).alloc zb:=⟨_,rfl⟩;have hz0:w0.heap.size=w.heap.size + 2:=by rw [hw0];simp
  simp only [World.size_alloc,← hw0] at k0 b0 b1;have hR:=isRight_any (hT.on k0);have K0:=Lib.hid (And.intro k0 (And.intro b0 b1));clear k0 b0 b1;have HR:=Lib.hid hR;clear hR;have HT:=Lib.hid hT;clear hT;have HS:=Lib.hid hS;clear hS;unfold tv;obtain ⟨ov,hov⟩:∃ ov,ov=apV t bs:=⟨_,rfl⟩;rw [← hov];unfold apV at hov;have HOV:=Lib.hid hov;clear hov;obtain ⟨len,hln⟩:∃ len,len=bs.length:=⟨_,rfl⟩;rw [← hln] at hlen ⊢;have HLN:=Lib.hid hln;clear hln;obtain ⟨r,hr⟩:∃ r,r=t.right:=⟨_,rfl⟩;rw [← hr] at HR HOV;have Hr:=Lib.hid hr;clear hr;unfold tb at hw0;have HW0:=Lib.hid hw0;clear hw0;have HZ0:=Lib.hid hz0;clear hz0
  gi_wp2
  rw [← HW0.out];refine ⟨trivial,?_⟩;refine (callsIn_wide.2 HR.out).mono ?_;rintro e w1 ⟨rfl,k1⟩;obtain ⟨kk0,bb0,bb1⟩:=K0.out;have hz0:=HZ0.out;have hz1:=k1.size;have bc0:=bb0.keep k1 bb0.lt;have bc1:=bb1.keep k1 bb1.lt;have kk1:=kk0.onto k1;have f0:=bc1.frozen 0;have f1:=bc1.frozen 1;have f2:=bc1.frozen 2;have f3:=bc1.frozen 3;have e0:=bc1.cell 0;have e1:=bc1.cell 1;have e2:=bc1.cell 2;have e3:=bc1.cell 3;simp at e0 e1 e2 e3;have l0:w.heap.size < w1.heap.size:=by omega
  have l1:w.heap.size + 1 < w1.heap.size:=by omega
  cases r with
  | false =>
    obtain ⟨W,hW,-,hsz,hbW,-,hkW⟩:=box_put (x:=.node 0 [] 0 []) (a:=none) (c:=0) bc1 (Keep.refl (fun _=>True) _) trivial;have g0:=hbW.cell 0;have g1:=hbW.cell 1;have g2:=hbW.cell 2;have g3:=hbW.cell 3;rw [hW] at g0 g1 g2 g3;simp [Tm.k,Tm.nm,Tm.i,Tm.args] at g0 g1 g2 g3;have es:str []=(⟨#[]⟩:ByteArray):=rfl;simp only [es] at g0 g1 g2 g3;clear es;have hfin:Fr 0 (fun _=>False) W w.heap.size W.heap.size (.node 0 [] 0 []) none 0∧Keep (fun g=>g < w.heap.size) w W:=⟨.old (tm_leaf (by decide) (by decide) (by simp)) (by omega),kk1.trans (hkW.less (fun g hg=>by omega))⟩;rw [hW] at hfin;have HE:=Lib.hid hfin;clear hfin;have hov:=HOV.out;rw [if_neg (by simp)] at hov;subst hov;clear hW hkW hbW hsz kk0 bb0 bb1 bc0 bc1 kk1 k1 K0 HW0 hz1 hz0 HOV
    gi_wp2
    exact ⟨.tuple #[.agg #[.int .i64 0,.string ⟨#[]⟩,.int .i64 0,.slice none 0 0],.int .i64 70],by simp [results,Try.results9,go_sem,g0,g1,g2,g3],none,0,rfl,HE.out⟩
  | true =>
    have hright:=right_of.1 Hr.out.symm;have hmm:=@run_makeMap Try.prog;clear f0 f1 f2 f3 e0 e1 e2 e3;have hf64:Fence.wide.fn 45:=trivial;have HK:=Lib.hid (And.intro kk1 (And.intro bc0 (And.intro bc1 (And.intro hz0 hz1))));clear kk0 bb0 bb1 bc0 bc1 kk1 k1 K0 HW0 hz1 hz0
    gi_wp2_with (first
      | (gi_at_call 45;refine (callsIn_wide.2 (bback_any _ _ _ _)).mono ?_;rintro e w' ⟨rfl,rfl⟩)
      | gi_in)
    obtain ⟨kk1,bc0,bc1,hz0,hz1⟩:=HK.out;obtain ⟨Wc,hWc⟩:∃ Wc,((w1.alloc (.map #[] 0)).alloc (.cells #[.map (some w1.heap.size)] 68)).alloc (.cells #[.slice a len cap] 25)=Wc:=⟨_,rfl⟩;have hcs:Wc.heap.size=w1.heap.size + 3:=by rw [← hWc];simp
    have hbn:Blk Wc (w1.heap.size + 1) 68 #[.map (some w1.heap.size)]:=by
      rw [← hWc];have:=(Blk.new (w1.alloc (.map #[] 0)) 68 #[.map (some w1.heap.size)]).alloc (.cells #[.slice a len cap] 25);simpa using this
    have hbs:Blk Wc (w1.heap.size + 1 + 1) 25 #[.slice a len cap]:=by
      rw [← hWc];have:=Blk.new ((w1.alloc (.map #[] 0)).alloc (.cells #[.map (some w1.heap.size)] 68)) 25 #[.slice a len cap];simpa using this
    have hkc:Keep (fun g=>g < w1.heap.size) w1 Wc:=by rw [← hWc];exact (((Keep.refl _ _).alloc _).alloc _).alloc _
    have hmc:MapI Wc w1.heap.size zT (fun x=>(tabP (fun j=>bs[j]?.getD (0,default,none,0)) (([]:List (Pl len)).map (·.1)) x).map (fun p=>tv p.1 p.2.1 p.2.2)) 0:=by
      have hmd:=(MapI.made w1 zT).keep (X:=fun _=>True) (w':=Wc) (by rw [← hWc];exact ((Keep.refl _ _).alloc _).alloc _) trivial;exact hmd
    have kc:Keep (fun g=>g < w.heap.size) w Wc:=kk1.onto hkc;have hSc:BSl w.heap.size Wc a bs:=HS.out.keep (Nat.le_refl _) kc;have hslc:SlB Wc a len (bpV bs):=by rw [HLN.out];exact hSc.slB (by omega)
    rw [hWc];clear hWc;have hseq:=bback_stops Fence.wide 7 trivial rfl (by omega) (w1.heap.size + 1 + 1) a len cap hlen (bpV bs) Wc (by omega) (by simpa using hbs.cell 0) hslc;refine wpIn_rangeFunc_ownH (F:=Fence.wide) (n:=8) rfl (by omega) (gf:=71) (lb:=#[.pointer (some ⟨w1.heap.size + 1 + 1,0,none⟩)]) rfl trivial (enters_of Try.func71 (by kernel_rfl) rfl)
      hseq (fun h k=>⟨⟨k.1.1.trans h.1.1,fun b off e=>(k.1.2 b off e).trans (h.1.2 b off e)⟩,Nat.le_trans h.2 k.2⟩)
      (fun W2 l o o' hl _ _ _=>⟨⟨World.putObj_heap_other (by omega),fun b off e=>World.putObj_heap_other (by have:=ha b off e;omega)⟩,by simp [World.putObj]⟩) (Below.refl _ _) (fun _=>rfl)
      (fun pre W2=>Keep (fun g=>g < Wc.heap.size∧g ≠ w1.heap.size) Wc W2∧∃ n,n ≤ pre.length∧MapI W2 w1.heap.size zT (fun x=>(tabP (fun j=>bs[j]?.getD (0,default,none,0)) (pre.map (·.1)) x).map (fun p=>tv p.1 p.2.1 p.2.2)) n)
      (fun _ _ _=>False)
      (fun pre X Y row hs hg hr=>by
        have hk:Keep (· < Wc.heap.size) X Y:=⟨hg.os,hg.tape,hg.output,hg.size,fun k hk1 hk2=>hg.block k hk1 (fun e=>by have:=(hr k e.symm).1;omega)⟩;obtain ⟨hs1,n,hn,hm⟩:=hs;exact ⟨hs1.trans (hk.less (fun k hk=>hk.1)),n,hn,hm.keep hk (by omega)⟩)
      (fun _ _ _ _ _ hs _ _=>hs)
      ⟨Keep.refl _ _,0,Nat.le_refl _,hmc⟩
      (fun (x:Pl len) a' W2=>∃ Bx,Wc.heap.size ≤ Bx∧Blk W2 Bx 29 #[(bpV bs x.1).1,(bpV bs x.1).2.1,(bpV bs x.1).2.2.1,(bpV bs x.1).2.2.2.1,(bpV bs x.1).2.2.2.2]∧a'={ tmps:=#[.agg #[.int .i64 t.k,.string (str t.nm),.int .i64 t.i,.slice b t.args.length d],.slice a len cap,.pointer (some ⟨w.heap.size,0,none⟩),undef,.pointer (some ⟨w.heap.size + 1,0,none⟩),.int .i64 0,.pointer (some ⟨w1.heap.size + 1,0,none⟩),undef,.pointer (some ⟨Bx,0,none⟩),undef,undef,undef,undef,undef,.agg #[.int .i64 t.k,.string (str t.nm),.int .i64 t.i,.slice b t.args.length d],.bool true,.bool false,undef,.map (some w1.heap.size),.slice a len cap,.func (.func 71) #[] #[.pointer (some ⟨w1.heap.size + 1 + 1,0,none⟩)],.int .i64 (x.1:Int),pbV (bpV bs) x.1,undef,undef,undef,undef,undef,undef,undef,undef,undef,undef,undef,undef,undef,undef,undef,undef,undef,undef,undef,undef,undef,undef,undef,undef,undef,undef,undef,undef,undef,undef,undef,undef,undef,undef,undef],defers:=[] })
      (fun x a' _ X Y row hs hg hr=>by
        obtain ⟨Bx,h1,hbx,h2⟩:=hs;refine ⟨Bx,h1,(hg.block Bx hbx.lt (fun e=>?_)).trans hbx,h2⟩;obtain ⟨_,o,ho,hc⟩:=hr Bx e.symm;unfold Blk at hbx;rw [hbx] at ho;cases ho;simp [Obj.isCells] at hc) ?assign ?body ?done ?stop
    case assign =>
      intro l pre x W2 K2 hI2 hK2;obtain ⟨hk2,n,hn,hm2⟩:=hI2;have hz2:=hk2.size;have hka:∀ o,Keep (fun g=>g < W2.heap.size) W2 (W2.alloc o):=fun o=>(Keep.refl _ _).alloc _;have hfin:=fun a' o (hA:∃ Bx,Wc.heap.size ≤ Bx∧Blk (W2.alloc o) Bx 29 #[(bpV bs x.1).1,(bpV bs x.1).2.1,(bpV bs x.1).2.2.1,(bpV bs x.1).2.2.2.1,(bpV bs x.1).2.2.2.2]∧a'=_)=>hK2 a' (W2.alloc o) ((KeepsOthers.alloc _ _).from _) ⟨⟨(hka o).block _ (by omega) (by omega),fun b' off' e=>(hka o).block _ (by have:=ha b' off' e;omega) (by have:=ha b' off' e;omega)⟩,(hka o).size⟩
        ⟨hk2.trans ((hka o).less (fun g hg=>by omega)),n,hn,hm2.keep (hka o) hm2.lt⟩ hA
      have HF:=Lib.hid hfin;clear hfin hK2 hm2 hka hk2;simp only [pbV,bpV] at HF ⊢;generalize (bs[x.1]?.getD (0,default,none,0))=q at *
      gi_wp2
      refine HF.out _ _ ⟨W2.heap.size,by omega,Blk.new W2 _ _,rfl⟩
    case body =>
      rintro l pre ⟨j,hj⟩ a' W2 hl hr2 ⟨hk2,n,hn,hm2⟩ ⟨Bx,hBx,hbx,rfl⟩ hpl;have hz2:=hk2.size;obtain ⟨q,hq⟩:∃ q,bs[j]? = some q:=⟨_,List.getElem?_eq_getElem (by rw [← HLN.out];exact hj)⟩;have hqe:bs[j]?.getD (0,default,none,0)=q:=by rw [hq];rfl
      have hwf:(ik q.1).wf=true:=(hSc j q hq).2.1;have hbn2:=hbn.keep hk2 (by omega);have c6:=hbn2.cell 0;simp at c6;obtain ⟨W3,hst,hm3,ht3⟩:=hm2.store Try.underlying68 (by unfold maxLen;omega) hwf (tv q.2.1 q.2.2.1 q.2.2.2);simp only [bpV,pbV,hqe] at hbx ⊢;have hkm:Keep (fun g=>g ≠ w1.heap.size) W2 W3:=(Keep.refl _ _).turned ht3 (fun hh=>hh rfl);have hm3':∃ n',n' ≤ (pre ++ [(⟨j,hj⟩:Pl len)]).length∧MapI W3 w1.heap.size zT (fun x=>(tabP (fun j=>bs[j]?.getD (0,default,none,0)) ((pre ++ [(⟨j,hj⟩:Pl len)]).map (·.1)) x).map (fun p=>tv p.1 p.2.1 p.2.2)) n':=by
        have e:(fun x=>(tabP (fun j=>bs[j]?.getD (0,default,none,0)) ((pre ++ [(⟨j,hj⟩:Pl len)]).map (·.1)) x).map (fun p=>tv p.1 p.2.1 p.2.2))=(fun x=>if x=q.1 then some (tv q.2.1 q.2.2.1 q.2.2.2) else (tabP (fun j=>bs[j]?.getD (0,default,none,0)) (pre.map (·.1)) x).map (fun p=>tv p.1 p.2.1 p.2.2)):=by
          funext x;rw [List.map_append,List.map_cons,List.map_nil,tabP_snoc,hqe];by_cases hx:x=q.1 <;> simp [hx]
        rw [e,List.length_append,List.length_singleton];exact ⟨_,by split <;> omega,hm3⟩
      have hfin:KeepsFrom Wc.heap.size W2 W3∧(KpB (w1.heap.size + 1 + 1) a W2 W3∧W2.heap.size ≤ W3.heap.size)∧Keep (fun g=>g < Wc.heap.size∧g ≠ w1.heap.size) Wc W3∧∃ n',n' ≤ (pre ++ [(⟨j,hj⟩:Pl len)]).length∧MapI W3 w1.heap.size zT (fun x=>(tabP (fun j=>bs[j]?.getD (0,default,none,0)) ((pre ++ [(⟨j,hj⟩:Pl len)]).map (·.1)) x).map (fun p=>tv p.1 p.2.1 p.2.2)) n' :=
        ⟨⟨hkm.size,fun k o hB ho hc=>(hkm.block k (Array.getElem?_eq_some_iff.1 ho).1 (by omega)).trans ho⟩,⟨⟨hkm.block _ (by omega) (by omega),fun b' off' e=>hkm.block _ (by have:=ha b' off' e;omega) (by have:=ha b' off' e;omega)⟩,hkm.size⟩,hk2.trans (hkm.less (fun g hg=>hg.2)),hm3'⟩
      have HFI:=Lib.hid hfin;clear hfin;have c0:=hbx.cell 0;have c1:=hbx.cell 1;have c2:=hbx.cell 2;have c3:=hbx.cell 3;have c4:=hbx.cell 4;simp at c0 c1 c2 c3 c4;have lx:=hbx.lt;have lb:=hbn2.lt;unfold tv at hst;clear hk2 hm2 hbx hm3 hm3' hkm ht3 hqe hq hbn2 hcs hz2 hseq hslc hSc kc hkc hbs hbn hmc kk1 bc0 bc1 hz0 hz1 HK hwf
      gi_wp2
      exact HFI.out
    case done =>
      rintro D xs W3 hD hS ⟨hk3,n,hn,hm3⟩ hDD;have hS':xs.map (·.1)=(List.range len).reverse:=hS;rw [hS',HLN.out,tabP_all] at hm3;have hz3:=hk3.size;have bt3:Blk W3 w.heap.size 24 #[.int .i64 t.k,.string (str t.nm),.int .i64 t.i,.slice b t.args.length d]:=(bc0.keep hkc l0).keep hk3 ⟨by omega,by omega⟩;have br3:=(bc1.keep hkc l1).keep hk3 ⟨by omega,by omega⟩;have bn3:=hbn.keep hk3 (by omega);have kw3:Keep (fun g=>g < w.heap.size) w W3:=kc.trans (hk3.less (fun g hg=>⟨by omega,by omega⟩));have hT3:TmAt w.heap.size W3 t b d:=HT.out.keepX kw3 (fun _ h=>h);have hVA:=Vars_any (hT3.up (by omega:w.heap.size ≤ W3.heap.size));have hva:vaV t=t.tree.vars:=by unfold vaV;rw [if_pos Hr.out.symm]
      rw [hva] at hVA;have hwv:=hT3.has_wf hright.1;have HWV:=Lib.hid (fun v (hv:v ∈ t.tree.vars)=>hwv v ((T.mem_vars _ v).1 hv));clear hwv;unfold tv at hVA;have HVA:=Lib.hid hVA;clear hVA;have p0:=bt3.cell 0;have p1:=bt3.cell 1;have p2:=bt3.cell 2;have p3:=bt3.cell 3;simp at p0 p1 p2 p3;have HX:=Lib.hid (And.intro hm3 (And.intro bt3 (And.intro br3 (And.intro bn3 (And.intro kw3 (And.intro hDD (And.intro hD (And.intro hcs hz3))))))));have HRT:=Lib.hid hright;have hmd:∀ x p,bdOf bs x=some p→TmAt w.heap.size W3 p.1 p.2.1 p.2.2:=fun x p hx=>by
        obtain ⟨j,q,hq,rfl⟩:=bdOf_mem hx;exact (HS.out.keep (Nat.le_refl _) kw3 j q hq).2.2
      have HMD:=Lib.hid hmd;clear hmd;have lz:w.heap.size < W3.heap.size:=bt3.lt;have HLZ:=Lib.hid (And.intro hz0 hz1);clear hm3 bt3 br3 bn3 kw3 hDD hD hcs hz3 hk3 hS hS' hT3 hva hseq hslc hSc kc hkc hbs hbn hmc kk1 bc0 bc1 hz0 hz1 HK hright hn
      gi_wp2
      refine ⟨trivial,?_⟩;refine (callsIn_wide.2 HVA.out).mono ?_;rintro e W4 ⟨u,rfl,hrow,k4⟩;obtain ⟨ua,uc,rfl,hints⟩:=row_ints hrow;have HI:=Lib.hid hints;clear hints hrow;have HK4:=Lib.hid k4;clear k4;obtain ⟨vs,hvs⟩:∃ vs,vs=t.tree.vars:=⟨_,rfl⟩;rw [← hvs] at HI HWV ⊢;have HVS:=Lib.hid hvs;clear hvs;have hvl:vs.length ≤ 2000:=by rw [HVS.out];exact Nat.le_trans t.tree.vars_len (Tm.tree_right HRT.out).2.1
      gi_wp2
      gi_loopw [31] (fun i wr=>∃ k:Nat,k ≤ vs.length∧i=.int .i64 k∧(∀ j,j < k→badB bs (vs.getD j 0)=false)∧Keep (fun g=>g < W4.heap.size) W4 wr) (fun i _=>vs.length - (intOf i).toNat)
      case atStart=>exact ⟨0,Nat.zero_le _,rfl,fun j hj=>by omega,Keep.refl _ _⟩
      case round =>
        obtain ⟨k,hk,rfl,hgood,hkr⟩:=hrel;obtain ⟨hm3,bt3,br3,bn3,kw3,hDD,hD,hcs,hz3⟩:=HX.out;obtain ⟨hz0,hz1⟩:=HLZ.out;have kA:Keep (fun g=>g < W3.heap.size) W3 wr:=HK4.out.onto hkr;have hz4:=HK4.out.size;have hzr:=hkr.size;have bnr:=bn3.keep kA bn3.lt;have brr:=br3.keep kA br3.lt;have btr:=bt3.keep kA bt3.lt;have kwr:Keep (fun g=>g < w.heap.size) w wr:=kw3.trans (kA.less (fun g hg=>by omega));have hDl:D < W3.heap.size:=(Array.getElem?_eq_some_iff.1 hDD).1;have hDr:wr.heap[D]? = some (.deferred (some [])):=(kA.block D hDl hDl).trans hDD;by_cases hlk:k < vs.length
        · obtain ⟨g,rfl,hgl,hcv⟩:=HI.out k hlk;have hcvr:wr.cell? ⟨g,k,none⟩=some (.int .i64 (vs.getD k 0)):=(World.cell?_of_block (a:=⟨g,k,none⟩) (hkr.block g hgl hgl)).trans hcv;have hgr:g < wr.heap.size:=by omega
          have hvm:vs.getD k 0 ∈ vs:=by
            rw [List.getD_eq_getElem?_getD,List.getElem?_eq_getElem hlk];exact List.getElem_mem _
          have hwv:=HWV.out _ hvm;have hkk:(fun j=>j < k + 1→badB bs (vs.getD j 0)=false)=fun j=>j < k + 1→badB bs (vs.getD j 0)=false:=rfl;obtain ⟨v,hv⟩:∃ v,v=vs.getD k 0:=⟨_,rfl⟩;rw [← hv] at hcvr hwv;have hlkp:=(hm3.keep kA hm3.lt).look Try.underlying68 (by kernel_rfl) hwv;have c6:=bnr.cell 0;simp at c6;have ln:=bnr.lt;have HG:=Lib.hid (show badB bs v=false→∀ j,j < k + 1→badB bs (vs.getD j 0)=false from fun h j hj=>by
            rcases Nat.lt_or_eq_of_le (Nat.le_of_lt_succ hj) with h1 | h1
            · exact hgood j h1
            · rw [h1,← hv];exact h)
          have HVK:=Lib.hid hv;clear hv;have HKR:=Lib.hid (And.intro hkr (And.intro brr (And.intro kwr (And.intro hDr (And.intro hD hcs)))));have hTm:=fun p (hp:bdOf bs v=some p)=>(HMD.out v p hp).keepX (X:=fun g=>g < W3.heap.size) kA (fun k hk=>by omega);have hwN:(.int .i64 ((k:Int) + 1):Value)=.int .i64 ((k + 1:Nat):Int):=by push_cast;rfl
          clear hcv hgl hvm hgood hkk bnr brr btr kwr hDr hDl hDD hkr hm3 bt3 br3 bn3 kw3 hD hcs hz3 hz4 hzr hz0 hz1 kA;cases hbd:bdOf bs v with
          | none =>
            have hbad:badB bs v=false:=by unfold badB;rw [hbd]
            simp only [hbd,Option.map_none,Option.getD_none,Option.isSome_none] at hlkp;have HG2:=Lib.hid (HG.out hbad);clear hTm hbd hbad HG
            gi_wp2
            refine ⟨trivial,?_⟩
            gi_wp2
            go_roundw
            case rel=>exact ⟨k + 1,by omega,by go_num,HG2.out,HKR.out.1.alloc _⟩
            case measure=>simp [intOf];omega
          | some p =>
            obtain ⟨x,ax,cx⟩:=p;have hTx:=hTm _ hbd
            dsimp only at hTx
            have hbad:badB bs v=!x.right:=by unfold badB;rw [hbd]
            simp only [hbd,Option.map_some,Option.getD_some,Option.isSome_some] at hlkp;unfold tv at hlkp;have kal:Keep (fun g=>g < wr.heap.size) wr (wr.alloc (tb x ax cx)):=(Keep.refl _ _).alloc _;have hwz:=HKR.out.2.1.lt;have hR2:=isRight_any ((hTx.keepX (X:=fun _=>True) kal.all (fun _ _=>trivial)).up (by simp;omega:w.heap.size ≤ (wr.alloc (tb x ax cx)).heap.size));obtain ⟨r2,hr2⟩:∃ r2,r2=x.right:=⟨_,rfl⟩;rw [← hr2] at hR2 hbad;unfold tb at hR2;have HR2:=Lib.hid hR2;clear hR2;clear hTm hbd hTx hr2 kal hwz
            gi_wp2
            refine ⟨trivial,?_⟩;refine (callsIn_wide.2 HR2.out).mono ?_;rintro e w5 ⟨rfl,k5⟩;obtain ⟨hkr,brr,kwr,hDr,hD,hcs⟩:=HKR.out;have k5':Keep (fun g=>g < wr.heap.size) wr w5:=((Keep.refl _ wr).alloc _).trans (k5.less (fun g hg=>by simp;omega));cases r2 with
            | true =>
              have HG2:=Lib.hid (HG.out (by rw [hbad];rfl));have HK5:=Lib.hid (hkr.trans (k5'.less (fun g hg=>by have:=hkr.size;omega)));clear HG hbad hkr brr kwr hDr hD hcs k5 k5' HKR HR2
              gi_wp2
              go_roundw
              case rel=>exact ⟨k + 1,by omega,by go_num,HG2.out,HK5.out⟩
              case measure=>simp [intOf];omega
            | false =>
              have hbadv:badB bs v=true:=by rw [hbad];rfl
              have hany:t.tree.vars.any (badB bs)=true:=by
                rw [List.any_eq_true];exact ⟨v,by rw [HVK.out,← HVS.out,List.getD_eq_getElem?_getD,List.getElem?_eq_getElem hlk];exact List.getElem_mem _,hbadv⟩
              have hov:=HOV.out;rw [if_pos (by simp),if_pos hany] at hov;have hDl:D < wr.heap.size:=(Array.getElem?_eq_some_iff.1 hDr).1;have br5:=brr.keep k5' brr.lt;obtain ⟨W,hW,hDW,hfW,hkW,hbW,fz⟩:=ret_put (x:=.node 0 [] 0 []) (ax:=none) (cx:=0) (lo:=w.heap.size + 2) br5 (kwr.trans (k5'.less (fun g hg=>by have:=kwr.size;omega))) ((k5'.block D hDl hDl).trans hDr) (by omega) (Nat.le_refl _) (.old (tm_leaf (by decide) (by decide) (by simp)) (by have:=br5.lt;have:=k5'.size;omega));have f0:=fz 0;have f1:=fz 1;have f2:=fz 2;have f3:=fz 3;have z0:=br5.cell 0;have z1:=br5.cell 1;have z2:=br5.cell 2;have z3:=br5.cell 3;simp at z0 z1 z2 z3;have g0:=hbW.cell 0;have g1:=hbW.cell 1;have g2:=hbW.cell 2;have g3:=hbW.cell 3;rw [hW] at hDW hfW hkW g0 g1 g2 g3;simp [Tm.k,Tm.nm,Tm.i,Tm.args] at g0 g1 g2 g3;have es:str []=(⟨#[]⟩:ByteArray):=rfl;simp only [es] at g0 g1 g2 g3;have HE:=Lib.hid (And.intro hDW (And.intro hfW hkW));clear hDW hfW hkW;have l5:=br5.lt;subst hov;clear es hW hbW fz br5 hDl hany hbadv hbad hkr brr kwr hDr hD hcs k5 k5' HKR HR2 HG HOV
              gi_wp2
              refine ⟨by simp,.inl ⟨D,_,rfl,run_takeDeferred HE.out.1,?_⟩⟩;exact ⟨.tuple #[.agg #[.int .i64 0,.string ⟨#[]⟩,.int .i64 0,.slice none 0 0],.int .i64 70],by simp [results,Try.results9,go_sem,g0,g1,g2,g3],none,0,rfl,HE.out.2⟩
        · have hke:k=vs.length:=by omega
          have hno:¬ t.tree.vars.any (badB bs)=true:=by
            rw [List.any_eq_true];rintro ⟨v,hv,hb⟩;rw [← HVS.out] at hv;obtain ⟨j,hj⟩:=List.mem_iff_getElem?.1 hv;have hjl:=(List.getElem?_eq_some_iff.1 hj).1;have:=hgood j (by omega);rw [List.getD_eq_getElem?_getD,hj] at this;simp only [Option.getD_some] at this;rw [this] at hb;cases hb
          have hov:=HOV.out;rw [if_pos (by simp),if_neg hno] at hov;have hcop:=cop_any (put_apply (B0:=w.heap.size) (mb:=w1.heap.size) (bn:=w1.heap.size + 1) (n:=n) (bd:=bdOf bs)) t HRT.out.1 () (fun g=>g=w1.heap.size∨g=w1.heap.size + 1) wr b d (fun _ _ _=>trivial)
            ⟨hm3.keep kA hm3.lt,bnr,fun x p hx=>(HMD.out x p hx).keepX (X:=fun g=>g < W3.heap.size) kA (fun k hk=>by omega),⟨.inl rfl,.inr rfl⟩,fun g hg=>by have:=hm3.lt;have:=bn3.lt;omega⟩ (by omega) (HT.out.keepX kwr (fun _ h=>h))
          obtain ⟨x,hx⟩:∃ x,x=(t.cop (fBd (bdOf bs)) ()).1:=⟨_,rfl⟩;rw [← hx] at hcop hov;have hcop2:Calls Try.prog 46 #[.agg #[.int .i64 t.k,.string (str t.nm),.int .i64 t.i,.slice b t.args.length d],.func (.func 47) #[] #[.pointer (some ⟨w1.heap.size + 1,0,none⟩)]] wr fun e w5=>∃ a' c',e=.returned (.agg #[.int .i64 x.k,.string (str x.nm),.int .i64 x.i,.slice a' x.args.length c'])∧TmAt w5.heap.size w5 x a' c'∧Blk w5 (w.heap.size + 1) 24 #[.int .i64 0,.string ⟨#[]⟩,.int .i64 0,.slice none 0 0]∧Keep (fun g=>g < w.heap.size) w w5∧w5.heap[D]? = some (.deferred (some []))∧wr.heap.size ≤ w5.heap.size:=by
            refine hcop.mono ?_;rintro e w5 ⟨a',c',P',rfl,hfr,-,hk5,-⟩;exact ⟨a',c',rfl,hfr.at_ (by omega),brr.keep hk5 (by omega),kwr.trans (hk5.less (fun g hg=>by omega)),(hk5.block D (by omega) (by omega)).trans hDr,hk5.size⟩
          have HC:=Lib.hid hcop2;clear hcop hcop2;have q0:=btr.cell 0;have q1:=btr.cell 1;have q2:=btr.cell 2;have q3:=btr.cell 3;simp at q0 q1 q2 q3;have lq:=btr.lt;have HDD:=Lib.hid (show w.heap.size + 2 ≤ D by omega);obtain ⟨r3,hr3⟩:∃ r3,r3=x.right:=⟨_,rfl⟩;rw [← hr3] at hov;have HOV3:=Lib.hid hov;clear hov;have HR3:=Lib.hid hr3;clear hr3;have HLR:=Lib.hid (show w.heap.size + 2 ≤ wr.heap.size by omega);clear hx hno hgood kA hz4 hzr bnr brr btr kwr hDl hDr hkr hm3 bt3 br3 bn3 kw3 hDD hD hcs hz3 hz0 hz1 HX HLZ HOV
          gi_wp2
          refine ⟨trivial,?_⟩;refine (callsIn_wide.2 HC.out).mono ?_;rintro e w5 ⟨a5,c5,rfl,hT5,br5,kw5,hD5,hz5⟩;have k56:Keep (fun g=>g < w5.heap.size) w5 (w5.alloc (tb x a5 c5)):=(Keep.refl _ _).alloc _;have hR6:=isRight_any (hT5.on k56);rw [← HR3.out] at hR6;have bx6:=Blk.new w5 24 #[.int .i64 x.k,.string (str x.nm),.int .i64 x.i,.slice a5 x.args.length c5];have HF6:=Lib.hid (fun w7 (h:Keep (fun g=>g < (w5.alloc (tb x a5 c5)).heap.size) (w5.alloc (tb x a5 c5)) w7)=>And.intro (bx6.keep h (by simp)) (And.intro (hT5.on (k56.onto h)) (And.intro (br5.keep (k56.onto h) br5.lt) (And.intro (kw5.trans ((k56.onto h).less (fun g hg=>by have:=kw5.size;omega))) (And.intro (((k56.onto h).block D (Array.getElem?_eq_some_iff.1 hD5).1 (Array.getElem?_eq_some_iff.1 hD5).1).trans hD5) (k56.onto h).size)))));unfold tb at hR6 HF6;have HR6:=Lib.hid hR6;clear hR6;have HZ5:=Lib.hid hz5;clear hT5 br5 kw5 hD5 hz5 k56 bx6 HC
          gi_wp2
          refine ⟨trivial,?_⟩;refine (callsIn_wide.2 HR6.out).mono ?_;rintro e w7 ⟨rfl,k7⟩;obtain ⟨bx7,hT7,br7,kw7,hD7,hz7⟩:=HF6.out w7 k7;have s0:=bx7.cell 0;have s1:=bx7.cell 1;have s2:=bx7.cell 2;have s3:=bx7.cell 3;simp at s0 s1 s2 s3;have ls:=bx7.lt;have hlo7:w.heap.size + 2 ≤ w7.heap.size:=by have:=HLR.out;have:=HZ5.out;omega
          cases r3 with
          | false =>
            obtain ⟨W,hW,hDW,hfW,hkW,hbW,fz⟩:=ret_put (x:=.node 0 [] 0 []) (ax:=none) (cx:=0) (lo:=w.heap.size + 2) br7 kw7 hD7 HDD.out (Nat.le_refl _) (.old (tm_leaf (by decide) (by decide) (by simp)) hlo7);have f0:=fz 0;have f1:=fz 1;have f2:=fz 2;have f3:=fz 3;have z0:=br7.cell 0;have z1:=br7.cell 1;have z2:=br7.cell 2;have z3:=br7.cell 3;simp at z0 z1 z2 z3;have g0:=hbW.cell 0;have g1:=hbW.cell 1;have g2:=hbW.cell 2;have g3:=hbW.cell 3;rw [hW] at hDW hfW hkW g0 g1 g2 g3;simp [Tm.k,Tm.nm,Tm.i,Tm.args] at g0 g1 g2 g3;have es:str []=(⟨#[]⟩:ByteArray):=rfl;simp only [es] at g0 g1 g2 g3;have HE:=Lib.hid (And.intro hDW (And.intro hfW hkW));clear hDW hfW hkW;have l5:=br7.lt;have hov:=HOV3.out;rw [if_neg (by simp)] at hov;subst hov;clear es hW hbW fz br7 bx7 hT7 kw7 hD7 hz7 k7 HF6 HR6 HOV3 hlo7
            gi_wp2
            refine ⟨by simp,.inl ⟨D,_,rfl,run_takeDeferred HE.out.1,?_⟩⟩;exact ⟨.tuple #[.agg #[.int .i64 0,.string ⟨#[]⟩,.int .i64 0,.slice none 0 0],.int .i64 2],by simp [results,Try.results9,go_sem,g0,g1,g2,g3],none,0,rfl,HE.out.2⟩
          | true =>
            have hAN:=anew_any (Nat.le_refl _) hT7 (right_of.1 HR3.out.symm).1;obtain ⟨y,hy⟩:∃ y,y=x.tree.tm:=⟨_,rfl⟩;have hov:=HOV3.out;rw [if_pos rfl,← hy] at hov;rw [← hy] at hAN;subst hov;unfold tv at hAN;have HAN:=Lib.hid hAN;clear hAN;have HB7:=Lib.hid (And.intro br7 (And.intro kw7 hD7));clear hy br7 bx7 hT7 kw7 hD7 hz7 k7 HF6 HR6 HOV3
            gi_wp2
            refine ⟨trivial,?_⟩;refine (callsIn_wide.2 HAN.out).mono ?_;rintro e w8 ⟨a8,c8,rfl,hfr8,k8⟩;obtain ⟨br7,kw7,hD7⟩:=HB7.out;have br8:=br7.keep k8 br7.lt;have hD8:=(k8.block D (Array.getElem?_eq_some_iff.1 hD7).1 (Array.getElem?_eq_some_iff.1 hD7).1).trans hD7;obtain ⟨W,hW,hDW,hfW,hkW,hbW,fz⟩:=ret_put (x:=y) (ax:=a8) (cx:=c8) (lo:=w7.heap.size) br8 (kw7.trans (k8.less (fun g hg=>by have:=kw7.size;omega))) hD8 HDD.out hlo7 (hfr8.growR (Nat.le_refl _) (fun k hk e=>by have:=(Array.getElem?_eq_some_iff.1 hD7).1;omega));have f0:=fz 0;have f1:=fz 1;have f2:=fz 2;have f3:=fz 3;have z0:=br8.cell 0;have z1:=br8.cell 1;have z2:=br8.cell 2;have z3:=br8.cell 3;simp at z0 z1 z2 z3;have g0:=hbW.cell 0;have g1:=hbW.cell 1;have g2:=hbW.cell 2;have g3:=hbW.cell 3;rw [hW] at hDW hfW hkW g0 g1 g2 g3;simp at g0 g1 g2 g3;have HE:=Lib.hid (And.intro hDW (And.intro hfW hkW));clear hDW hfW hkW;have l5:=br8.lt;clear hW hbW fz br8 br7 kw7 hD7 hD8 k8 hfr8 HB7 HAN hlo7
            gi_wp2
            refine ⟨by simp,.inl ⟨D,_,rfl,run_takeDeferred HE.out.1,?_⟩⟩;exact ⟨.tuple #[.agg #[.int .i64 y.k,.string (str y.nm),.int .i64 y.i,.slice a8 y.args.length c8],.int .i64 0],by simp [results,Try.results9,go_sem,g0,g1,g2,g3],a8,c8,rfl,HE.out.2⟩
    case stop =>
      rintro D c pre W3 _ _ h _;exact h.elim
theorem Apply_any (hS:BSl w.heap.size w a bs) (hT:TmAt w.heap.size w t b d) (hlen:bs.length ≤ 2305843009213693951) (ha:∀ g off,a=some ⟨g,off,none⟩→g < w.heap.size) :
    Calls Try.prog 9 #[tv t b d,.slice a bs.length cap] w fun e w'=>∃ a' c',e=.returned (.tuple #[tv (apV t bs).1 a' c',.int .i64 (apV t bs).2]) ∧
      Fr 0 (fun _=>False) w' w.heap.size w'.heap.size (apV t bs).1 a' c'∧Keep (fun g=>g < w.heap.size) w w':=(callsIn_wide (n:=8)).1 (Apply_in hS hT hlen ha)
end
end Go.Proofs.Ytjinmnekfhekpaa
