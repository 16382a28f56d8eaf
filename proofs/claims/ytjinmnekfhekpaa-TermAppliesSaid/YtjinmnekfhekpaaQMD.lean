/-
  Joined texts (Tm18, Tm19, Tm20, Tm21, Tm22, Tm23). No condition.
-/
import Derived.Test.YtjinmnekfhekpaaQMA
import Derived.Test.YtjinmnekfhekpaaQMB
import Derived.Test.YtjinmnekfhekpaaQMC
import Derived.Maps.OwnSet
import Derived.Carry
import Derived.Deep.AppendLies
namespace Go.Proofs.Ytjinmnekfhekpaa
open Go.RowKit Go.Maps
set_option linter.unusedVariables false
set_option linter.unusedSimpArgs false
theorem right_of {t:Tm}:t.right=true↔t.Right:=Tm.right_iff t
theorem TmAt.on {w W:World} {t:Tm} {a:Option Addr} {c:Nat} (h:TmAt w.heap.size w t a c) (hk:Keep (fun g=>g < w.heap.size) w W):TmAt W.heap.size W t a c:=(h.keepX hk (fun _ h=>h)).up hk.size
theorem Keep.onto {w W V:World} (h:Keep (fun g=>g < w.heap.size) w W) (k:Keep (fun g=>g < W.heap.size) W V):Keep (fun g=>g < w.heap.size) w V:=h.trans (k.less (fun g hg=>Nat.lt_of_lt_of_le hg h.size))
section
variable {w:World} {t u:Tm} {a b:Option Addr} {c d:Nat}
def ordV (t u:Tm):Int:=if t.right=true∧u.right=true then t.tree.cmp u.tree else 0
def sameV (t u:Tm):Bool:=t.right && u.right && (t.tree.cmp u.tree == 0)
theorem two_boxes (hT:TmAt w.heap.size w t a c) (hU:TmAt w.heap.size w u b d):Keep (fun g=>g < w.heap.size) w ((w.alloc (tb t a c)).alloc (tb u b d)) ∧
    ∀ W,Keep (fun g=>g < ((w.alloc (tb t a c)).alloc (tb u b d)).heap.size) ((w.alloc (tb t a c)).alloc (tb u b d)) W →
      Keep (fun g=>g < w.heap.size) w W∧Blk W w.heap.size 24 #[.int .i64 t.k,.string (str t.nm),.int .i64 t.i,.slice a t.args.length c]∧Blk W (w.heap.size + 1) 24 #[.int .i64 u.k,.string (str u.nm),.int .i64 u.i,.slice b u.args.length d] ∧
      TmAt W.heap.size W t a c∧TmAt W.heap.size W u b d:=by
  have k0:Keep (fun g=>g < w.heap.size) w ((w.alloc (tb t a c)).alloc (tb u b d)):=((Keep.refl _ w).alloc _).alloc _;refine ⟨k0,fun W hW=>?_⟩;have k1:=k0.onto hW;have bx:=(Blk.new w 24 #[.int .i64 t.k,.string (str t.nm),.int .i64 t.i,.slice a t.args.length c]).alloc (tb u b d);have by_:=Blk.new (w.alloc (tb t a c)) 24 #[.int .i64 u.k,.string (str u.nm),.int .i64 u.i,.slice b u.args.length d];rw [World.size_alloc] at by_;exact ⟨k1,bx.keep hW (by simp;omega),by_.keep hW (by simp),hT.on k1,hU.on k1⟩
set_option maxRecDepth 100000 in
set_option maxHeartbeats 4000000 in
theorem Order_any (hT:TmAt w.heap.size w t a c) (hU:TmAt w.heap.size w u b d) :
    Calls Try.prog 35 #[tv t a c,tv u b d] w fun e w'=>e=.returned (.int .i64 (ordV t u))∧Keep (fun g=>g < w.heap.size) w w':=by
  obtain ⟨k0,hall⟩:=two_boxes hT hU;have hR:=fun W (hW:Keep (fun g=>g < ((w.alloc (tb t a c)).alloc (tb u b d)).heap.size) ((w.alloc (tb t a c)).alloc (tb u b d)) W)=>isRight_any (hall W hW).2.2.2.1;have hR2:=fun W (hW:Keep (fun g=>g < ((w.alloc (tb t a c)).alloc (tb u b d)).heap.size) ((w.alloc (tb t a c)).alloc (tb u b d)) W)=>isRight_any (hall W hW).2.2.2.2;have hO:=fun W (hW:Keep (fun g=>g < ((w.alloc (tb t a c)).alloc (tb u b d)).heap.size) ((w.alloc (tb t a c)).alloc (tb u b d)) W) (h1:t.right=true) (h2:u.right=true)=>ord_any W.heap.size t (right_of.1 h1).1 u (right_of.1 h2).1 W a b c d (Nat.le_refl _) (hall W hW).2.2.2.1 (hall W hW).2.2.2.2;have HC:=Lib.hid (fun W hW=>And.intro (hall W hW).1 (And.intro (hall W hW).2.1 (hall W hW).2.2.1));clear hall hT hU;have K1:=Lib.hid (Keep.refl (fun g=>g < ((w.alloc (tb t a c)).alloc (tb u b d)).heap.size) ((w.alloc (tb t a c)).alloc (tb u b d)));unfold tv at hO;unfold tb at hR hR2 hO HC K1;have HR:=Lib.hid hR;clear hR;have HR2:=Lib.hid hR2;clear hR2;have HO:=Lib.hid hO;clear hO k0;unfold tv;obtain ⟨ov,hov⟩:∃ ov,ov=ordV t u:=⟨_,rfl⟩;rw [← hov];unfold ordV at hov;have HOV:=Lib.hid hov;clear hov;generalize t.right=r1 at *
  generalize u.right=r2 at *
  generalize t.tree.cmp u.tree=z at *
  go_enter Try.func35,Try.ntmps35
  go_wp2_with fail
  refine (HR.out _ K1.out).mono ?_;rintro e w1 ⟨rfl,k1⟩;have K2:=Lib.hid (K1.out.onto k1);clear k1;obtain ⟨-,b1,b2⟩:=HC.out _ K2.out;have p0:=b1.cell 0;have p1:=b1.cell 1;have p2:=b1.cell 2;have p3:=b1.cell 3;have q0:=b2.cell 0;have q1:=b2.cell 1;have q2:=b2.cell 2;have q3:=b2.cell 3;simp at p0 p1 p2 p3 q0 q1 q2 q3;have l1:=b1.lt;have l2:=b2.lt;clear b1 b2;cases r1 with
  | false =>
    have HE:=Lib.hid (HC.out _ K2.out).1
    go_wp2
    go_ret
    exact ⟨by rw [HOV.out];simp,HE.out⟩
  | true =>
    go_wp2_with fail
    refine (HR2.out _ K2.out).mono ?_;rintro e w2 ⟨rfl,k2⟩;have K3:=Lib.hid (K2.out.onto k2);clear k2;obtain ⟨-,b1,b2⟩:=HC.out _ K3.out;clear p0 p1 p2 p3 q0 q1 q2 q3 l1 l2;have p0:=b1.cell 0;have p1:=b1.cell 1;have p2:=b1.cell 2;have p3:=b1.cell 3;have q0:=b2.cell 0;have q1:=b2.cell 1;have q2:=b2.cell 2;have q3:=b2.cell 3;simp at p0 p1 p2 p3 q0 q1 q2 q3;have l1:=b1.lt;have l2:=b2.lt;clear b1 b2;cases r2 with
    | false =>
      have HE:=Lib.hid (HC.out _ K3.out).1
      go_wp2
      go_ret
      exact ⟨by rw [HOV.out];simp,HE.out⟩
    | true =>
      go_wp2_with fail
      refine (HO.out _ K3.out (by simp) (by simp)).mono ?_;rintro e w3 ⟨rfl,k3⟩;have HE:=Lib.hid (HC.out _ (K3.out.onto k3)).1;clear k3
      go_wp2
      go_ret
      exact ⟨by rw [HOV.out];simp,HE.out⟩
set_option maxRecDepth 100000 in
set_option maxHeartbeats 4000000 in
theorem Same_any (hT:TmAt w.heap.size w t a c) (hU:TmAt w.heap.size w u b d) :
    Calls Try.prog 39 #[tv t a c,tv u b d] w fun e w'=>e=.returned (.bool (sameV t u))∧Keep (fun g=>g < w.heap.size) w w':=by
  obtain ⟨k0,hall⟩:=two_boxes hT hU;have hR:=fun W (hW:Keep (fun g=>g < ((w.alloc (tb t a c)).alloc (tb u b d)).heap.size) ((w.alloc (tb t a c)).alloc (tb u b d)) W)=>isRight_any (hall W hW).2.2.2.1;have hR2:=fun W (hW:Keep (fun g=>g < ((w.alloc (tb t a c)).alloc (tb u b d)).heap.size) ((w.alloc (tb t a c)).alloc (tb u b d)) W)=>isRight_any (hall W hW).2.2.2.2;have hO:=fun W (hW:Keep (fun g=>g < ((w.alloc (tb t a c)).alloc (tb u b d)).heap.size) ((w.alloc (tb t a c)).alloc (tb u b d)) W) (h1:t.right=true) (h2:u.right=true)=>ord_any W.heap.size t (right_of.1 h1).1 u (right_of.1 h2).1 W a b c d (Nat.le_refl _) (hall W hW).2.2.2.1 (hall W hW).2.2.2.2;have HC:=Lib.hid (fun W hW=>And.intro (hall W hW).1 (And.intro (hall W hW).2.1 (hall W hW).2.2.1));clear hall hT hU;have K1:=Lib.hid (Keep.refl (fun g=>g < ((w.alloc (tb t a c)).alloc (tb u b d)).heap.size) ((w.alloc (tb t a c)).alloc (tb u b d)));unfold tv at hO;unfold tb at hR hR2 hO HC K1;have HR:=Lib.hid hR;clear hR;have HR2:=Lib.hid hR2;clear hR2;have HO:=Lib.hid hO;clear hO k0;unfold tv sameV;generalize t.right=r1 at *
  generalize u.right=r2 at *
  generalize t.tree.cmp u.tree=z at *
  go_enter Try.func39,Try.ntmps39
  go_wp2_with fail
  refine (HR.out _ K1.out).mono ?_;rintro e w1 ⟨rfl,k1⟩;have K2:=Lib.hid (K1.out.onto k1);clear k1;obtain ⟨-,b1,b2⟩:=HC.out _ K2.out;have p0:=b1.cell 0;have p1:=b1.cell 1;have p2:=b1.cell 2;have p3:=b1.cell 3;have q0:=b2.cell 0;have q1:=b2.cell 1;have q2:=b2.cell 2;have q3:=b2.cell 3;simp at p0 p1 p2 p3 q0 q1 q2 q3;have l1:=b1.lt;have l2:=b2.lt;clear b1 b2;cases r1 with
  | false =>
    have HE:=Lib.hid (HC.out _ K2.out).1
    go_wp2
    go_ret
    exact ⟨rfl,HE.out⟩
  | true =>
    go_wp2_with fail
    refine (HR2.out _ K2.out).mono ?_;rintro e w2 ⟨rfl,k2⟩;have K3:=Lib.hid (K2.out.onto k2);clear k2;obtain ⟨-,b1,b2⟩:=HC.out _ K3.out;clear p0 p1 p2 p3 q0 q1 q2 q3 l1 l2;have p0:=b1.cell 0;have p1:=b1.cell 1;have p2:=b1.cell 2;have p3:=b1.cell 3;have q0:=b2.cell 0;have q1:=b2.cell 1;have q2:=b2.cell 2;have q3:=b2.cell 3;simp at p0 p1 p2 p3 q0 q1 q2 q3;have l1:=b1.lt;have l2:=b2.lt;clear b1 b2;cases r2 with
    | false =>
      have HE:=Lib.hid (HC.out _ K3.out).1
      go_wp2
      go_ret
      exact ⟨rfl,HE.out⟩
    | true =>
      go_wp2_with fail
      refine (HO.out _ K3.out (by simp) (by simp)).mono ?_;rintro e w3 ⟨rfl,k3⟩;have HE:=Lib.hid (HC.out _ (K3.out.onto k3)).1;clear k3
      go_wp2
      go_ret
      exact ⟨rfl,HE.out⟩
end
abbrev ik (k:Int):Lit:=.int .i64 k
theorem ik_ne {a b:Int} (h:a ≠ b):ik a ≠ ik b:=fun e=>h (by injection e)
theorem ik_key (k:Int):WideAt.IsKeyLit (ik k):=by simp [WideAt.IsKeyLit]
theorem law2:Keyed Try.prog 2:=int_keyed Try.underlying2
def slotElem (v:Value):Option (DataW Value × List MemPlace):=some (.held v,[])
structure MapI (w:World) (mb:Nat) (z:Value) (f:Int→Option Value) (n:Nat):Prop where
  own:∃ D:DataW Value,w.ownsMap Try.prog 2 slotElem mb (Maps.size D) D∧Maps.size D=n∧∀ k:Int,D.atKey (ik k) (.held z)=.held ((f k).getD z)∧Maps.has D (ik k)=(f k).isSome
section
variable {w w':World} {mb n:Nat} {z:Value} {f:Int→Option Value} {X:Nat→Prop}
theorem MapI.lt (h:MapI w mb z f n):mb < w.heap.size:=by obtain ⟨D,o,_⟩:=h.own;exact o.lt
theorem MapI.keep (h:MapI w mb z f n) (hk:Keep X w w') (hX:X mb):MapI w' mb z f n:=by
  have hlt:=h.lt;obtain ⟨D,⟨es,clock,hb,r⟩,r2⟩:=h.own;exact ⟨⟨D,⟨es,clock,(hk.block mb hlt hX).trans hb,r⟩,r2⟩⟩
theorem MapI.ne_blk (h:MapI w mb z f n) {g:Nat} {t:TypeId} {cs:Array Value} (hg:Blk w g t cs):mb ≠ g:=by
  obtain ⟨D,o,_⟩:=h.own;rintro rfl;obtain ⟨es,clock,hb,_⟩:=o;unfold Blk at hg;rw [hb] at hg;injection hg with hg
  cases hg
theorem own_tight {b n:Nat} {D:DataW Value} (h:w.ownsMap Try.prog 2 slotElem b n D):w.ownsMap Try.prog 2 slotElem b (Maps.size D) D:=by
  obtain ⟨es,clock,hb,F,hs,rfl⟩:=h;exact ⟨es,clock,hb,F,by simp [Maps.size,length_sorted],rfl⟩
theorem MapI.look {tm e:TypeId} (h:MapI w mb z f n) (ht:Try.prog.underlying tm=some (.map 2 e)) (hz:(zeroValue e).run Try.prog w=.ok z w) {k:Int} (hk:(ik k).wf=true) :
    (Instr.lookup tm (.map (some mb)) (.int .i64 k) true).run Try.prog w=.ok (.tuple #[(f k).getD z,.bool (f k).isSome]) w:=by
  obtain ⟨D,o,_,hat⟩:=h.own;obtain ⟨v,ps,hrun,hv⟩:=o.look_ok law2 ht hz (zd:=.held z) (zp:=[]) rfl (keyOf_int_mk Try.underlying2 hk);rw [(hat k).1] at hv;unfold slotElem at hv;simp only [Option.some.injEq,Prod.mk.injEq,DataW.held.injEq] at hv;rw [hv.1,(hat k).2] at hrun;exact hrun
theorem MapI.look1 {tm e:TypeId} (h:MapI w mb z f n) (ht:Try.prog.underlying tm=some (.map 2 e)) (hz:(zeroValue e).run Try.prog w=.ok z w) {k:Int} (hk:(ik k).wf=true) :
    (Instr.lookup tm (.map (some mb)) (.int .i64 k) false).run Try.prog w=.ok ((f k).getD z) w:=by
  obtain ⟨D,o,_,hat⟩:=h.own;obtain ⟨v,ps,hrun,hv⟩:=o.lookup law2 ht hz (zd:=.held z) (zp:=[]) rfl (keyOf_int_mk Try.underlying2 hk);rw [(hat k).1] at hv;unfold slotElem at hv;simp only [Option.some.injEq,Prod.mk.injEq,DataW.held.injEq] at hv;rw [hv.1] at hrun;exact hrun
theorem MapI.len {tm e:TypeId} (h:MapI w mb z f n) (ht:Try.prog.underlying tm=some (.map 2 e)) (ty:TypeId):(Builtin.len_ #[tm] ty #[.map (some mb)]).run Try.prog w=.ok (.int .i64 n) w:=by
  obtain ⟨D,o,hs,_⟩:=h.own;have:=o.len ht ty
  rwa [hs] at this
theorem MapI.store {tm e:TypeId} (h:MapI w mb z f n) (ht:Try.prog.underlying tm=some (.map 2 e)) (hn:n < maxLen) {k:Int} (hk:(ik k).wf=true) (v:Value) :
    ∃ w',(Instr.mapUpdate tm (.map (some mb)) (.int .i64 k) v).run Try.prog w=.ok () w'∧MapI w' mb z (fun j=>if j=k then some v else f j) (if (f k).isSome=true then n else n + 1)∧w.mapTurned w' mb:=by
  obtain ⟨D,own,hs,hat⟩:=h.own;obtain ⟨w',hrun,o',ht'⟩:=own.store law2 ht (by omega) (keyOf_int_mk Try.underlying2 hk) (val:=v) (d:=.held v) (ps:=[]) rfl;refine ⟨w',hrun,⟨_,own_tight o',?_,fun m=>?_⟩,ht'⟩
  · rw [size_put (own.tidy law2),(hat k).2,hs]
  · by_cases hm:m=k
    · subst hm;rw [if_pos rfl,atKey_put_same own.isMap (ik_key _),has_put_same own.isMap (ik_key _)];exact ⟨rfl,rfl⟩
    · rw [if_neg hm,atKey_put_other (ik_ne hm),has_put_other (ik_ne hm)];exact hat m
theorem MapI.made (w:World) (z:Value):MapI (w.alloc (.map #[] 0)) w.heap.size z (fun _=>none) 0 :=
  ⟨⟨.map [],World.ownsMap_made w Try.prog _ slotElem,rfl,fun k=>⟨rfl,rfl⟩⟩⟩
end
structure RenI (B0:Nat) (m:Int) (V:List Int) (mb bn bf:Nat) (l:List Int) (P:Nat→Prop) (w:World):Prop where
  map:MapI w mb (.int .i64 0) (fun x=>if x ∈ l then some (.int .i64 (m + idx l x)) else none) l.length
  hbn:Blk w bn 76 #[.map (some mb)]
  hbf:Blk w bf 2 #[.int .i64 m]
  own:∀ g,P g↔g=mb∨g=bn∨g=bf
  low:B0 ≤ mb∧B0 ≤ bn∧B0 ≤ bf
  nd:l.Nodup
  sub:∀ x ∈ l,x ∈ V
theorem nodup_sub_len:∀ {l V:List Int},l.Nodup→(∀ x ∈ l,x ∈ V)→l.length ≤ V.length:=by
  intro l;induction l with
  | nil=>intro V _ _;simp
  | cons a l ih =>
    intro V hn hs;obtain ⟨h1,h2⟩:=List.nodup_cons.1 hn;have ha:=hs a List.mem_cons_self;have:=ih (V:=V.erase a) h2 (fun x hx=>by
      have hxa:x ≠ a:=fun e=>h1 (e ▸ hx);exact (List.mem_erase_of_ne hxa).2 (hs x (List.mem_cons_of_mem _ hx)))
    rw [List.length_erase_of_mem ha] at this;have hp:0 < V.length:=List.length_pos_of_mem ha;simp;omega
theorem box_fin {w w1 w2:World} {J:World→Prop} {x:Tm} {a:Option Addr} {c:Nat} (hb:Blk w1 w.heap.size 24 #[.int .i64 0,.string ⟨#[]⟩,.int .i64 0,.slice none 0 0]) (hk:Keep (fun g=>g < w1.heap.size) w1 w2)
    (hJ:∀ W,Keep (fun g=>g < w1.heap.size∧g ≠ w.heap.size) w1 W→J W) :
    ∃ W,W=((((w2.setCell ⟨w.heap.size,0,none⟩ (.int .i64 x.k)).setCell ⟨w.heap.size,1,none⟩ (.string (str x.nm))).setCell ⟨w.heap.size,2,none⟩ (.int .i64 x.i)).setCell ⟨w.heap.size,3,none⟩ (.slice a x.args.length c))∧J W∧Keep (fun g=>g < w1.heap.size∧g ≠ w.heap.size) w1 W ∧
      Blk W w.heap.size 24 #[.int .i64 x.k,.string (str x.nm),.int .i64 x.i,.slice a x.args.length c]∧Blk w2 w.heap.size 24 #[.int .i64 0,.string ⟨#[]⟩,.int .i64 0,.slice none 0 0]:=by
  have hb2:=hb.keep hk hb.lt;have hkf:Keep (fun g=>g < w1.heap.size∧g ≠ w.heap.size) w1 ((((w2.setCell ⟨w.heap.size,0,none⟩ (.int .i64 x.k)).setCell ⟨w.heap.size,1,none⟩ (.string (str x.nm))).setCell ⟨w.heap.size,2,none⟩ (.int .i64 x.i)).setCell ⟨w.heap.size,3,none⟩ (.slice a x.args.length c)):=(hk.less (fun g hg=>hg.1)).set4 (o:=0) (fun h=>h.2 rfl);exact ⟨_,rfl,hJ _ hkf,hkf,hb2.set4,hb2⟩
set_option maxRecDepth 100000 in
set_option maxHeartbeats 4000000 in
theorem put_ren {B0:Nat} {m:Int} {V:List Int} {mb bn bf:Nat} (hm1:1 ≤ m) (hm2:m ≤ 4611686018427387904) (hV:V.length ≤ 2000):PutC (fRen m) 0 B0 54 #[.pointer (some ⟨bn,0,none⟩),.pointer (some ⟨bf,0,none⟩)] (RenI B0 m V mb bn bf) (fun _ x=>x ∈ V) where
  enter:=fun args w=>enters_of Try.func54 (by kernel_rfl) rfl args w
  frame:=fun l P w w' h hk=>⟨h.map.keep hk (.inl ((h.own _).2 (.inl rfl))),h.hbn.keep hk (.inl ((h.own _).2 (.inr (.inl rfl)))),h.hbf.keep hk (.inl ((h.own _).2 (.inr (.inr rfl)))),h.own,h.low,h.nd,h.sub⟩
  lt:=fun l P w h g hg=>by rcases (h.own g).1 hg with rfl | rfl | rfl;exact h.map.lt;exact h.hbn.lt;exact h.hbf.lt
  old:=fun l P w h g hg hp=>by obtain ⟨h1,h2,h3⟩:=h.low;rcases (h.own g).1 hp with rfl | rfl | rfl <;> omega
  le:=Nat.zero_le _
  call:=by
    intro l P w v h hB hwf hv1 hvV;have hlen:=nodup_sub_len h.nd h.sub;have hw0:Keep (fun g=>g < w.heap.size) w (w.alloc zb):=(Keep.refl _ w).alloc zb;have hm0:MapI (w.alloc zb) mb (.int .i64 0) (fun x=>if x ∈ l then some (.int .i64 (m + idx l x)) else none) l.length:=h.map.keep hw0 h.map.lt;have hlk:=hm0.look Try.underlying76 (by kernel_rfl) hwf;have c1:=h.hbn.cell 0;have c2:=h.hbf.cell 0;have l1:=h.hbn.lt;have l2:=h.hbf.lt;simp at c1 c2;show Calls _ _ #[.int .i64 v,.pointer (some ⟨bn,0,none⟩),.pointer (some ⟨bf,0,none⟩)] w _;by_cases hmem:v ∈ l
    · have hf:fRen m l v=(.node 1 [] (m + idx l v) [],l):=by unfold fRen;rw [if_pos hmem]
      rw [hf];simp only [if_pos hmem,Option.getD_some,Option.isSome_some] at hlk;have hi:=(idx_mem hmem).1;have hvar:=fun W=>variable_any W (m + idx l v);have hbx:=Blk.new w 24 #[.int .i64 0,.string ⟨#[]⟩,.int .i64 0,.slice none 0 0];have hJ:∀ W,Keep (fun g=>g < (w.alloc zb).heap.size∧g ≠ w.heap.size) (w.alloc zb) W→RenI B0 m V mb bn bf l P W∧Keep (fun g=>¬ P g) w W:=fun W hW=>by
        have h1:Keep (fun g=>g < w.heap.size) w W:=hw0.trans (hW.less (fun g hg=>⟨by simp;omega,by omega⟩));exact ⟨⟨h.map.keep h1 h.map.lt,h.hbn.keep h1 h.hbn.lt,h.hbf.keep h1 h.hbf.lt,h.own,h.low,h.nd,h.sub⟩,h1.all⟩
      have HJ:=Lib.hid hJ;clear hJ;have HBX:=Lib.hid hbx;clear hbx;have hwx:Hid ((ik (m + idx l v)).wf=true):=Lib.hid (by simp [Lit.wf,IntKind.min,IntKind.max,IntKind.bits,IntKind.signed];omega);generalize m + (idx l v:Int)=x at *
      have HVAR:=Lib.hid hvar;clear hvar;clear h hm0 hf hi hmem
      go_enter Try.func54,Try.ntmps54
      go_wp2_with fail
      refine (HVAR.out _).mono ?_;rintro e w2 ⟨rfl,hk2⟩;obtain ⟨W,hW,hJW,hkW,hbW,hb2⟩:=box_fin (x:=.node 1 [] x []) (a:=none) (c:=0) HBX.out hk2 HJ.out;have f0:=hb2.frozen 0;have f1:=hb2.frozen 1;have f2:=hb2.frozen 2;have f3:=hb2.frozen 3;have d0:=hb2.cell 0;have d1:=hb2.cell 1;have d2:=hb2.cell 2;have d3:=hb2.cell 3;simp at d0 d1 d2 d3;have g0:=hbW.cell 0;have g1:=hbW.cell 1;have g2:=hbW.cell 2;have g3:=hbW.cell 3;rw [hW] at g0 g1 g2 g3;simp [Tm.k,Tm.nm,Tm.i,Tm.args] at g0 g1 g2 g3;have HE:=Lib.hid hJW;clear hJW;have HW:=Lib.hid hW;clear hW;clear hkW hbW hb2 hk2 HVAR HJ HBX
      go_wp2_with fail
      refine bodyPost_ret (v:=.agg #[.int .i64 1,.string ⟨#[]⟩,.int .i64 x,.slice none 0 0]) (by simp [results,Try.results54,go_sem,Tm.k,Tm.nm,Tm.i,Tm.args,g0,g1,g2,g3];rfl) rfl ⟨none,0,P,rfl,tm_leaf (by decide) hwx.out (by simp),?_,?_,fun g hg=>.inl hg⟩
      · rw [← HW.out];exact HE.out.1
      · rw [← HW.out];exact HE.out.2
    · have hf:fRen m l v=(.node 1 [] (m + l.length) [],l ++ [v]):=by unfold fRen;rw [if_neg hmem]
      rw [hf];simp only [if_neg hmem,Option.getD_none,Option.isSome_none] at hlk;have hnd2:(l ++ [v]).Nodup:=List.nodup_append.2 ⟨h.nd,by simp,fun a ha b hb=>by simp at hb;subst hb;exact fun e=>hmem (e ▸ ha)⟩;have hsub2:∀ x ∈ l ++ [v],x ∈ V:=fun x hx=>by rcases List.mem_append.1 hx with hx | hx;exact h.sub x hx;(simp at hx;exact hx ▸ hvV)
      have hlen2:=nodup_sub_len hnd2 hsub2;have hln:=fun ty=>hm0.len Try.underlying76 ty;have hvar:=fun W=>variable_any W (m + l.length);have hwrap:IntKind.i64.wrap (m + (l.length:Int))=m + (l.length:Int):=by rw [IntKind.wrap_i64];omega
      have hbx:=Blk.new w 24 #[.int .i64 0,.string ⟨#[]⟩,.int .i64 0,.slice none 0 0];obtain ⟨w3,hst,hm3,ht3⟩:=hm0.store Try.underlying76 (by unfold maxLen;omega) hwf (.int .i64 (m + (l.length:Int)));have hfe:(fun j=>if j=v then some (Value.int .i64 (m + (l.length:Int))) else if j ∈ l then some (.int .i64 (m + idx l j)) else none)=(fun x=>if x ∈ l ++ [v] then some (.int .i64 (m + idx (l ++ [v]) x)) else none):=by
        funext j;by_cases hj:j=v
        · subst hj;rw [if_pos rfl,if_pos (by simp),idx_new hmem]
        · rw [if_neg hj];by_cases hjl:j ∈ l
          · rw [if_pos hjl,if_pos (by simp [hjl]),(idx_mem hjl).2 [v]]
          · rw [if_neg hjl,if_neg (by simp [hjl,hj])]
      rw [hfe] at hm3;rw [if_neg (by simp [hmem])] at hm3;have hkt:Keep (fun g=>g ≠ mb) (w.alloc zb) w3:=(Keep.refl _ _).turned ht3 (fun hh=>hh rfl);have hbx3:=hbx.keep hkt (by have:=h.map.lt;omega);have nbn:bn ≠ mb:=(h.map.ne_blk h.hbn).symm;have nbf:bf ≠ mb:=(h.map.ne_blk h.hbf).symm;have hkt0:Keep (fun g=>g < w.heap.size∧g ≠ mb) w w3:=(hw0.less (fun g hg=>hg.1)).trans (hkt.less (fun g hg=>hg.2));have hz3:=hkt.size;simp only [World.size_alloc] at hz3;have hbn3:=h.hbn.keep hkt0 ⟨h.hbn.lt,nbn⟩;have hbf3:=h.hbf.keep hkt0 ⟨h.hbf.lt,nbf⟩;have hJ:∀ W,Keep (fun g=>g < w3.heap.size∧g ≠ w.heap.size) w3 W→RenI B0 m V mb bn bf (l ++ [v]) P W∧Keep (fun g=>¬ P g) w W:=fun W hW=>by
        have hmb:=h.map.lt;refine ⟨⟨?_,hbn3.keep hW ⟨hbn3.lt,by have:=h.hbn.lt;omega⟩,hbf3.keep hW ⟨hbf3.lt,by have:=h.hbf.lt;omega⟩,h.own,h.low,hnd2,hsub2⟩,?_⟩
        · have:=hm3.keep hW ⟨hm3.lt,by omega⟩;simpa using this
        · refine ⟨hW.os.trans hkt0.os,hW.tape.trans hkt0.tape,hW.output.trans hkt0.output,Nat.le_trans hkt0.size hW.size,fun g hg hx=>?_⟩;have:g ≠ mb:=fun e=>hx ((h.own g).2 (.inl e));rw [hW.block g (by omega) ⟨by omega,by omega⟩,hkt0.block g hg ⟨hg,this⟩]
      have HJ:=Lib.hid hJ;clear hJ;have HBX:=Lib.hid hbx3;clear hbx3;have hwx:Hid ((ik (m + (l.length:Int))).wf=true):=Lib.hid (by simp [Lit.wf,IntKind.min,IntKind.max,IntKind.bits,IntKind.signed];omega);clear hbx hm3 hfe ht3 hkt hkt0 hbn3 hbf3 h hm0 hf hnd2 hsub2 hlen2 nbn nbf;generalize l.length=n at *
      have HVAR:=Lib.hid hvar;clear hvar
      go_enter Try.func54,Try.ntmps54
      go_wp2_with fail
      refine (HVAR.out _).mono ?_;rintro e w2 ⟨rfl,hk2⟩;obtain ⟨W,hW,hJW,hkW,hbW,hb2⟩:=box_fin (x:=.node 1 [] (m + (n:Int)) []) (a:=none) (c:=0) HBX.out hk2 HJ.out;have f0:=hb2.frozen 0;have f1:=hb2.frozen 1;have f2:=hb2.frozen 2;have f3:=hb2.frozen 3;have d0:=hb2.cell 0;have d1:=hb2.cell 1;have d2:=hb2.cell 2;have d3:=hb2.cell 3;simp at d0 d1 d2 d3;have g0:=hbW.cell 0;have g1:=hbW.cell 1;have g2:=hbW.cell 2;have g3:=hbW.cell 3;rw [hW] at g0 g1 g2 g3;simp [Tm.k,Tm.nm,Tm.i,Tm.args] at g0 g1 g2 g3;have HE:=Lib.hid hJW;clear hJW;have HW:=Lib.hid hW;clear hW;clear hkW hbW hb2 hk2 HVAR HJ HBX
      go_wp2_with fail
      refine bodyPost_ret (v:=.agg #[.int .i64 1,.string ⟨#[]⟩,.int .i64 (m + (n:Int)),.slice none 0 0]) (by simp [results,Try.results54,go_sem,Tm.k,Tm.nm,Tm.i,Tm.args,g0,g1,g2,g3];rfl) rfl ⟨none,0,P,rfl,tm_leaf (by decide) hwx.out (by simp),?_,?_,fun g hg=>.inl hg⟩
      · rw [← HW.out];exact HE.out.1
      · rw [← HW.out];exact HE.out.2
theorem T.acc_len:∀ (t:T) (l:List Int),(t.acc l).length ≤ l.length + t.ns:=by
  intro t;induction t using T.ind with
  | hv x=>intro l;rw [T.acc_v];split <;> simp [T.ns]
  | hn i=>intro l;rw [T.acc_n];omega
  | ha nm=>intro l;rw [T.acc_a];omega
  | hc nm args ih =>
    intro l;rw [T.acc_c,T.ns_c];have go:∀ ts:List T,(∀ x ∈ ts,∀ l,(x.acc l).length ≤ l.length + x.ns)→∀ l,(accL ts l).length ≤ l.length + nsT ts:=by
      intro ts;induction ts with
      | nil=>intro _ l;rw [accL_nil];omega
      | cons y ys ih2 =>
        intro h l;rw [accL_cons,nsT_cons];have h1:=h y List.mem_cons_self l;have h2:=ih2 (fun x hx=>h x (List.mem_cons_of_mem _ hx)) (y.acc l);omega
    have:=go args ih l;omega
theorem T.vars_len (t:T):t.vars.length ≤ t.ns:=by have:=t.acc_len [];simpa [T.vars] using this
def rnV (t:Tm) (m:Int):Tm × Int × Int:=if t.right=true then (if 1 ≤ m∧m ≤ 4611686018427387904 then ((t.tree.ren m).tm,m + t.tree.vars.length,0) else (.node 0 [] 0 [],0,1)) else (.node 0 [] 0 [],0,70)
theorem Keep.onto2 {w W V:World} {n:Nat} (h:Keep (fun g=>g < w.heap.size) w W) (k:Keep (fun g=>g < W.heap.size) W V) (_:W.heap.size=w.heap.size + n):Keep (fun g=>g < w.heap.size) w V:=h.onto k
theorem box_put {w1 w2:World} {g:Nat} {X:Nat→Prop} {x:Tm} {a:Option Addr} {c:Nat} (hb:Blk w1 g 24 #[.int .i64 0,.string ⟨#[]⟩,.int .i64 0,.slice none 0 0]) (hk:Keep X w1 w2) (hg:X g) :
    ∃ W,W=((((w2.setCell ⟨g,0,none⟩ (.int .i64 x.k)).setCell ⟨g,1,none⟩ (.string (str x.nm))).setCell ⟨g,2,none⟩ (.int .i64 x.i)).setCell ⟨g,3,none⟩ (.slice a x.args.length c))∧Keep (fun k=>X k∧k ≠ g) w1 W∧W.heap.size=w2.heap.size ∧
      Blk W g 24 #[.int .i64 x.k,.string (str x.nm),.int .i64 x.i,.slice a x.args.length c]∧Blk w2 g 24 #[.int .i64 0,.string ⟨#[]⟩,.int .i64 0,.slice none 0 0]∧Keep (fun k=>k ≠ g) w2 W:=by
  have hb2:=hb.keep hk hg;exact ⟨_,rfl,(hk.less (fun k hk=>hk.1)).set4 (o:=0) (fun h=>h.2 rfl),by simp [World.setCell],hb2.set4,hb2,(Keep.refl _ w2).set4 (o:=0) (fun h=>h rfl)⟩
section
variable {w:World} {t:Tm} {a:Option Addr} {c:Nat} {m:Int}
set_option maxRecDepth 100000 in
set_option maxHeartbeats 4000000 in
theorem Rename_any (hT:TmAt w.heap.size w t a c) (hm:(ik m).wf=true) :
    Calls Try.prog 12 #[tv t a c,.int .i64 m] w fun e w'=>∃ a' c',e=.returned (.tuple #[tv (rnV t m).1 a' c',.int .i64 (rnV t m).2.1,.int .i64 (rnV t m).2.2]) ∧
      Fr 0 (fun _=>False) w' w.heap.size w'.heap.size (rnV t m).1 a' c'∧Keep (fun g=>g < w.heap.size) w w':=by
  -- the boxes
  have k0:Keep (fun g=>g < w.heap.size) w (((w.alloc (tb t a c)).alloc (.cells #[.int .i64 m] 2)).alloc zb):=(((Keep.refl _ w).alloc _).alloc _).alloc _;have b0:=((Blk.new w 24 #[.int .i64 t.k,.string (str t.nm),.int .i64 t.i,.slice a t.args.length c]).alloc (.cells #[.int .i64 m] 2)).alloc zb;have b1:=(Blk.new (w.alloc (tb t a c)) 2 #[.int .i64 m]).alloc zb;have b2:=Blk.new ((w.alloc (tb t a c)).alloc (.cells #[.int .i64 m] 2)) 24 #[.int .i64 0,.string ⟨#[]⟩,.int .i64 0,.slice none 0 0];obtain ⟨w0,hw0⟩:∃ w0,w0=(((w.alloc (tb t a c)).alloc (.cells #[.int .i64 m] 2)).alloc zb):=⟨_,rfl⟩;have hz0:w0.heap.size=w.heap.size + 3:=by rw [hw0];simp
  simp only [World.size_alloc,← hw0] at k0 b0 b1 b2;have hR:=isRight_any (hT.on k0);have K0:=Lib.hid (And.intro k0 (And.intro b0 (And.intro b1 b2)));clear k0 b0 b1 b2;have HR:=Lib.hid hR;clear hR;have HT:=Lib.hid hT;clear hT;have HZ:=Lib.hid hz0;unfold tv;obtain ⟨ov,hov⟩:∃ ov,ov=rnV t m:=⟨_,rfl⟩;rw [← hov];unfold rnV at hov;have HOV:=Lib.hid hov;clear hov;obtain ⟨r,hr⟩:∃ r,r=t.right:=⟨_,rfl⟩;rw [← hr] at HR HOV;have Hr:=Lib.hid hr;clear hr;unfold tb at hw0;have HW0:=Lib.hid hw0;clear hw0
  go_enter Try.func12,Try.ntmps12
  go_wp2_with fail
  rw [← HW0.out];refine HR.out.mono ?_;rintro e w1 ⟨rfl,k1⟩;obtain ⟨kk0,bb0,bb1,bb2⟩:=K0.out;have hz1:=k1.size;have c0:=(bb0.keep k1 (by omega)).cell 0;have c1:=(bb0.keep k1 (by omega)).cell 1;have c2:=(bb0.keep k1 (by omega)).cell 2;have c3:=(bb0.keep k1 (by omega)).cell 3;have d0:=(bb1.keep k1 (by omega)).cell 0;simp at c0 c1 c2 c3 d0;have bb3:=bb2.keep k1 (by omega);have f0:=bb3.frozen 0;have f1:=bb3.frozen 1;have f2:=bb3.frozen 2;have f3:=bb3.frozen 3;have e0:=bb3.cell 0;have e1:=bb3.cell 1;have e2:=bb3.cell 2;have e3:=bb3.cell 3;simp at e0 e1 e2 e3;have l0:w.heap.size < w1.heap.size:=by omega
  have l1:w.heap.size + 1 < w1.heap.size:=by omega
  have l2:w.heap.size + 1 + 1 < w1.heap.size:=by omega
  have BAD:Hid (∃ W,W=((((w1.setCell ⟨w.heap.size + 1 + 1,0,none⟩ (.int .i64 0)).setCell ⟨w.heap.size + 1 + 1,1,none⟩ (.string ⟨#[]⟩)).setCell ⟨w.heap.size + 1 + 1,2,none⟩ (.int .i64 0)).setCell ⟨w.heap.size + 1 + 1,3,none⟩ (.slice none 0 0))∧Keep (fun g=>g < w.heap.size) w W∧Blk W (w.heap.size + 1 + 1) 24 #[.int .i64 0,.string ⟨#[]⟩,.int .i64 0,.slice none 0 0]∧Fr 0 (fun _=>False) W w.heap.size W.heap.size (.node 0 [] 0 []) none 0):=by
    obtain ⟨W,hW,hk,hsz,hb,-,-⟩:=box_put (x:=.node 0 [] 0 []) (a:=none) (c:=0) bb2 k1 (by omega);refine Lib.hid ⟨W,hW,kk0.trans (hk.less (fun g hg=>⟨by omega,by omega⟩)),hb,.old (tm_leaf (by decide) (by decide) (by simp)) (by omega)⟩
  have GOOD:=Lib.hid (And.intro k1 (And.intro (kk0.onto2 k1 hz0) (And.intro (bb1.keep k1 (by omega)) bb3)));clear kk0 bb0 bb1 bb2 bb3 K0 HW0;cases r with
  | false =>
    obtain ⟨W,hW,hkW,hbW,hfW⟩:=BAD.out;have g0:=hbW.cell 0;have g1:=hbW.cell 1;have g2:=hbW.cell 2;have g3:=hbW.cell 3;rw [hW] at g0 g1 g2 g3;simp at g0 g1 g2 g3;have HE:=Lib.hid (And.intro hfW hkW);clear hfW hkW hbW BAD GOOD;have HW:=Lib.hid hW;clear hW
    go_wp2_with fail
    have hov:=HOV.out;rw [if_neg (by simp)] at hov;subst hov;refine bodyPost_ret (v:=.tuple #[.agg #[.int .i64 0,.string ⟨#[]⟩,.int .i64 0,.slice none 0 0],.int .i64 0,.int .i64 70]) (by simp [results,Try.results12,go_sem,g0,g1,g2,g3]) rfl ⟨none,0,rfl,?_⟩;rw [← HW.out];exact HE.out
  | true =>
    by_cases h1:m < 1
    · have hm2:¬ 1 ≤ m:=by omega
      have HM:=Lib.hid hm2;clear hm2;obtain ⟨W,hW,hkW,hbW,hfW⟩:=BAD.out;have g0:=hbW.cell 0;have g1:=hbW.cell 1;have g2:=hbW.cell 2;have g3:=hbW.cell 3;rw [hW] at g0 g1 g2 g3;simp at g0 g1 g2 g3;have HE:=Lib.hid (And.intro hfW hkW);clear hfW hkW hbW BAD GOOD;have HW:=Lib.hid hW;clear hW
      go_wp2_with fail
      have hov:=HOV.out;rw [if_pos (by simp),if_neg (fun h=>by have:=HM.out;omega)] at hov;subst hov;refine bodyPost_ret (v:=.tuple #[.agg #[.int .i64 0,.string ⟨#[]⟩,.int .i64 0,.slice none 0 0],.int .i64 0,.int .i64 1]) (by simp [results,Try.results12,go_sem,g0,g1,g2,g3]) rfl ⟨none,0,rfl,?_⟩;rw [← HW.out];exact HE.out
    by_cases h2:4611686018427387904 < m
    · have hm2:¬ m ≤ 4611686018427387904:=by omega
      have HM:=Lib.hid hm2;clear hm2;obtain ⟨W,hW,hkW,hbW,hfW⟩:=BAD.out;have g0:=hbW.cell 0;have g1:=hbW.cell 1;have g2:=hbW.cell 2;have g3:=hbW.cell 3;rw [hW] at g0 g1 g2 g3;simp at g0 g1 g2 g3;have HE:=Lib.hid (And.intro hfW hkW);clear hfW hkW hbW BAD GOOD;have HW:=Lib.hid hW;clear hW
      go_wp2_with fail
      have hov:=HOV.out;rw [if_pos (by simp),if_neg (fun h=>by have:=HM.out;omega)] at hov;subst hov;refine bodyPost_ret (v:=.tuple #[.agg #[.int .i64 0,.string ⟨#[]⟩,.int .i64 0,.slice none 0 0],.int .i64 0,.int .i64 1]) (by simp [results,Try.results12,go_sem,g0,g1,g2,g3]) rfl ⟨none,0,rfl,?_⟩;rw [← HW.out];exact HE.out
    have hmm:=@run_makeMap Try.prog;have hright:=right_of.1 Hr.out.symm;have hvl:t.tree.vars.length ≤ 2000:=Nat.le_trans t.tree.vars_len (Tm.tree_right hright).2.1;obtain ⟨kk1,kk0,bb1,bb2⟩:=GOOD.out;obtain ⟨W2,hW2⟩:∃ W2,W2=(w1.alloc (.map #[] 0)).alloc (.cells #[.map (some w1.heap.size)] 76):=⟨_,rfl⟩;have hz2:W2.heap.size=w1.heap.size + 2:=by rw [hW2];simp
    have kk2:Keep (fun g=>g < w1.heap.size) w1 W2:=by rw [hW2];exact ((Keep.refl _ w1).alloc _).alloc _
    have hI:RenI w.heap.size m t.tree.vars w1.heap.size (w1.heap.size + 1) (w.heap.size + 1) [] (fun g=>g=w1.heap.size∨g=w1.heap.size + 1∨g=w.heap.size + 1) W2:=by
      refine ⟨?_,?_,bb1.keep kk2 l1,fun g=>Iff.rfl,⟨by omega,by omega,by omega⟩,List.nodup_nil,by simp⟩
      · have hmd:=(MapI.made w1 (.int .i64 0)).keep (X:=fun _=>True) (w':=W2) (by rw [hW2];exact (Keep.refl _ _).alloc _) trivial;simpa using hmd
      · have:=Blk.new (w1.alloc (.map #[] 0)) 76 #[.map (some w1.heap.size)];rw [← hW2] at this;simpa using this
    have hT2:TmAt w.heap.size W2 t a c:=HT.out.keepX (kk0.trans (kk2.less (fun g hg=>by omega))) (fun _ h=>h);have hcop:=cop_any (put_ren (B0:=w.heap.size) (m:=m) (V:=t.tree.vars) (mb:=w1.heap.size) (bn:=w1.heap.size + 1) (bf:=w.heap.size + 1) (by omega) (by omega) hvl) t hright.1 [] _ W2 a c (fun s' v h=>(T.mem_vars _ v).2 h.has) hI (by omega) hT2;rw [cop_ren m t hright.1 []] at hcop;have hcop2:Calls Try.prog 46 #[.agg #[.int .i64 t.k,.string (str t.nm),.int .i64 t.i,.slice a t.args.length c],.func (.func 54) #[] #[.pointer (some ⟨w1.heap.size + 1,0,none⟩),.pointer (some ⟨w.heap.size + 1,0,none⟩)]] W2 fun e w3=>∃ a' c',e=.returned (tv (t.tree.ren m).tm a' c')∧Fr 0 (fun _=>False) w3 (w1.heap.size + 2) w3.heap.size (t.tree.ren m).tm a' c'∧MapI w3 w1.heap.size (.int .i64 0) (fun x=>if x ∈ t.tree.vars then some (.int .i64 (m + idx t.tree.vars x)) else none) t.tree.vars.length∧Blk w3 (w1.heap.size + 1) 76 #[.map (some w1.heap.size)]∧Blk w3 (w.heap.size + 1) 2 #[.int .i64 m]∧Blk w3 (w.heap.size + 1 + 1) 24 #[.int .i64 0,.string ⟨#[]⟩,.int .i64 0,.slice none 0 0]∧Keep (fun g=>g < w.heap.size) w w3∧w1.heap.size + 2 ≤ w3.heap.size:=by
      refine hcop.mono ?_;rintro e w3 ⟨a',c',P',rfl,hfr,hri,hk3,hp3⟩;rw [hz2] at hfr;refine ⟨a',c',rfl,hfr.grow (Nat.le_refl _) (fun _ h=>h.elim),hri.map,hri.hbn,hri.hbf,?_,?_,?_⟩
      · exact (bb2.keep kk2 l2).keep hk3 (by omega)
      · exact kk0.trans ((kk2.less (fun g hg=>by omega)).trans (hk3.less (fun g hg=>by omega)))
      · have:=hk3.size;omega
    have HC:=Lib.hid hcop2;clear hcop hcop2 hI hT2 hright kk0 kk1 kk2 bb1 bb2 BAD GOOD;have HW2:=Lib.hid hW2;clear hW2;have HO:Hid (ov=((t.tree.ren m).tm,m + (t.tree.vars.length:Int),0)):=by
      have:=HOV.out;rw [if_pos (by simp),if_pos ⟨by omega,by omega⟩] at this;exact Lib.hid this
    clear HOV;have hvl2:=Lib.hid hvl;clear hvl;generalize t.tree.ren m=tr at *
    generalize t.tree.vars=vs at *
    go_wp2_with fail
    rw [← HW2.out];refine HC.out.mono ?_;rintro e w3 ⟨a3,cp3,rfl,hfr,hmp,b1,b2,b3,k3,s3⟩;have hvl:=hvl2.out;have hmp4:=hmp.keep (w':=w3.alloc (tb tr.tm a3 cp3)) (X:=fun _=>True) ((Keep.refl _ _).alloc _) trivial;have hln:=fun ty=>hmp4.len Try.underlying76 ty;have hln2:=fun ty=>(hmp4.keep (w':=(w3.alloc (tb tr.tm a3 cp3)).drew) (X:=fun _=>True) ((Keep.refl _ _).drew) trivial).len Try.underlying76 ty;have hwrap:IntKind.i64.wrap (m + (vs.length:Int))=m + (vs.length:Int):=by rw [IntKind.wrap_i64];omega
    obtain ⟨W0,hW0,-,hsz,hbW0,-,hkW0⟩:=box_put (x:=tr.tm) (a:=a3) (c:=cp3) b3 (w2:=w3) (X:=fun _=>True) (Keep.refl _ _) trivial;obtain ⟨W,hW⟩:∃ W,W=(W0.alloc (tb tr.tm a3 cp3)).drew:=⟨_,rfl⟩;have hbW:Blk W (w.heap.size + 1 + 1) 24 #[.int .i64 tr.tm.k,.string (str tr.tm.nm),.int .i64 tr.tm.i,.slice a3 tr.tm.args.length cp3]:=by rw [hW];exact (hbW0.alloc _).drew
    have hk4:Keep (fun k=>k ≠ w.heap.size + 1 + 1) w3 W:=by rw [hW];exact (hkW0.alloc _).drew
    have hszW:W.heap.size=w3.heap.size + 1:=by rw [hW];show (W0.alloc _).heap.size=_;rw [World.size_alloc,hsz]
    rw [hW0] at hW;clear f0 f1 f2 f3 e0 e1 e2 e3 c0 c1 c2 c3 d0 l0 l1 l2;have l1:=b1.lt;have l2:=b2.lt;have l3:=b3.lt;have d1:=b1.cell 0;have d2:=b2.cell 0;simp at d1 d2;have f0:=b3.frozen 0;have f1:=b3.frozen 1;have f2:=b3.frozen 2;have f3:=b3.frozen 3;have e0:=b3.cell 0;have e1:=b3.cell 1;have e2:=b3.cell 2;have e3:=b3.cell 3;simp at e0 e1 e2 e3;have g0:=hbW.cell 0;have g1:=hbW.cell 1;have g2:=hbW.cell 2;have g3:=hbW.cell 3;rw [hW] at g0 g1 g2 g3;simp at g0 g1 g2 g3;have hE:Fr 0 (fun _=>False) W w.heap.size W.heap.size tr.tm a3 cp3∧Keep (fun g=>g < w.heap.size) w W:=by
      exact ⟨(hfr.keepR hk4 (fun g hg=>by omega)).up (by omega) (by omega),k3.trans (hk4.less (fun g hg=>by omega))⟩
    have HE:=Lib.hid hE;clear hE;have HW:=Lib.hid hW;clear hW;have hov:=HO.out;subst hov;clear hfr hmp b1 b2 b3 k3 s3 hmp4 hsz hbW hk4 hszW hW0 hbW0 hkW0 HC HR HT HO HW2 hmm hz0 hz1 k1;unfold tv;unfold tb at *
    go_wp2_with fail
    clear HZ Hr hz2 hvl2 h1 h2 hm
    go_region
    go_wp2_with fail
    refine bodyPost_ret (v:=.tuple #[.agg #[.int .i64 tr.tm.k,.string (str tr.tm.nm),.int .i64 tr.tm.i,.slice a3 tr.tm.args.length cp3],.int .i64 (m + (vs.length:Int)),.int .i64 0]) (by simp [results,Try.results12,go_sem,g0,g1,g2,g3]) rfl ⟨a3,cp3,rfl,?_⟩;rw [← HW.out];exact HE.out
end
def fVn:List Int × Nat→Int→Tm × (List Int × Nat):=fun s x=>(.node 1 [] x [],(if x ∈ s.1 then s.1 else s.1 ++ [x],s.2 + 1))
theorem cop_vn:∀ t:Tm,t.ok=true→∀ s,(t.cop fVn s).2=(t.tree.acc s.1,(t.cop fVn s).2.2):=by
  refine Tm.byKind (fun t h _ l=>?_) (fun t h _ l=>?_) (fun t h _ l=>?_) (fun t h _ _ _ _ _ ih l=>?_)
  · rw [cop_1 _ _ _ h,tree_1 h,T.acc_v];rfl
  · rw [cop_2 _ _ _ h,tree_2 h,T.acc_n]
  · rw [cop_3 _ _ _ h,tree_3 h,T.acc_a]
  · rw [cop_4 _ _ _ h,tree_4 h,T.acc_c];have go:∀ ts:List Tm,(∀ x ∈ ts,∀ s,(x.cop fVn s).2=(x.tree.acc s.1,(x.cop fVn s).2.2))→∀ s,(copL fVn ts s).2=(accL (ts.map Tm.tree) s.1,(copL fVn ts s).2.2):=by
      intro ts;induction ts with
      | nil=>intro _ l;rw [copL_nil,List.map_nil,accL_nil]
      | cons x ts ih =>
        intro h s;have h1:=h x List.mem_cons_self s;have h2:=ih (fun y hy=>h y (List.mem_cons_of_mem _ hy)) (x.cop fVn s).2;rw [copL_cons,List.map_cons,accL_cons];have e:(x.cop fVn s).2.1=x.tree.acc s.1:=by rw [h1]
        rw [e] at h2;exact h2
    exact go _ ih l
theorem nsL_append:∀ (ts us:List Tm),nsL (ts ++ us)=nsL ts + nsL us:=by
  intro ts us;induction ts with
  | nil=>rw [nsL_nil,List.nil_append];omega
  | cons x ts ih=>rw [List.cons_append,nsL_cons,nsL_cons,ih];omega
theorem copL_vn_n:∀ ts:List Tm,(∀ x ∈ ts,∀ s,(x.cop fVn s).2.2 ≤ s.2 + x.ns)→∀ s,(copL fVn ts s).2.2 ≤ s.2 + nsL ts:=by
  intro ts;induction ts with
  | nil=>intro _ s;rw [copL_nil];show s.2 ≤ _;omega
  | cons x ts ih =>
    intro h s;rw [copL_cons,nsL_cons];have h1:=h x List.mem_cons_self s;have h2:=ih (fun y hy=>h y (List.mem_cons_of_mem _ hy)) (x.cop fVn s).2;show (copL fVn ts (x.cop fVn s).2).2.2 ≤ _;omega
theorem cop_vn_n:∀ t:Tm,t.ok=true→∀ s,(t.cop fVn s).2.2 ≤ s.2 + t.ns:=by
  refine Tm.byKind (fun t h _ l=>?_) (fun t h _ l=>?_) (fun t h _ l=>?_) (fun t h _ _ _ _ _ ih l=>?_)
  · rw [cop_1 _ _ _ h,t.ns_eq,if_neg (by omega)];show l.2 + 1 ≤ _;omega
  · rw [cop_2 _ _ _ h];show l.2 ≤ _;omega
  · rw [cop_3 _ _ _ h];show l.2 ≤ _;omega
  · rw [cop_4 _ _ _ h,t.ns_eq,if_pos h];have:=copL_vn_n _ ih l;show (copL fVn t.args l).2.2 ≤ _;omega
theorem Reach.vn {t:Tm} {s s':List Int × Nat} {v:Int} (h:Reach fVn t s s' v):t.ok=true→s'.2 < s.2 + t.ns:=by
  induction h with
  | @var t s hk=>intro _;have:=t.ns_pos;omega
  | @arg t x s s' v j hk hj h ih =>
    intro hok;have hoks:=(Tm.ok_args hok hk).2.2.1;have ih:=ih (hoks x (List.mem_of_getElem? hj));have h1:=copL_vn_n (t.args.take j) (fun x hx s=>cop_vn_n x (hoks x (List.mem_of_mem_take hx)) s) s;have h2:nsL (t.args.take j) + x.ns ≤ nsL t.args:=by
      have hl:=get_lt' hj;have e:t.args=t.args.take j ++ x::t.args.drop (j + 1):=by
        rw [List.getElem?_eq_getElem hl] at hj;rw [← Option.some.inj hj,← List.drop_eq_getElem_cons hl,List.take_append_drop]
      have e2:nsL t.args=nsL (t.args.take j ++ x::t.args.drop (j + 1)):=by rw [← e]
      rw [e2,nsL_append,nsL_cons];omega
    have h3:t.ns=1 + nsL t.args:=by rw [t.ns_eq,if_pos hk]
    omega
theorem info2:(Try.prog.info? 2).map (fun i=>(i.zero,i.size,i.bytes))=some (some (.int .i64 0),1,8):=by kernel_rfl
theorem row_type {w:World} {base sz n:Nat} {t:TypeId} {v:Value} {xs:List Value} (h:w.ownsRow base t sz v n xs) {g:Nat} (hg:v.ownBlock=some g):base ≤ g∧∃ cs,Blk w g t cs:=by
  rcases h.2 with ⟨rfl,_⟩ | ⟨g',cap,cur,rfl,hb,a2,_⟩
  · simp [Value.ownBlock] at hg
  · simp only [Value.ownBlock,Option.some.injEq] at hg;subst hg;exact ⟨hb,cur,a2⟩
theorem row_keep {w w':World} {v:Value} {base sz n:Nat} {t:TypeId} {xs:List Value} (h:w.ownsRow base t sz v n xs) (hk:∀ g,v.ownBlock=some g→w'.heap[g]? = w.heap[g]?):w'.ownsRow base t sz v n xs:=by
  obtain ⟨h1,h2⟩:=h;refine ⟨h1,?_⟩;rcases h2 with h2 | ⟨g,cap,cur,rfl,a1,a2,a3⟩
  · exact .inl h2
  · exact .inr ⟨g,cap,cur,rfl,a1,(hk g rfl).trans a2,a3⟩
theorem row_on {w w':World} {v:Value} {base sz n:Nat} {t:TypeId} {xs:List Value} {X:Nat→Prop} (h:w.ownsRow base t sz v n xs) (hk:Keep X w w') (hX:∀ g,v.ownBlock=some g→X g):w'.ownsRow base t sz v n xs :=
  row_keep h fun g hg=>by obtain ⟨_,cs,hb⟩:=row_type h hg;exact hk.block g hb.lt (hX g hg)
theorem Keep.ofGrown {w w':World} {row:Option Nat} {X:Nat→Prop} (hg:w.grownBy w' row) (hX:∀ g,row=some g→¬ X g):Keep X w w' :=
  ⟨hg.os,hg.tape,hg.output,hg.size,fun k hk hx=>hg.block k hk (fun e=>hX k e.symm hx)⟩
structure VarI (B0 mb bn bv:Nat) (s:List Int × Nat) (P:Nat→Prop) (w:World):Prop where
  map:∃ cnt:Int→Int,MapI w mb (.int .i64 0) (fun x=>if x ∈ s.1 then some (.int .i64 (cnt x)) else none) s.1.length∧∀ x ∈ s.1,1 ≤ cnt x∧cnt x ≤ s.2
  hbn:Blk w bn 95 #[.map (some mb)]
  row:∃ u,Blk w bv 56 #[u]∧w.ownsRow B0 2 1 u s.1.length (s.1.map (Value.int .i64))∧∀ g,u.ownBlock=some g→P g
  own:P mb∧P bn∧P bv
  lo:∀ g,P g→B0 ≤ g∧g < w.heap.size
  nd:s.1.Nodup
  le:s.1.length ≤ s.2
theorem VarI.keep {B0 mb bn bv:Nat} {s:List Int × Nat} {P:Nat→Prop} {w w':World} (h:VarI B0 mb bn bv s P w) (hk:Keep P w w'):VarI B0 mb bn bv s P w':=by
  obtain ⟨⟨cnt,h1,h2⟩,hbn,⟨u,h3,h4,h5⟩,own,lo,nd,le⟩:=h;exact ⟨⟨cnt,h1.keep hk own.1,h2⟩,hbn.keep hk own.2.1,⟨u,h3.keep hk own.2.2,row_on h4 hk h5,h5⟩,own,fun g hg=>⟨(lo g hg).1,Nat.lt_of_lt_of_le (lo g hg).2 hk.size⟩,nd,le⟩
theorem var_fin {B0 mb bn bv:Nat} {s:List Int × Nat} {P P':Nat→Prop} {w w7:World} {v:Int} (hI:VarI B0 mb bn bv s P' w7) (hK:Keep (fun g=>¬ P g) w w7) (hP:¬ P w.heap.size) (hP':¬ P' w.heap.size)
    (hb:Blk w7 w.heap.size 24 #[.int .i64 0,.string ⟨#[]⟩,.int .i64 0,.slice none 0 0]) :
    ∀ w8,Keep (fun g=>g < w7.heap.size) w7 w8→∃ W,W=((((w8.setCell ⟨w.heap.size,0,none⟩ (.int .i64 1)).setCell ⟨w.heap.size,1,none⟩ (.string (str []))).setCell ⟨w.heap.size,2,none⟩ (.int .i64 v)).setCell ⟨w.heap.size,3,none⟩ (.slice none 0 0)) ∧
      VarI B0 mb bn bv s P' W∧Keep (fun g=>¬ P g) w W∧Blk W w.heap.size 24 #[.int .i64 1,.string (str []),.int .i64 v,.slice none 0 0]∧Blk w8 w.heap.size 24 #[.int .i64 0,.string ⟨#[]⟩,.int .i64 0,.slice none 0 0]:=by
  intro w8 hk8;obtain ⟨W,hW,hk,-,hbW,hb8,-⟩:=box_put (x:=.node 1 [] v []) (a:=none) (c:=0) hb hk8 hb.lt;refine ⟨W,hW,hI.keep (hk.less fun g hg=>⟨(hI.lo g hg).2,fun e=>hP' (e ▸ hg)⟩),?_,hbW,hb8⟩;refine ⟨hk.os.trans hK.os,hk.tape.trans hK.tape,hk.output.trans hK.output,Nat.le_trans hK.size hk.size,fun g hg hx=>?_⟩;rw [hk.block g (Nat.lt_of_lt_of_le hg hK.size) ⟨Nat.lt_of_lt_of_le hg hK.size,by omega⟩];exact hK.block g hg hx
set_option maxRecDepth 100000 in
set_option maxHeartbeats 4000000 in
theorem put_vars {B0:Nat} {mb bn bv:Nat}:PutC fVn 0 B0 69 #[.pointer (some ⟨bn,0,none⟩),.pointer (some ⟨bv,0,none⟩)] (VarI B0 mb bn bv) (fun s _=>s.2 < 2000) where
  enter:=fun args w=>enters_of Try.func69 (by kernel_rfl) rfl args w
  frame:=fun l P w w' h hk=>h.keep (hk.less (fun g hg=>.inl hg))
  lt:=fun l P w h g hg=>(h.lo g hg).2
  old:=fun l P w h g hg hp=>by have:=(h.lo g hp).1;omega
  le:=Nat.zero_le _
  call:=by
    rintro ⟨l,n⟩ P w v h hB hwf hv1 hn;replace hn:n < 2000:=hn;have hlo:=h.lo;obtain ⟨⟨cnt,hm,hcnt⟩,hbn,⟨u,hbv,hrow,hu⟩,⟨o1,o2,o3⟩,-,hnd,hle⟩:=h;replace hle:l.length ≤ n:=hle
    dsimp only at hm hcnt hrow
    have hP:¬ P w.heap.size:=fun hh=>by have:=(hlo _ hh).2;omega
    have k0:Keep (fun _=>True) w (w.alloc zb):=(Keep.refl _ w).alloc zb;have hm0:=hm.keep k0 trivial;have hlk:=hm0.look1 Try.underlying95 (by kernel_rfl) hwf;have nbn:bn ≠ mb:=(hm.ne_blk hbn).symm;have nbv:bv ≠ mb:=(hm.ne_blk hbv).symm;have nbb:bv ≠ bn:=hbv.ne_ hbn (by decide);have hbx:=Blk.new w 24 #[.int .i64 0,.string ⟨#[]⟩,.int .i64 0,.slice none 0 0];have hvar:=fun W=>variable_any W v;have l1:=hbn.lt;have l2:=hbv.lt;have l3:=hm.lt;have c1:=hbn.cell 0;simp at c1;have run:∀ q:Int,∃ w3,(Instr.mapUpdate 95 (.map (some mb)) (.int .i64 v) (.int .i64 q)).run Try.prog (w.alloc zb)=.ok () w3∧MapI w3 mb (.int .i64 0) (fun x=>if x=v then some (.int .i64 q) else if x ∈ l then some (.int .i64 (cnt x)) else none) (if v ∈ l then l.length else l.length + 1)∧Keep (fun g=>g ≠ mb) (w.alloc zb) w3:=fun q=>by
      obtain ⟨w3,h1,h2,h3⟩:=hm0.store Try.underlying95 (by unfold maxLen;omega) hwf (.int .i64 q);refine ⟨w3,h1,?_,(Keep.refl _ _).turned h3 (fun hh=>hh rfl)⟩;have e:(if ((if v ∈ l then some (Value.int .i64 (cnt v)) else none).isSome=true) then l.length else l.length + 1)=(if v ∈ l then l.length else l.length + 1):=by by_cases hv:v ∈ l <;> simp [hv]
      rw [← e];exact h2
    show Calls _ _ #[.int .i64 v,.pointer (some ⟨bn,0,none⟩),.pointer (some ⟨bv,0,none⟩)] w _;by_cases hmem:v ∈ l
    · have hf:(fVn (l,n) v)=(.node 1 [] v [],(l,n + 1)):=by unfold fVn;simp [hmem]
      rw [hf];simp only [if_pos hmem,Option.getD_some] at hlk;obtain ⟨q1,q2⟩:=hcnt v hmem;obtain ⟨w3,hst,hm3,hk3⟩:=run (cnt v + 1);rw [if_pos hmem] at hm3;have hm3':MapI w3 mb (.int .i64 0) (fun x=>if x ∈ l then some (.int .i64 ((fun x=>if x=v then cnt v + 1 else cnt x) x)) else none) l.length:=by
        have e:(fun x=>if x=v then some (Value.int .i64 (cnt v + 1)) else if x ∈ l then some (.int .i64 (cnt x)) else none)=(fun x=>if x ∈ l then some (Value.int .i64 ((fun x=>if x=v then cnt v + 1 else cnt x) x)) else none):=by
          funext x;by_cases hx:x=v
          · subst hx;simp [hmem]
          · simp [hx]
        rw [← e];exact hm3
      have hlk3:=hm3'.look1 Try.underlying95 (by kernel_rfl) hwf;simp only [if_pos hmem,if_true,Option.getD_some] at hlk3;have hz3:=hk3.size;simp only [World.size_alloc] at hz3;have kk:Keep (fun g=>g < w.heap.size∧g ≠ mb) w w3:=(k0.less (fun _ _=>trivial)).trans (hk3.less (fun g hg=>hg.2));have hI3:VarI B0 mb bn bv (l,n + 1) P w3:=⟨⟨_,hm3',fun x hx=>by
          by_cases hxv:x=v
          · subst hxv;simp;omega
          · simp only [if_neg hxv];have:=hcnt x hx;push_cast;omega⟩,hbn.keep kk ⟨l1,nbn⟩,⟨u,hbv.keep kk ⟨l2,nbv⟩,row_on hrow kk (fun g hg=>⟨(hlo g (hu g hg)).2,fun e=>by
            obtain ⟨_,cs,hb⟩:=row_type hrow hg;exact hm.ne_blk hb e.symm⟩),hu⟩,⟨o1,o2,o3⟩,fun g hg=>⟨(hlo g hg).1,by have:=(hlo g hg).2;omega⟩,hnd,by show l.length ≤ n + 1;omega⟩
      have c3:=(hI3.hbn).cell 0;simp at c3;have hK3:Keep (fun g=>¬ P g) w w3:=⟨kk.os,kk.tape,kk.output,kk.size,fun g hg hx=>kk.block g hg ⟨hg,fun e=>hx (e ▸ o1)⟩⟩;have hfin:=var_fin (v:=v) hI3 hK3 hP hP (hbx.keep hk3 (by omega));have HFIN:=Lib.hid hfin;clear hfin;have l13:=hI3.hbn.lt;have HVAR:=Lib.hid hvar;clear hvar;have hwrap:IntKind.i64.wrap (cnt v + 1)=cnt v + 1:=by rw [IntKind.wrap_i64];omega
      have hwf2:(ik v).wf=true:=hwf;clear hf hm3' hm3 hk3 hz3 hI3 hK3 kk run hbx hm hm0 k0 hcnt hrow hu hbv hbn hlo hmem hnd hle o1 o2 o3 nbn nbv nbb;generalize cnt v=q at *
      go_enter Try.func69,Try.ntmps69
      go_wp2_with fail
      refine (HVAR.out _).mono ?_;rintro e w8 ⟨rfl,hk8⟩;obtain ⟨W,hW,hIW,hkW,hbW,hb8⟩:=HFIN.out w8 hk8;have f0:=hb8.frozen 0;have f1:=hb8.frozen 1;have f2:=hb8.frozen 2;have f3:=hb8.frozen 3;have d0:=hb8.cell 0;have d1:=hb8.cell 1;have d2:=hb8.cell 2;have d3:=hb8.cell 3;simp at d0 d1 d2 d3;have g0:=hbW.cell 0;have g1:=hbW.cell 1;have g2:=hbW.cell 2;have g3:=hbW.cell 3;rw [hW] at g0 g1 g2 g3;simp at g0 g1 g2 g3;have HE:=Lib.hid (And.intro hIW hkW);clear hIW hkW;have HW:=Lib.hid hW;clear hW;clear hbW hb8 hk8 HVAR HFIN
      go_wp2_with fail
      refine bodyPost_ret (v:=.agg #[.int .i64 1,.string ⟨#[]⟩,.int .i64 v,.slice none 0 0]) (by simp [results,Try.results69,go_sem,fVn,Tm.k,Tm.nm,Tm.i,Tm.args,g0,g1,g2,g3];rfl) rfl ⟨none,0,P,rfl,tm_leaf (by decide) hwf (by simp),?_,?_,fun g hg=>.inl hg⟩
      · have hE:=HE.out.1;rw [HW.out] at hE;exact hE
      · have hE:=HE.out.2;rw [HW.out] at hE;exact hE
    · have hf:(fVn (l,n) v)=(.node 1 [] v [],(l ++ [v],n + 1)):=by unfold fVn;simp [hmem]
      rw [hf];simp only [if_neg hmem,Option.getD_none] at hlk;obtain ⟨w3,hst,hm3,hk3⟩:=run 1;rw [if_neg hmem] at hm3;have hm3':MapI w3 mb (.int .i64 0) (fun x=>if x ∈ l ++ [v] then some (.int .i64 ((fun x=>if x=v then 1 else cnt x) x)) else none) (l ++ [v]).length:=by
        have e:(fun x=>if x=v then some (Value.int .i64 1) else if x ∈ l then some (.int .i64 (cnt x)) else none)=(fun x=>if x ∈ l ++ [v] then some (Value.int .i64 ((fun x=>if x=v then 1 else cnt x) x)) else none):=by
          funext x;by_cases hx:x=v
          · subst hx;simp
          · by_cases hxl:x ∈ l <;> simp [hx,hxl]
        rw [← e,List.length_append,List.length_singleton];exact hm3
      have hlk3:=hm3.look1 Try.underlying95 (by kernel_rfl) hwf;simp only [if_true,Option.getD_some] at hlk3;have hz3:=hk3.size;simp only [World.size_alloc] at hz3;have kk:Keep (fun g=>g < w.heap.size∧g ≠ mb) w w3:=(k0.less (fun _ _=>trivial)).trans (hk3.less (fun g hg=>hg.2));have hrow3:=row_on hrow kk (fun g hg=>⟨(hlo g (hu g hg)).2,fun e=>by
            obtain ⟨_,cs,hb⟩:=row_type hrow hg;exact hm.ne_blk hb e.symm⟩)
      have hbn3:=hbn.keep kk ⟨l1,nbn⟩;have hbv3:=hbv.keep kk ⟨l2,nbv⟩;have hbx3:=hbx.keep hk3 (by omega);obtain ⟨i0,hi0,hz0,hz1,hz2⟩:=info_parts info2;have hnd2:(l ++ [v]).Nodup:=List.nodup_append.2 ⟨hnd,by simp,fun a ha b hb=>by simp at hb;subst hb;exact fun e=>hmem (e ▸ ha)⟩;have c3:=hbn3.cell 0;have c4:=hbv3.cell 0;simp at c3 c4;have f4:=hbv3.frozen 0;have l13:=hbn3.lt;have l23:=hbv3.lt
      -- behind the append,its answer in the box
      have hafter:∀ g cap w5,w5.ownsRow B0 2 1 (.slice (some ⟨g,0,none⟩) (l.length + 1) cap) (l.length + 1) (l.map (Value.int .i64) ++ [.int .i64 v])→(w3.alloc (.cells #[.int .i64 v] 2)).grownBy w5 u.ownBlock→(u.ownBlock=some g∨g=w3.heap.size + 1)→g < w5.heap.size →
          bv < w5.heap.size∧w5.cell? ⟨bv,0,none⟩=some u∧w5.frozen? ⟨bv,0,none⟩=false∧∃ W7,W7=w5.setCell ⟨bv,0,none⟩ (.slice (some ⟨g,0,none⟩) (l.length + 1) cap) ∧
          VarI B0 mb bn bv (l ++ [v],n + 1) (fun k=>P k∨k=g) W7∧Keep (fun k=>¬ P k) w W7∧(∀ k,(P k∨k=g)→P k∨w.heap.size ≤ k)∧(∀ w8,Keep (fun k=>k < W7.heap.size) W7 w8→∃ W,W=((((w8.setCell ⟨w.heap.size,0,none⟩ (.int .i64 1)).setCell ⟨w.heap.size,1,none⟩ (.string (str []))).setCell ⟨w.heap.size,2,none⟩ (.int .i64 v)).setCell ⟨w.heap.size,3,none⟩ (.slice none 0 0)) ∧
      VarI B0 mb bn bv (l ++ [v],n + 1) (fun k=>P k∨k=g) W∧Keep (fun g=>¬ P g) w W∧Blk W w.heap.size 24 #[.int .i64 1,.string (str []),.int .i64 v,.slice none 0 0]∧Blk w8 w.heap.size 24 #[.int .i64 0,.string ⟨#[]⟩,.int .i64 0,.slice none 0 0]):=by
        intro g cap w5 hown hgr hat hltg;have hz5:=hgr.size;rw [World.size_alloc] at hz5;have nub:∀ k,u.ownBlock=some k→k ≠ bn∧k ≠ bv∧k ≠ mb:=fun k hk=>by
          obtain ⟨_,cs,hb⟩:=row_type hrow3 hk;exact ⟨hb.ne_ hbn3 (by decide),hb.ne_ hbv3 (by decide),fun e=>hm3'.ne_blk hb e.symm⟩
        have hgn:g ≠ bn∧g ≠ bv∧g ≠ mb:=by
          rcases hat with e | e
          · exact nub g e
          · have:=hm3'.lt;omega
        have kg:Keep (fun k=>u.ownBlock ≠ some k) w3 w5:=((Keep.refl _ w3).alloc _).trans (Keep.ofGrown hgr (fun k e hx=>hx e));have hbv5:=hbv3.keep kg (fun e=>(nub _ e).2.1 rfl);refine ⟨by omega,by have:=hbv5.cell 0;simpa using this,hbv5.frozen 0,_,rfl,?_⟩;have ks:Keep (fun k=>k ≠ bv) w5 (w5.setCell ⟨bv,0,none⟩ (.slice (some ⟨g,0,none⟩) (l.length + 1) cap)):=(Keep.refl _ w5).setCell (p:=⟨bv,0,none⟩) (fun h=>h rfl) _;have hsz:(w5.setCell ⟨bv,0,none⟩ (.slice (some ⟨g,0,none⟩) (l.length + 1) cap)).heap.size=w5.heap.size:=by simp [World.setCell]
        have kall:Keep (fun k=>u.ownBlock ≠ some k∧k ≠ bv) w3 (w5.setCell ⟨bv,0,none⟩ (.slice (some ⟨g,0,none⟩) (l.length + 1) cap)):=(kg.less (fun k hk=>hk.1)).trans (ks.less (fun k hk=>hk.2));have hI7:VarI B0 mb bn bv (l ++ [v],n + 1) (fun k=>P k∨k=g) (w5.setCell ⟨bv,0,none⟩ (.slice (some ⟨g,0,none⟩) (l.length + 1) cap)):=by
          refine ⟨⟨_,hm3'.keep kall ⟨fun e=>(nub _ e).2.2 rfl,fun e=>nbv e.symm⟩,fun x hx=>?_⟩,hbn3.keep kall ⟨fun e=>(nub _ e).1 rfl,fun e=>nbb e.symm⟩,⟨.slice (some ⟨g,0,none⟩) (l.length + 1) cap,?_,?_,?_⟩,⟨.inl o1,.inl o2,.inl o3⟩,fun k hk=>?_,hnd2,?_⟩
          · rcases List.mem_append.1 hx with hx | hx
            · have hxv:x ≠ v:=fun e=>hmem (e ▸ hx);simp only [if_neg hxv];have:=hcnt x hx;push_cast;omega
            · simp at hx;subst hx;simp;omega
          · have:=hbv5.set_ 0 (.slice (some ⟨g,0,none⟩) (l.length + 1) cap);simpa using this
          · have:=row_on hown ks (fun k hk=>by simp only [Value.ownBlock,Option.some.injEq] at hk;subst hk;exact hgn.2.1);simpa using this
          · intro k hk;simp only [Value.ownBlock,Option.some.injEq] at hk;exact .inr hk.symm
          · rw [hsz];rcases hk with hk | rfl
            · have:=hlo k hk;exact ⟨this.1,by omega⟩
            · refine ⟨?_,hltg⟩;rcases hat with e | e
              · exact (hlo _ (hu _ e)).1
              · omega
          · show (l ++ [v]).length ≤ n + 1;simp;omega
        have hK7:Keep (fun k=>¬ P k) w (w5.setCell ⟨bv,0,none⟩ (.slice (some ⟨g,0,none⟩) (l.length + 1) cap)):=by
          refine ⟨kall.os.trans kk.os,kall.tape.trans kk.tape,kall.output.trans kk.output,Nat.le_trans kk.size kall.size,fun k hk hx=>?_⟩;rw [kall.block k (Nat.lt_of_lt_of_le hk kk.size) ⟨fun e=>hx (hu k e),fun e=>hx (e ▸ o3)⟩];exact kk.block k hk ⟨hk,fun e=>hx (e ▸ o1)⟩
        have hgw:∀ k,(P k∨k=g)→P k∨w.heap.size ≤ k:=fun k hk=>by
          rcases hk with hk | rfl
          · exact .inl hk
          · rcases hat with e | e
            · exact .inl (hu _ e)
            · right;omega
        refine ⟨hI7,hK7,hgw,var_fin hI7 hK7 hP (fun hh=>?_) (hbx3.keep kall ⟨fun e=>hP (hu _ e),by omega⟩)⟩;rcases hh with hh | hh
        · exact hP hh
        · rcases hat with e | e
          · exact hP (hh ▸ hu _ e)
          · omega
      have HAFT:=Lib.hid hafter;clear hafter;have HVAR:=Lib.hid hvar;clear hvar;have HR3:=Lib.hid hrow3;clear hrow3;have hwf2:(ik v).wf=true:=hwf;have hB3:B0 ≤ w3.heap.size:=by omega
      clear hf hm3' hm3 hk3 hz3 kk run hbx hm hm0 k0 hcnt hrow hu hbv hbn hlo hmem hnd hnd2 o1 o2 o3 nbn nbv nbb hbn3 hbv3 hbx3
      go_enter Try.func69,Try.ntmps69
      go_wp2_with (at_builtin;refine wpList_append_lies _ rfl _ _ 56 rfl B0 2 i0 (.int .i64 0) 1 8 Try.underlying56 hi0 hz0 hz1 hz2 rfl (by decide) _ l.length _ rfl (HR3.out.alloc _) ⟨w3.heap.size,0,none⟩ 1 1 [.int .i64 v] rfl rfl (cell_one_new w3 (.int .i64 v) 2) (ints_oneCell .i64 [v]) (by decide) (by unfold maxLen;omega) (by omega) (by simp;omega) (w3.heap.size + 1) (by simp) ?_)
      intro g1 capg1 w5 hown hgr hat hltg1;obtain ⟨lb,cb,fb,W7,hW7,-,-,hpg,hf7⟩:=HAFT.out g1 capg1 w5 hown hgr hat hltg1;have HPG:=Lib.hid hpg;clear hpg;have HF7:=Lib.hid hf7;clear hf7;have HW7:=Lib.hid hW7;clear hW7;clear hown hgr hat HAFT
      go_wp2_with fail
      rw [← HW7.out];refine (HVAR.out _).mono ?_;rintro e w8 ⟨rfl,hk8⟩;obtain ⟨W,hW,hIW,hkW,hbW,hb8⟩:=HF7.out w8 hk8;have f0:=hb8.frozen 0;have f1:=hb8.frozen 1;have f2:=hb8.frozen 2;have f3:=hb8.frozen 3;have d0:=hb8.cell 0;have d1:=hb8.cell 1;have d2:=hb8.cell 2;have d3:=hb8.cell 3;simp at d0 d1 d2 d3;have gg0:=hbW.cell 0;have gg1:=hbW.cell 1;have gg2:=hbW.cell 2;have gg3:=hbW.cell 3;rw [hW] at gg0 gg1 gg2 gg3;simp at gg0 gg1 gg2 gg3;have HE:=Lib.hid (And.intro hIW hkW);clear hIW hkW;have HW:=Lib.hid hW;clear hW;clear hbW hb8 hk8 HVAR HF7
      go_wp2_with fail
      refine bodyPost_ret (v:=.agg #[.int .i64 1,.string ⟨#[]⟩,.int .i64 v,.slice none 0 0]) (by simp [results,Try.results69,go_sem,fVn,Tm.k,Tm.nm,Tm.i,Tm.args,gg0,gg1,gg2,gg3];rfl) rfl ⟨none,0,(fun k=>P k∨k=g1),rfl,tm_leaf (by decide) hwf (by simp),?_,?_,HPG.out⟩
      · have hE:=HE.out.1;rw [HW.out] at hE;exact hE
      · have hE:=HE.out.2;rw [HW.out] at hE;exact hE
def vaV (t:Tm):List Int:=if t.right=true then t.tree.vars else []
section
variable {w:World} {t:Tm} {a:Option Addr} {c:Nat}
set_option maxRecDepth 100000 in
set_option maxHeartbeats 4000000 in
theorem Vars_any (hT:TmAt w.heap.size w t a c) :
    Calls Try.prog 38 #[tv t a c] w fun e w'=>∃ u,e=.returned u∧w'.ownsRow w.heap.size 2 1 u (vaV t).length ((vaV t).map (Value.int .i64))∧Keep (fun g=>g < w.heap.size) w w':=by
  have k0:Keep (fun g=>g < w.heap.size) w (w.alloc (tb t a c)):=(Keep.refl _ w).alloc _;have b0:=Blk.new w 24 #[.int .i64 t.k,.string (str t.nm),.int .i64 t.i,.slice a t.args.length c];obtain ⟨w0,hw0⟩:∃ w0,w0=w.alloc (tb t a c):=⟨_,rfl⟩;have hz0:w0.heap.size=w.heap.size + 1:=by rw [hw0];simp
  rw [← hw0] at k0 b0;have hR:=isRight_any (hT.on k0);have K0:=Lib.hid (And.intro k0 b0);clear k0 b0;have HR:=Lib.hid hR;clear hR;have HT:=Lib.hid hT;clear hT;have HZ:=Lib.hid hz0;unfold tv;obtain ⟨vs,hvs⟩:∃ vs,vs=vaV t:=⟨_,rfl⟩;rw [← hvs];unfold vaV at hvs;have HOV:=Lib.hid hvs;clear hvs;obtain ⟨r,hr⟩:∃ r,r=t.right:=⟨_,rfl⟩;rw [← hr] at HR HOV;have Hr:=Lib.hid hr;clear hr;unfold tb at hw0;have HW0:=Lib.hid hw0;clear hw0
  go_enter Try.func38,Try.ntmps38
  go_wp2_with fail
  rw [← HW0.out];refine HR.out.mono ?_;rintro e w1 ⟨rfl,k1⟩;obtain ⟨kk0,bb0⟩:=K0.out;have hz1:=k1.size;have c0:=(bb0.keep k1 (by omega)).cell 0;have c1:=(bb0.keep k1 (by omega)).cell 1;have c2:=(bb0.keep k1 (by omega)).cell 2;have c3:=(bb0.keep k1 (by omega)).cell 3;simp at c0 c1 c2 c3;have l0:w.heap.size < w1.heap.size:=by omega
  have kk1:=kk0.onto k1;clear bb0 K0 HW0 k1;cases r with
  | false =>
    have HE:=Lib.hid kk1;clear kk1
    go_wp2_with fail
    have hov:=HOV.out;rw [if_neg (by simp)] at hov;subst hov;refine bodyPost_ret (v:=.slice none 0 0) (by simp [results,Try.results38,go_sem]) rfl ⟨_,rfl,⟨by simp,.inl ⟨rfl,rfl⟩⟩,HE.out⟩
  | true =>
    have hmm:=@run_makeMap Try.prog;have la1:w.heap.size < w1.heap.size + 1:=by omega
    have la2:w.heap.size < w1.heap.size + 1 + 1:=by omega
    have la3:w.heap.size ≠ w1.heap.size + 1 + 1:=by omega
    have la4:w.heap.size ≠ w1.heap.size + 1:=by omega
    have la5:w.heap.size ≠ w1.heap.size:=by omega
    have hright:=right_of.1 Hr.out.symm;have hns:t.ns ≤ 2000:=hright.2.1;obtain ⟨W2,hW2⟩:∃ W2,W2=((w1.alloc (.cells #[.slice none 0 0] 56)).alloc (.map #[] 0)).alloc (.cells #[.map (some (w1.heap.size + 1))] 95):=⟨_,rfl⟩;have hz2:W2.heap.size=w1.heap.size + 3:=by rw [hW2];simp
    have kk2:Keep (fun g=>g < w1.heap.size) w1 W2:=by rw [hW2];exact (((Keep.refl _ w1).alloc _).alloc _).alloc _
    have hI:VarI w.heap.size (w1.heap.size + 1) (w1.heap.size + 2) w1.heap.size ([],0) (fun g=>g=w1.heap.size∨g=w1.heap.size + 1∨g=w1.heap.size + 2) W2:=by
      refine ⟨⟨fun _=>0,?_,by simp⟩,?_,⟨.slice none 0 0,?_,⟨by simp,.inl ⟨rfl,rfl⟩⟩,by simp [Value.ownBlock]⟩,⟨.inr (.inl rfl),.inr (.inr rfl),.inl rfl⟩,fun g hg=>⟨by omega,by omega⟩,List.nodup_nil,Nat.le_refl _⟩
      · have hmd:=(MapI.made (w1.alloc (.cells #[.slice none 0 0] 56)) (.int .i64 0)).keep (X:=fun _=>True) (w':=W2) (by rw [hW2];exact (Keep.refl _ _).alloc _) trivial;simpa using hmd
      · have:=Blk.new ((w1.alloc (.cells #[.slice none 0 0] 56)).alloc (.map #[] 0)) 95 #[.map (some (w1.heap.size + 1))];rw [← hW2] at this;simpa using this
      · have:=((Blk.new w1 56 #[.slice none 0 0]).alloc (.map #[] 0)).alloc (.cells #[.map (some (w1.heap.size + 1))] 95);rw [← hW2] at this;exact this
    have hT2:TmAt w.heap.size W2 t a c:=HT.out.keepX (kk1.trans (kk2.less (fun g hg=>by omega))) (fun _ h=>h);have hcop:=cop_any put_vars t hright.1 ([],0) _ W2 a c (fun s' v h=>by have:=h.vn hright.1;show s'.2 < 2000;dsimp only at this;omega) hI (by omega) hT2;have hcop2:Calls Try.prog 46 #[.agg #[.int .i64 t.k,.string (str t.nm),.int .i64 t.i,.slice a t.args.length c],.func (.func 69) #[] #[.pointer (some ⟨w1.heap.size + 2,0,none⟩),.pointer (some ⟨w1.heap.size,0,none⟩)]] W2 fun e w3=>∃ x a' c' u,e=.returned (tv x a' c')∧Blk w3 w1.heap.size 56 #[u]∧w3.ownsRow w.heap.size 2 1 u t.tree.vars.length (t.tree.vars.map (Value.int .i64))∧Keep (fun g=>g < w.heap.size) w w3:=by
      refine hcop.mono ?_;rintro e w3 ⟨a',c',P',rfl,hfr,hri,hk3,hp3⟩;rw [cop_vn t hright.1] at hri;obtain ⟨u,hb,hrow,-⟩:=hri.row;exact ⟨_,a',c',u,rfl,hb,hrow,kk1.trans ((kk2.less (fun g hg=>by omega)).trans (hk3.less (fun g hg=>by omega)))⟩
    have HC:=Lib.hid hcop2;clear hcop hcop2 hI hT2 hright kk0 kk1 kk2;have HW2:=Lib.hid hW2;clear hW2;have hov:=HOV.out;rw [if_pos rfl] at hov;subst hov;clear HOV
    go_wp2_with fail
    rw [← HW2.out];refine HC.out.mono ?_;rintro e w3 ⟨x,a3,cp3,u,rfl,hb,hrow,hk⟩;have d0:=hb.cell 0;simp at d0;have HE:=Lib.hid (And.intro hrow hk);clear hrow hk hb;unfold tv
    go_wp2_with fail
    refine bodyPost_ret (v:=u) (by simp [results,Try.results38,go_sem]) rfl ⟨u,rfl,HE.out⟩
end
def vtV (t u:Tm):Bool:=t.right && u.right && ((t.tree.ren 1).cmp (u.tree.ren 1) == 0)
theorem rn_one (t:Tm):∃ x n e,rnV t 1=(x,n,e)∧((t.right=true∧x=(t.tree.ren 1).tm∧e=0)∨(t.right=false∧e=70)):=by
  unfold rnV;by_cases h:t.right=true
  · rw [if_pos h,if_pos (by decide)];exact ⟨_,_,_,rfl,.inl ⟨h,rfl,rfl⟩⟩
  · rw [if_neg h];exact ⟨_,_,_,rfl,.inr ⟨by simpa using h,rfl⟩⟩
theorem ren_okk {t:Tm} (h:t.right=true):(t.tree.ren 1).tm.ok=true:=by
  rw [(T.tm_ok _).1];have h1:=(Tm.tree_right (right_of.1 h)).1;exact T.sub_ok h1 (fun x hx=>by unfold renB;rw [T.ok];simp;omega)
section
variable {w:World} {t u:Tm} {a b:Option Addr} {c d:Nat}
set_option maxRecDepth 100000 in
set_option maxHeartbeats 4000000 in
theorem Variant_any (hT:TmAt w.heap.size w t a c) (hU:TmAt w.heap.size w u b d) :
    Calls Try.prog 41 #[tv t a c,tv u b d] w fun e w'=>e=.returned (.bool (vtV t u))∧Keep (fun g=>g < w.heap.size) w w':=by
  obtain ⟨k0,hall⟩:=two_boxes hT hU;obtain ⟨w0,hw0⟩:∃ w0,w0=(w.alloc (tb t a c)).alloc (tb u b d):=⟨_,rfl⟩;have hz0:w0.heap.size=w.heap.size + 2:=by rw [hw0];simp
  rw [← hw0] at hall k0;obtain ⟨-,-,-,hT0,hU0⟩:=hall w0 (Keep.refl _ _);obtain ⟨x1,n1,e1,hv1,he1⟩:=rn_one t;obtain ⟨x2,n2,e2,hv2,he2⟩:=rn_one u;have hR1:=Rename_any (m:=1) hT0 (by decide);rw [hv1] at hR1;unfold tv at hR1;have HR1:=Lib.hid hR1;clear hR1;have HALL:=Lib.hid hall;clear hall;have HE1:=Lib.hid he1;clear he1;have HE2:=Lib.hid he2;clear he2;obtain ⟨bv,hbv⟩:∃ bv,bv=vtV t u:=⟨_,rfl⟩;rw [← hbv];have HBV:=Lib.hid hbv;clear hbv;clear hT hU hT0 hU0 k0 hv1;unfold tb at hw0;have HW0:=Lib.hid hw0;clear hw0
  go_enter Try.func41,Try.ntmps41
  go_wp2_with fail
  rw [← HW0.out];refine HR1.out.mono ?_;rintro e w1 ⟨a1,c1,rfl,hfr1,k1⟩;obtain ⟨kw1,b1,b2,hT1,hU1⟩:=HALL.out w1 k1;have q0:=b2.cell 0;have q1:=b2.cell 1;have q2:=b2.cell 2;have q3:=b2.cell 3;simp at q0 q1 q2 q3;have l2:=b2.lt;have hX1:=hfr1.at_ (Nat.zero_le _);have k12:Keep (fun g=>g < w1.heap.size) w1 (w1.alloc (tb x1 a1 c1)):=(Keep.refl _ _).alloc _;have hR2:=Rename_any (m:=1) (hU1.on k12) (by decide);rw [hv2] at hR2;have bx:=Blk.new w1 24 #[.int .i64 x1.k,.string (str x1.nm),.int .i64 x1.i,.slice a1 x1.args.length c1];have hz1:=k1.size;have HF:=Lib.hid (fun w3 (h:Keep (fun g=>g < (w1.alloc (tb x1 a1 c1)).heap.size) (w1.alloc (tb x1 a1 c1)) w3)=>And.intro (bx.keep h (by simp)) (And.intro (hX1.on (k12.onto h)) (kw1.onto (k12.onto h))));unfold tv tb at hR2;unfold tb at HF;have HR2:=Lib.hid hR2;clear hR2;clear hv2 bx hfr1 k1 kw1 b1 b2 hT1 hU1 hX1 k12 HR1 HALL HW0
  dsimp only
  go_wp2_with fail
  refine HR2.out.mono ?_;rintro e w3 ⟨a2,c2,rfl,hfr2,k3⟩;obtain ⟨b1,hX1,kw3⟩:=HF.out w3 k3;have hX2:=hfr2.at_ (Nat.zero_le _);have p0:=b1.cell 0;have p1:=b1.cell 1;have p2:=b1.cell 2;have p3:=b1.cell 3;simp at p0 p1 p2 p3;have l1:=b1.lt;have k34:Keep (fun g=>g < w3.heap.size) w3 (w3.alloc (tb x2 a2 c2)):=(Keep.refl _ _).alloc _;have kw4:=kw3.onto k34;rcases HE1.out with ⟨r1,hx1,rfl⟩ | ⟨r1,rfl⟩
  · rcases HE2.out with ⟨r2,hx2,rfl⟩ | ⟨r2,rfl⟩
    · have ho:=ord_any (w3.alloc (tb x2 a2 c2)).heap.size x1 (by rw [hx1];exact ren_okk r1) x2 (by rw [hx2];exact ren_okk r2) (w3.alloc (tb x2 a2 c2)) a1 a2 c1 c2 (Nat.le_refl _) (hX1.on k34) (hX2.on k34);rw [hx1,hx2,T.tm_tree,T.tm_tree] at ho;have hbv:bv=((t.tree.ren 1).cmp (u.tree.ren 1) == 0):=by rw [HBV.out];unfold vtV;rw [r1,r2];rfl
      have HB:=Lib.hid hbv;clear hbv;generalize (t.tree.ren 1).cmp (u.tree.ren 1)=z at *
      rw [← hx1,← hx2] at ho;unfold tv tb at ho;have HO:=Lib.hid ho;clear ho;unfold tb at kw4;have K4:=Lib.hid kw4;clear kw4;clear hx1 hx2 r1 r2 hfr2 k3 b1 hX1 kw3 hX2 k34 HE1 HE2 HR2 HF HBV
      go_wp2_with fail
      refine HO.out.mono ?_;rintro e w5 ⟨rfl,k5⟩;have HE:=Lib.hid (K4.out.onto k5);clear k5
      go_wp2_with fail
      go_ret
      refine ⟨?_,HE.out⟩;rw [HB.out];by_cases hz:z=0 <;> simp [hz]
    · have hbv:bv=false:=by rw [HBV.out];unfold vtV;rw [r2];simp
      subst hbv;unfold tb at kw4;have K4:=Lib.hid kw4;clear kw4;clear hx1 r1 r2 hfr2 k3 b1 hX1 kw3 hX2 k34 HE1 HE2 HR2 HF HBV
      go_wp2_with fail
      go_ret
      exact ⟨rfl,K4.out⟩
  · have hbv:bv=false:=by rw [HBV.out];unfold vtV;rw [r1];simp
    subst hbv;unfold tb at kw4;have K4:=Lib.hid kw4;clear kw4;clear r1 hfr2 k3 b1 hX1 kw3 hX2 k34 HE1 HE2 HR2 HF HBV
    go_wp2_with fail
    go_ret
    exact ⟨rfl,K4.out⟩
end
end Go.Proofs.Ytjinmnekfhekpaa
