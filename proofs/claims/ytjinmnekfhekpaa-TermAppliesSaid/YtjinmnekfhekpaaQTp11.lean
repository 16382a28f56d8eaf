/-
  Apply answers what the document's does; lists and their items. No condition.
-/
import Derived.Test.YtjinmnekfhekpaaQSx19
import Derived.Test.YtjinmnekfhekpaaQSx17
import Derived.Test.YtjinmnekfhekpaaQSx16
import Derived.Test.YtjinmnekfhekpaaQSx15
namespace Go.Proofs.Ytjinmnekfhekpaa
open Go.RowKit Go.Maps
set_option linter.unusedVariables false
set_option linter.unusedSimpArgs false
theorem bare_ns (t:Tm) (h4:¬ t.k=4):(bareV t).ns=1:=by
  unfold bareV;split
  · rw [Tm.ns_eq,if_neg (show ¬ (Tm.node t.k [] t.i []).k=4 from h4)]
  · rw [Tm.ns_eq,if_neg (show ¬ (Tm.node t.k t.nm 0 []).k=4 from h4)]
theorem gr_ns (bs:List BP):∀ t:Tm,t.ok=true→(∀ x p,t.tree.has x→bdOf bs x=some p→p.1.right=true)→grT (grL bs) t=(mapT (apL bs) t).ns:=by
  intro t;induction t using Tm.ind with
  | h k nm i args ih =>
    intro hok hb;obtain ⟨t,ht⟩:∃ t,t=Tm.node k nm i args:=⟨_,rfl⟩;have hta:t.args=args:=by rw [ht];rfl
    rw [← ht] at hok hb ⊢;rw [← hta] at ih;clear ht hta;by_cases h4:t.k=4
    · rw [grT_4 h4,mapT_4 h4,Tm.ns_eq,if_pos (show (Tm.node 4 t.nm 0 (t.args.map (mapT (apL bs)))).k=4 from rfl)];show 1 + grTL (grL bs) t.args=1 + nsL (t.args.map (mapT (apL bs)));have hb2:∀ x ∈ t.args,∀ y p,x.tree.has y→bdOf bs y=some p→p.1.right=true:=fun x hx y p hy=>hb y p (by rw [tree_4 h4];exact .c (List.mem_map.2 ⟨x,hx,rfl⟩) hy);have ho:=(Tm.ok_args hok h4).2.2.1;have go:∀ l:List Tm,(∀ x ∈ l,grT (grL bs) x=(mapT (apL bs) x).ns)→grTL (grL bs) l=nsL (l.map (mapT (apL bs))):=by
        intro l;induction l with
        | nil=>intro _;rw [grTL,List.map_nil,nsL_nil]
        | cons x l ih2 =>
          intro h;rw [grTL,List.map_cons,nsL_cons,h x List.mem_cons_self,ih2 fun y hy=>h y (List.mem_cons_of_mem _ hy)]
      rw [go _ fun x hx=>ih x hx (ho x hx) (hb2 x hx)]
    · rw [grT_n h4,mapT_n h4];unfold grL apL;by_cases h1:t.k=1
      · rw [if_pos h1,if_pos h1];have hx:t.tree.has t.i:=by rw [tree_1 h1];exact .v _
        have hb1:=hb t.i;unfold bdOf at hb1;cases hf:bs.find? (fun q=>q.1 == t.i) with
        | none=>exact (bare_ns t h4).symm
        | some q =>
          rw [hf] at hb1;have hr:=right_of.1 (hb1 q.2 hx rfl);show min q.2.1.ns 2001=(mapT cpL q.2.1).ns;rw [cp_tree9 _ hr.1,(q.2.1.tree.tm_ok).2.1,(Tm.tree_ns hr.1).1,Nat.min_eq_left (by have:=hr.2.1;omega)]
      · rw [if_neg h1,if_neg h1];exact (bare_ns t h4).symm
theorem ap_ra (t:Tm) (bs:List BP):apV t bs=raV t bs:=by
  unfold apV raV;by_cases hr:t.right=true
  · rw [if_pos hr,if_pos hr];by_cases hb:t.tree.vars.any (badB bs)=true
    · rw [if_pos hb,if_pos hb]
    · rw [if_neg hb,if_neg hb];have hR:=right_of.1 hr;have hbd:∀ x p,t.tree.has x→bdOf bs x=some p→p.1.right=true:=fun x p hx hp=>by
        have h:badB bs x=false:=by
          cases h:badB bs x with
          | false=>rfl
          | true=>exact absurd (List.any_eq_true.2 ⟨x,(T.mem_vars _ x).2 hx,h⟩) hb
        unfold badB at h;rw [hp] at h;simpa using h
      have hC:=cop_app (fun x=>match bdOf bs x with | some p=>p.1 | none=>.node 1 [] x []) t hR.1;have hM:=ap_sub bs t hR.1 fun x p hx hp=>(right_of.1 (hbd x p hx hp)).1;have hS:t.tree.sub (fun x=>(match bdOf bs x with | some p=>p.1 | none=>Tm.node 1 [] x []:Tm).tree)=t.tree.sub (bdT bs):=T.sub_same fun x hx=>by
        unfold bdT;cases bdOf bs x with
        | none=>exact tree_1 rfl
        | some p=>rfl
      rw [hS] at hC;have hok:(t.cop (fBd (bdOf bs)) ()).1.ok=true:=hC.2 fun x hx=>by
        cases h:bdOf bs x with
        | none =>
          show (Tm.node 1 [] x []).ok=true;rw [Tm.ok_eq,if_pos (show (Tm.node 1 [] x []).k=1 from rfl)];have h1:=T.ok_has (Tm.tree_right hR).1 hx;exact decide_eq_true h1
        | some p=>exact (right_of.1 (hbd x p hx h)).1
      have hct:(t.cop (fBd (bdOf bs)) ()).1.tree=t.tree.sub (bdT bs):=hC.1;have n1:=(Tm.tree_ns hok).1;have n2:=(Tm.tree_ns hok).2.1;rw [hct] at n1 n2;have m1:=((t.tree.sub (bdT bs)).tm_ok).2.1;have m2:=((t.tree.sub (bdT bs)).tm_ok).2.2;rw [gr_ns bs t hR.1 hbd,hM,m1,m2,hct];by_cases h1:2000 < (t.tree.sub (bdT bs)).ns
      · rw [if_pos h1,if_neg fun h=>by have:=(right_of.1 h).2.1;omega]
      · rw [if_neg h1];by_cases h2:100 < (t.tree.sub (bdT bs)).nd
        · rw [if_pos h2,if_neg fun h=>by have:=(right_of.1 h).2.2;omega]
        · rw [if_neg h2,if_pos (right_of.2 ⟨hok,by omega,by omega⟩)]
  · rw [if_neg hr,if_neg hr]
theorem ra_like {t x:Tm} {bs:List BP} {e:Int} (h:apV t bs=(x,e)):(x.k=0∧x.k=0)∨(x.right=true∧x.right=true∧x.tree=x.tree):=by
  by_cases he:e=0
  · subst he;exact .inr ⟨(ap_ok h).2.1,(ap_ok h).2.1,rfl⟩
  · left;have:x=.node 0 [] 0 []:=by
      unfold apV at h;split at h
      · split at h
        · exact (congrArg Prod.fst h).symm
        · split at h
          · exact absurd (congrArg Prod.snd h).symm he
          · exact (congrArg Prod.fst h).symm
      · exact (congrArg Prod.fst h).symm
    rw [this];exact ⟨rfl,rfl⟩
theorem ls_nd:∀ (ts:List Tm) (t:Tm),ts.length + 1 ≤ (lsT ts t).nd
  | [],t=>by show 0 + 1 ≤ t.nd;exact t.nd_pos
  | x::ts,t=>by
    have h:=ls_nd ts t;show ts.length + 1 + 1 ≤ (Tm.node 4 [46] 0 [x,lsT ts t]).nd;rw [Tm.nd_eq,if_pos (show (Tm.node 4 [46] 0 [x,lsT ts t]).k=4 from rfl)];show ts.length + 1 + 1 ≤ 1 + ndL [x,lsT ts t];rw [ndL_cons,ndL_cons];omega
theorem ls_bad {ts:List Tm} {t l:Tm} {e:Int} (h:lsV ts t=(l,e)) (hb:100 < ts.length∨(lsT ts t).right=false):e=70∧l.k=0:=by
  have:lsV ts t=(.node 0 [] 0 [],70):=by
    unfold lsV;split
    · rcases hb with hb | hb
      · omega
      · rw [if_neg (by rw [hb];decide)]
    · rfl
  rw [this] at h;cases h;exact ⟨rfl,rfl⟩
theorem ls_good {ts:List Tm} {t l:Tm} {e:Int} (h:lsV ts t=(l,e)) (hr:(lsT ts t).right=true):e=0∧l.right=true∧l.tree=(lsT ts t).tree:=by
  have hR:=right_of.1 hr;have hl:ts.length < 100:=by have h1:=ls_nd ts t;have:=hR.2.2;omega
  unfold lsV at h;rw [if_pos hl,if_pos hr] at h;cases h;exact ⟨rfl,right_of.2 ((lsT ts t).tree.tm_right.2 (Tm.tree_right hR)),(lsT ts t).tree.tm_tree⟩
theorem rn_wrong {t x:Tm} {m n e:Int} (h:rnV t m=(x,n,e)) (hr:t.right=false):e=70∧n=0∧x.k=0:=by
  unfold rnV at h;rw [if_neg (by rw [hr];decide)] at h;cases h;exact ⟨rfl,rfl,rfl⟩
theorem rn_out {t x:Tm} {m n e:Int} (h:rnV t m=(x,n,e)) (hr:t.right=true) (hm:m < 1∨4611686018427387904 < m):e=1∧n=0∧x.k=0:=by
  unfold rnV at h;rw [if_pos hr,if_neg (by omega)] at h;cases h;exact ⟨rfl,rfl,rfl⟩
theorem rn_in {t x:Tm} {m n e:Int} (h:rnV t m=(x,n,e)) (hr:t.right=true) (h1:1 ≤ m) (h2:m ≤ 4611686018427387904):e=0∧n=m + (t.tree.vars.length:Int)∧x=(t.tree.ren m).tm:=by
  rw [rnV_eq hr h1 h2] at h;cases h;exact ⟨rfl,rfl,rfl⟩
end Go.Proofs.Ytjinmnekfhekpaa
