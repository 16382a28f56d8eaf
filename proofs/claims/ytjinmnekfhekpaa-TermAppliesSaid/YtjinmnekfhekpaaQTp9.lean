/-
  What the document's apply and Rename make of a right term. No condition.
-/
import Derived.Test.YtjinmnekfhekpaaQSx13
import Derived.Test.YtjinmnekfhekpaaQTp6
namespace Go.Proofs.Ytjinmnekfhekpaa
open Go.RowKit Go.Maps
set_option linter.unusedVariables false
set_option linter.unusedSimpArgs false
theorem cp_tree9:∀ (t:Tm),t.ok=true→mapT cpL t=t.tree.tm:=by
  intro t;induction t using Tm.ind with
  | h k nm i args ih =>
    intro hok;obtain ⟨t,ht⟩:∃ t,t=Tm.node k nm i args:=⟨_,rfl⟩;have hta:t.args=args:=by rw [ht];rfl
    rw [← ht] at hok ⊢;rw [← hta] at ih;clear ht hta;rcases Tm.ok_kind hok with hk | hk | hk | hk
    · have hi:1 ≤ t.i:=by have h:=t.ok_eq;rw [hok,if_pos hk] at h;exact of_decide_eq_true h.symm
      rw [cp_b (by omega) (by omega),tree_1 hk];unfold bareV;rw [if_pos (by omega),hk];rw [T.tm]
    · rw [cp_b (by omega) (by omega),tree_2 hk];unfold bareV;rw [if_pos (by omega),hk];rw [T.tm]
    · rw [cp_b (by omega) (by omega),tree_3 hk];unfold bareV;rw [if_neg (by omega),hk];rw [T.tm]
    · rw [mapT_4 hk,tree_4 hk,T.tm_c,List.map_map]
      congr 1
      refine List.map_congr_left fun x hx=>?_;exact ih x hx ((Tm.ok_args hok hk).2.2.1 x hx)
theorem ap_sub (bs:List BP):∀ (t:Tm),t.ok=true→(∀ x p,t.tree.has x→bdOf bs x=some p→p.1.ok=true)→mapT (apL bs) t=(t.tree.sub (bdT bs)).tm:=by
  intro t;induction t using Tm.ind with
  | h k nm i args ih =>
    intro hok hb;obtain ⟨t,ht⟩:∃ t,t=Tm.node k nm i args:=⟨_,rfl⟩;have hta:t.args=args:=by rw [ht];rfl
    rw [← ht] at hok hb ⊢;rw [← hta] at ih;clear ht hta;rcases Tm.ok_kind hok with hk | hk | hk | hk
    · rw [tree_1 hk,T.sub_v,mapT_n (by omega)];rw [tree_1 hk] at hb;have hb1:=fun p=>hb t.i p (.v _);unfold apL bdT;rw [if_pos hk];unfold bdOf at hb1 ⊢;cases hf:bs.find? (fun q=>q.1 == t.i) with
      | none=>simp only [Option.map_none];unfold bareV;rw [if_pos (by omega),hk];rw [T.tm]
      | some q =>
        rw [hf] at hb1;simp only [Option.map_some];exact cp_tree9 _ (hb1 q.2 rfl)
    · rw [apL_no (by omega) (by omega),tree_2 hk,T.sub_n];unfold bareV;rw [if_pos (by omega),hk];rw [T.tm]
    · rw [apL_no (by omega) (by omega),tree_3 hk,T.sub_a];unfold bareV;rw [if_neg (by omega),hk];rw [T.tm]
    · rw [mapT_4 hk,tree_4 hk,T.sub_c,T.tm_c,List.map_map,List.map_map]
      congr 1
      refine List.map_congr_left fun x hx=>?_;refine ih x hx ((Tm.ok_args hok hk).2.2.1 x hx) fun y p hy=>hb y p ?_;rw [tree_4 hk];exact .c (List.mem_map.2 ⟨x,hx,rfl⟩) hy
def bdK (m:Int) (l:List Int) (n:Nat):List BP:=(List.range n).map fun k=>(l.getD k 0,.node 1 [] (m + (k:Int)) [],none,0)
theorem bdK_len (m:Int) (l:List Int) (n:Nat):(bdK m l n).length=n:=by simp [bdK]
theorem bdK_succ (m:Int) (l:List Int) (n:Nat):bdK m l (n + 1)=bdK m l n ++ [(l.getD n 0,.node 1 [] (m + (n:Int)) [],none,0)]:=by
  unfold bdK;rw [List.range_succ,List.map_append];rfl
theorem idx_spec:∀ (l:List Int) (x:Int),x ∈ l→idx l x < l.length∧l.getD (idx l x) 0=x∧∀ j,j < idx l x→l.getD j 0 ≠ x
  | [],x,h=>by cases h
  | z::l,x,h=>by
    unfold idx;by_cases e:z=x
    · rw [if_pos e];exact ⟨by simp,by simpa using e,fun j hj=>by omega⟩
    · rw [if_neg e];have hx:x ∈ l:=by rcases List.mem_cons.1 h with h | h;exact absurd h.symm e;exact h
      obtain ⟨h1,h2,h3⟩:=idx_spec l x hx;refine ⟨by simp;omega,(by show (z::l).getD (idx l x + 1) 0=x;simpa using h2),fun j hj=>?_⟩;cases j with
      | zero=>simpa using e
      | succ j=>have:=h3 j (by omega);simpa using this
theorem bdK_of (m:Int) (l:List Int) (x:Int) (hx:x ∈ l):bdOf (bdK m l l.length) x=some (.node 1 [] (m + (idx l x:Int)) [],none,0):=by
  obtain ⟨h1,h2,h3⟩:=idx_spec l x hx;unfold bdOf bdK;rw [List.find?_map];have hf:(List.range l.length).find? ((fun q:BP=>q.1 == x) ∘ fun k=>(l.getD k 0,.node 1 [] (m + (k:Int)) [],none,0))=some (idx l x):=by
    rw [List.find?_range_eq_some];refine ⟨?_,by simpa using h1,fun j hj=>?_⟩
    · simp only [Function.comp];rw [h2];simp
    · have:=h3 j hj;simp only [Function.comp];simpa using this
  rw [hf];rfl
theorem ren_apply {t:Tm} {m:Int} (hok:t.ok=true) (hm:1 ≤ m):mapT (apL (bdK m t.tree.vars t.tree.vars.length)) t=(t.tree.ren m).tm:=by
  rw [ap_sub _ t hok fun x p hx hp=>?_]
  · unfold T.ren
    congr 1
    refine T.sub_same fun x hx=>?_;have hv:=(T.mem_vars _ x).2 hx;unfold bdT;rw [bdK_of m _ x hv];show (Tm.node 1 [] (m + (idx t.tree.vars x:Int)) []).tree=_;exact tree_1 rfl
  · have hv:=(T.mem_vars _ x).2 hx;rw [bdK_of m _ x hv] at hp;cases hp;show (Tm.node 1 [] (m + (idx t.tree.vars x:Int)) []).ok=true;rw [Tm.ok_eq,if_pos (show (Tm.node 1 [] (m + (idx t.tree.vars x:Int)) []).k=1 from rfl)];exact decide_eq_true (by show (1:Int) ≤ m + (idx t.tree.vars x:Int);omega)
end Go.Proofs.Ytjinmnekfhekpaa
