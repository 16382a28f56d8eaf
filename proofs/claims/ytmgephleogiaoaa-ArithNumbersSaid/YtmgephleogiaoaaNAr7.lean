/-
  Balls, plain; terms of a list of terms; atoms and compound terms. No condition.
-/
import Derived.Test.YtmgephleogiaoaaNAr6
import Derived.Test.YtmgephleogiaoaaNSx7
import Derived.Test.YtmgephleogiaoaaNSx2
import Derived.Test.YtmgephleogiaoaaNSx4
import Derived.Test.YtmgephleogiaoaaNMA
import Derived.Test.YtmgephleogiaoaaNMB
import Derived.Test.YtmgephleogiaoaaNMC
import Derived.Test.YtmgephleogiaoaaNMD
import Derived.Test.YtmgephleogiaoaaNME
import Derived.Test.YtmgephleogiaoaaNMF
import Derived.Test.YtmgephleogiaoaaNMG
import Derived.Test.YtmgephleogiaoaaNMH
import Derived.Test.YtmgephleogiaoaaNMI
import Derived.Maps.RangeWalk
import Derived.Test.YtmgephleogiaoaaNMK
import Derived.Test.YtmgephleogiaoaaNML
import Derived.Test.YtmgephleogiaoaaNMM
import Derived.Test.YtmgephleogiaoaaNMP
import Derived.Test.YtmgephleogiaoaaNMQ
namespace Go.Proofs.Ytmgephleogiaoaa
open Go.RowKit Go.Maps
set_option linter.unusedVariables false
set_option linter.unusedSimpArgs false
theorem comp_at {w:World} {b c:Nat} {nm:List UInt8} {ps:List TP} (hb:Blk w b 24 (ps.flatMap TP.cells).toArray) (hs:∀ p ∈ ps,TmAt w.heap.size w p.1 p.2.1 p.2.2) (hn:nm.length ≤ maxLen) (h8:ps.length ≤ 8) :
    TmAt w.heap.size w (.node 4 nm 0 (ps.map (·.1))) (some ⟨b,0,none⟩) c:=by
  refine .mk _ _ _ (fun j=>(ps.getD j (default,none,0)).2.1) (fun j=>(ps.getD j (default,none,0)).2.2) (by show (Lit.int .i64 4).wf=true;decide) (by show (Lit.int .i64 0).wf=true;decide) hn (by show (ps.map _).length ≤ maxLen;rw [List.length_map];unfold maxLen;omega) (fun j x hj=>?_) (fun j x hj=>?_)
  · change (ps.map (·.1))[j]? = some x at hj
    rw [List.getElem?_map] at hj
    obtain ⟨p,hp,rfl⟩:=Option.map_eq_some_iff.1 hj
    refine ⟨b,0,rfl,hb.lt,fun f v hv=>?_⟩
    have hp':ps.getD j (default,none,0)=p:=by rw [List.getD_eq_getElem?_getD,hp];rfl
    rw [hp'] at hv
    have hf:f < 4:=by
      have:=get_lt' hv
      exact this
    have h:=flat_get ps j f hf
    rw [hp] at h
    have h2:((ps.flatMap TP.cells).toArray)[j * 4 + f]? = some v:=by
      rw [List.getElem?_toArray,h];exact hv
    rw [Nat.zero_add,hb.cell]
    exact h2
  · change (ps.map (·.1))[j]? = some x at hj
    rw [List.getElem?_map] at hj
    obtain ⟨p,hp,rfl⟩:=Option.map_eq_some_iff.1 hj
    have hp':ps.getD j (default,none,0)=p:=by rw [List.getD_eq_getElem?_getD,hp];rfl
    show TmAt _ _ p.1 (ps.getD j (default,none,0)).2.1 (ps.getD j (default,none,0)).2.2
    rw [hp']
    exact hs p (List.mem_of_getElem? hp)
def aNil:Tm:=.node 3 [91,93] 0 []
def ballT (f:Tm):Tm:=.node 4 [101,114,114,111,114] 0 [f,aNil]
def zeroT:Tm:=.node 0 [] 0 []
def ballV (f:Tm):Tm:=if f.right=true then ballT f.tree.tm else zeroT
theorem bdOf_nil (x:Int):bdOf [] x=none:=rfl
theorem apV_nil {t:Tm} (h:t.right=true):apV t []=(t.tree.tm,0):=by
  have hR:=right_of.1 h
  have e:(fBd (bdOf []))=fApp (fun x=>.node 1 [] x []):=by
    funext u x
    rfl
  obtain ⟨h1,h2⟩:=cop_app (fun x=>.node 1 [] x []) t hR.1
  have h3:t.tree.sub (fun x=>(Tm.node 1 [] x []).tree)=t.tree:=by
    have:(fun x=>(Tm.node 1 [] x []).tree)=T.v:=by funext x;rw [Tm.tree];rfl
    rw [this,T.sub_id]
  rw [h3] at h1
  have hok:=(Tm.tree_right hR).1
  have h4:=h2 (fun x hx=>by
    have:=T.ok_has hok hx
    simp [Tm.ok,this])
  have hr2:(t.cop (fApp (fun x=>.node 1 [] x [])) ()).1.right=true:=by
    refine right_of.2 ?_
    obtain ⟨a1,a2,_,_⟩:=Tm.tree_ns h4
    obtain ⟨b1,b2,_,_⟩:=Tm.tree_ns hR.1
    rw [h1] at a1 a2
    exact ⟨h4,by rw [← a1,b1];exact hR.2.1,by rw [← a2,b2];exact hR.2.2⟩
  unfold apV
  rw [if_pos h,if_neg,e,if_pos hr2,h1]
  simp only [List.any_eq_true,not_exists,not_and]
  intro x _ hb
  simp [badB,bdOf_nil] at hb
theorem apV_wrong {t:Tm} (h:¬ t.right=true):apV t []=(zeroT,70):=by unfold apV;rw [if_neg h];rfl
set_option maxHeartbeats 1000000 in
theorem atom_any (w:World) (nm:List UInt8):Calls Try.prog 38 #[.string (str nm)] w fun e w'=>e=.returned (tv (.node 3 nm 0 []) none 0)∧Keep (fun g=>g < w.heap.size) w w':=by
  show Calls _ _ _ _ (fun e w'=>e=.returned (.agg #[.int .i64 3,.string (str nm),.int .i64 0,.slice none 0 0])∧_)
  generalize str nm=s
  go_enter Try.func38,Try.ntmps38
  go_wp2
  exact bodyPost_ret (v:=.agg #[.int .i64 3,.string s,.int .i64 0,.slice none 0 0]) (by simp [results,Try.results38,go_sem]) rfl ⟨rfl,(Keep.refl _ w).alloc _⟩
set_option maxHeartbeats 1000000 in
theorem compound_any (w:World) (nm:List UInt8) (ts:List Tm) (a:Option Addr) (c:Nat):Calls Try.prog 37 #[.string (str nm),.slice a ts.length c] w fun e w'=>e=.returned (tv (.node 4 nm 0 ts) a c)∧Keep (fun g=>g < w.heap.size) w w':=by
  show Calls _ _ _ _ (fun e w'=>e=.returned (.agg #[.int .i64 4,.string (str nm),.int .i64 0,.slice a ts.length c])∧_)
  generalize str nm=s
  generalize ts.length=n
  go_enter Try.func37,Try.ntmps37
  go_wp2
  exact bodyPost_ret (v:=.agg #[.int .i64 4,.string s,.int .i64 0,.slice a n c]) (by simp [results,Try.results37,go_sem]) rfl ⟨rfl,(Keep.refl _ w).alloc _⟩
end Go.Proofs.Ytmgephleogiaoaa
