/-
  Whatever bindings make two terms the same are the solution's, further bound. No condition.
-/
import Derived.Test.YtjinmnekfhekpaaQTp2
namespace Go.Proofs.Ytjinmnekfhekpaa
set_option linter.unusedVariables false
def bdT (bs:List BP):Int→T:=fun y=>match bdOf bs y with | some p=>p.1.tree | none=>.v y
theorem ap_ok {t x:Tm} {bs:List BP} (h:apV t bs=(x,0)):t.right=true∧x.right=true∧x.tree=t.tree.sub (bdT bs):=by
  unfold apV at h;by_cases ht:t.right=true
  · rw [if_pos ht] at h;by_cases hb:t.tree.vars.any (badB bs)=true
    · rw [if_pos hb] at h;have:=(Prod.mk.inj h).2;exact absurd this (by decide)
    · rw [if_neg hb] at h;have hR:=right_of.1 ht;have hc:=cop_app (fun z=>match bdOf bs z with | some q=>q.1 | none=>.node 1 [] z []) t hR.1;have he:fBd (bdOf bs)=fApp (fun z=>match bdOf bs z with | some q=>q.1 | none=>.node 1 [] z []):=by
        funext s z;unfold fBd fApp;cases hz:bdOf bs z <;> simp [hz]
      have hsub:(fun z=>(match bdOf bs z with | some q=>q.1 | none=>Tm.node 1 [] z []).tree)=bdT bs:=by
        funext z;unfold bdT;cases hz:bdOf bs z with
        | none=>exact tree_1 rfl
        | some q=>rfl
      by_cases hr:(t.cop (fBd (bdOf bs)) ()).1.right=true
      · rw [if_pos hr] at h;obtain ⟨rfl,_⟩:=Prod.mk.inj h;refine ⟨ht,right_of.2 ((T.tm_right _).2 (Tm.tree_right (right_of.1 hr))),?_⟩;rw [T.tm_tree,he,hc.1,hsub]
      · rw [if_neg hr] at h;have:=(Prod.mk.inj h).2;exact absurd this (by decide)
  · rw [if_neg ht] at h;have:=(Prod.mk.inj h).2;exact absurd this (by decide)
end Go.Proofs.Ytjinmnekfhekpaa
