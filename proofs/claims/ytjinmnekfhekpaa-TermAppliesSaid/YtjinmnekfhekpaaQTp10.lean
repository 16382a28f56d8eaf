/-
  Depths looked at, rows as slices, orders: what the law of tellings asks. No condition.
-/
import Derived.Test.YtjinmnekfhekpaaQSx14
import Derived.Test.YtjinmnekfhekpaaQSx10
namespace Go.Proofs.Ytjinmnekfhekpaa
open Go.RowKit Go.Maps
set_option linter.unusedVariables false
set_option linter.unusedSimpArgs false
theorem le_maxN:∀ (l:List Nat) (x:Nat),x ∈ l→x ≤ maxN l:=by
  have h:∀ (l:List Nat) (m x:Nat),(x ≤ m∨x ∈ l)→x ≤ l.foldl (fun d k=>if d < k then k else d) m:=by
    intro l;induction l with
    | nil=>intro m x h;simpa using h
    | cons y l ih =>
      intro m x h;rw [List.foldl_cons];refine ih _ x ?_;rcases h with h | h
      · left;split <;> omega
      · rcases List.mem_cons.1 h with rfl | h
        · left;split <;> omega
        · exact .inr h
  intro l x hx;exact h l 0 x (.inr hx)
section
variable {w V:World} {t u:Tm} {a b:Option Addr} {c d:Nat}
theorem refdepth_sx {m:Nat} {z mi:Int} (hT:TmAt w.heap.size w t a c) (hm:m ≤ 1000) (hmi:(m:Int)=mi) (hz:(rd m t:Int)=z) :
    Calls Try.prog 53 #[tv t a c,.int .i64 mi] w fun e w'=>e=.returned (.int .i64 z)∧Keep (fun g=>g < w.heap.size) w w':=by
  subst hmi;subst hz;exact refDepth_any m hm t w a c hT
end
end Go.Proofs.Ytjinmnekfhekpaa
