/-
  The law ArithPlays, walked. No condition but where its term lies.
-/
import Derived.Test.YtmgephleogiaoaaNAr25
namespace Go.Proofs.Ytmgephleogiaoaa
open Go.RowKit Go.Maps
set_option linter.unusedVariables false
set_option linter.unusedSimpArgs false
theorem eval_gen' {W:World} {t:Tm} {a:Option Addr} {c:Nat} (hT:TmAt W.heap.size W t a c):Calls Try.prog 10 #[tv t a c] W fun e w'=>∃ a' c',e=.returned (.tuple #[.int .i64 (evW t).v,tv (evW t).b a' c',.bool (evW t).k])∧Own W.heap.size w' (evW t).b a' c'∧Keep (fun g=>g < W.heap.size) W w':=by
  refine Calls.mono (Eval_any hT) ?_
  rintro e w' ⟨a',c',rfl,h2,-,h3⟩
  exact ⟨a',c',rfl,h2,h3⟩
theorem likeP_self {b:Tm} (h:b.k=0∨b.ok=true):LikeP b b:=by
  rcases h with h | h
  · exact .inl ⟨h,h⟩
  · exact .inr ⟨h,h,rfl⟩
theorem ballV_P' (t:Tm):(ballV t).k=0∨(ballV t).ok=true:=by
  unfold ballV
  by_cases h:t.right=true
  · rw [if_pos h]
    exact .inr (ball_ok ((t.tree.tm_right).2 (Tm.tree_right (right_of.1 h))).1)
  · rw [if_neg h];exact .inl rfl
theorem resW_P' (r:Rs):(resW r).b.k=0∨(resW r).b.ok=true:=by
  unfold resW
  by_cases h:r.2=[]
  · rw [if_pos h];exact .inl rfl
  · rw [if_neg h];exact ballV_P' _
theorem woL_of (nm:List UInt8) (ts:List Tm) (ih:∀ t ∈ ts,(wo t).b.k=0∨(wo t).b.ok=true):∀ xs:List Int,(woL nm ts xs).b.k=0∨(woL nm ts xs).b.ok=true:=by
  induction ts with
  | nil=>intro xs;rw [woL];exact resW_P' _
  | cons t ts ih2 =>
    intro xs
    rw [woL]
    have h:=ih t List.mem_cons_self
    cases hw:wo t with
    | num v=>exact ih2 (fun u hu=>ih u (List.mem_cons_of_mem _ hu)) (xs ++ [v])
    | bal b=>rw [hw] at h;exact h
theorem wo_P' (t:Tm):(wo t).b.k=0∨(wo t).b.ok=true:=by
  induction t using Tm.ind with
  | h k nm i args ih =>
    rw [wo]
    by_cases h:k=2
    · rw [if_pos h];exact .inl rfl
    rw [if_neg h]
    by_cases h:k=1
    · rw [if_pos h];exact ballV_P' _
    rw [if_neg h]
    by_cases h:k=3
    · rw [if_pos h];exact ballV_P' _
    rw [if_neg h]
    by_cases h:isFn nm args.length=true
    · rw [if_pos h];exact woL_of nm args ih []
    · rw [if_neg h];exact ballV_P' _
end Go.Proofs.Ytmgephleogiaoaa
