/-
  What the law's worth answers of each operation, plain. No condition but that they are numbers of 64 bits.
-/
import Derived.Test.YtmgephleogiaoaaNAr15
namespace Go.Proofs.Ytmgephleogiaoaa
open Go.RowKit Go.Maps
set_option linter.unusedVariables false
set_option linter.unusedSimpArgs false
theorem wanted_un {ops:Array Oper} {o:Oper} {a:Act} {j d:Nat} {want:Bool} (hg:o.guard=some (j,want)) (hj:(ops[j]?).bind (·.dst)=some d) (h:a.tmps[d]? = some undef):Region.wanted o (yielded ops a.tmps)=false:=by
  unfold Region.wanted yielded
  rw [hg]
  simp only [hj,Option.bind_some,h]
  rfl
theorem res_big {z:Int}:resW (big z)=if inR z then .num z else .bal (ballV (flF fOver)):=by
  unfold resW
  by_cases h:inR z
  · rw [big_is rfl h,if_pos h];rfl
  · rw [big_not h,if_neg h];rfl
theorem res_k {z:Int} (h:(resW (big z)).k=true):inR z∧resW (big z)=.num z:=by
  rw [res_big] at *
  by_cases hz:inR z
  · rw [if_pos hz];exact ⟨hz,rfl⟩
  · rw [if_neg hz] at h;cases h
theorem res_no {z:Int} (h:(resW (big z)).k=false):¬ inR z:=fun hz=>by
  rw [res_big,if_pos hz] at h;cases h
theorem i64_l (n:Int):IntKind.i64.wrap n=wrap64 n:=by rw [IntKind.wrap_i64,wrap64]
end Go.Proofs.Ytmgephleogiaoaa
