/-
  An operator's sides: package ops and the document's own; the document's Prefix. No condition.
-/
import Derived.Test.YtbjnbfoedicelaaDoorOp3
namespace Go.Proofs.YtbjnbfoedicelaaDoor
open Go.RowKit Go.Maps
set_option linter.unusedVariables false
set_option linter.unusedSimpArgs false

def sidesV (t p : Int) : Int × Int :=
  if p < 1 ∨ 1200 < p then (-1, -1)
  else if t = 1 then (p - 1, p - 1) else if t = 2 then (p - 1, p) else if t = 3 then (p, p - 1) else if t = 4 then (-1, p)
  else if t = 5 then (-1, p - 1) else if t = 6 then (p - 1, -1) else if t = 7 then (p, -1) else (-1, -1)
theorem sides_le {t p : Int} (h : 0 ≤ p) : (sidesV t p).1 ≤ p ∧ (sidesV t p).2 ≤ p := by
  unfold sidesV
  repeat' split
  all_goals (constructor <;> simp <;> omega)
theorem refPrefix_any (t : Int) (w : World) : Calls Tryd.prog 17 #[.int .i64 t] w fun e w' => e = .returned (.bool (isPre t)) ∧ w = w' := by
  unfold isPre
  generalize hb : (t == 4) = b at *
  generalize hc : (t == 5) = c at *
  cases b
  all_goals
    go_enter Tryd.func17, Tryd.ntmps17
    go_wp2
    go_ret
    exact ⟨rfl, rfl⟩
section
variable {w : World}
set_option maxRecDepth 100000 in
set_option maxHeartbeats 4000000 in
theorem sides_any (o : Opv) (w : World) (hp : (Lit.int .i64 o.pr).wf = true) : Calls Tryd.prog 13 #[opVal o] w fun e w' => e = .returned (.tuple #[.int .i64 (sidesV o.ty o.pr).1, .int .i64 (sidesV o.ty o.pr).2]) ∧ Keep (fun _ => True) w w' := by
  have HK := Lib.hid (Keep.refl (fun _ => True) w)
  clear hp
  unfold opVal
  generalize o.ty = t
  generalize o.pr = p
  generalize str o.nm = s
  by_cases h1 : p < 1
  · have hv : Ending.returned (.tuple #[.int .i64 (-1), .int .i64 (-1)]) = Ending.returned (.tuple #[.int .i64 (sidesV t p).1, .int .i64 (sidesV t p).2]) := by unfold sidesV; rw [if_pos (by omega)]
    have HV := Lib.hid hv; clear hv
    generalize sidesV t p = v at *
    go_enter Tryd.func13, Tryd.ntmps13
    go_wp2_with fail
    exact bodyPost_ret (v := .tuple #[.int .i64 (-1), .int .i64 (-1)]) (by simp [results, Tryd.results13, go_sem]) rfl ⟨HV.out, by repeat (first | with_reducible exact HK.out | with_reducible refine Keep.alloc ?_ _ | with_reducible refine Keep.drew ?_ | with_reducible refine Keep.drewN ?_ _)⟩
  by_cases h2 : 1200 < p
  · have hv : Ending.returned (.tuple #[.int .i64 (-1), .int .i64 (-1)]) = Ending.returned (.tuple #[.int .i64 (sidesV t p).1, .int .i64 (sidesV t p).2]) := by unfold sidesV; rw [if_pos (by omega)]
    have HV := Lib.hid hv; clear hv
    generalize sidesV t p = v at *
    go_enter Tryd.func13, Tryd.ntmps13
    go_wp2_with fail
    exact bodyPost_ret (v := .tuple #[.int .i64 (-1), .int .i64 (-1)]) (by simp [results, Tryd.results13, go_sem]) rfl ⟨HV.out, by repeat (first | with_reducible exact HK.out | with_reducible refine Keep.alloc ?_ _ | with_reducible refine Keep.drew ?_ | with_reducible refine Keep.drewN ?_ _)⟩
  have g1 : 1 ≤ p := by omega
  have g2 : p ≤ 1200 := by omega
  have d1 : decide (p < 1) = false := by simpa using h1
  have d2 : decide (1200 < p) = false := by simpa using h2
  have g0 : 0 ≤ p - 1 := by omega
  by_cases e1 : t = 1
  · subst e1
    have hv : Ending.returned (.tuple #[.int .i64 (p - 1), .int .i64 (p - 1)]) = Ending.returned (.tuple #[.int .i64 (sidesV 1 p).1, .int .i64 (sidesV 1 p).2]) := by unfold sidesV; rw [if_neg (by omega)]; rfl
    have HV := Lib.hid hv; clear hv
    generalize sidesV 1 p = v at *
    clear h1 h2
    go_enter Tryd.func13, Tryd.ntmps13
    go_wp2_with fail
    go_quiet (fail)
    go_wp2_with fail
    exact bodyPost_ret (v := .tuple #[.int .i64 (p - 1), .int .i64 (p - 1)]) (by simp [results, Tryd.results13, go_sem]) rfl ⟨HV.out, by repeat (first | with_reducible exact HK.out | with_reducible refine Keep.alloc ?_ _ | with_reducible refine Keep.drew ?_ | with_reducible refine Keep.drewN ?_ _)⟩
  by_cases e2 : t = 2
  · subst e2
    have hv : Ending.returned (.tuple #[.int .i64 (p - 1), .int .i64 p]) = Ending.returned (.tuple #[.int .i64 (sidesV 2 p).1, .int .i64 (sidesV 2 p).2]) := by unfold sidesV; rw [if_neg (by omega)]; rfl
    have HV := Lib.hid hv; clear hv
    generalize sidesV 2 p = v at *
    clear h1 h2 e1
    go_enter Tryd.func13, Tryd.ntmps13
    go_wp2_with fail
    go_quiet (fail)
    go_wp2_with fail
    exact bodyPost_ret (v := .tuple #[.int .i64 (p - 1), .int .i64 p]) (by simp [results, Tryd.results13, go_sem]) rfl ⟨HV.out, by repeat (first | with_reducible exact HK.out | with_reducible refine Keep.alloc ?_ _ | with_reducible refine Keep.drew ?_ | with_reducible refine Keep.drewN ?_ _)⟩
  by_cases e3 : t = 3
  · subst e3
    have hv : Ending.returned (.tuple #[.int .i64 p, .int .i64 (p - 1)]) = Ending.returned (.tuple #[.int .i64 (sidesV 3 p).1, .int .i64 (sidesV 3 p).2]) := by unfold sidesV; rw [if_neg (by omega)]; rfl
    have HV := Lib.hid hv; clear hv
    generalize sidesV 3 p = v at *
    clear h1 h2 e1 e2
    go_enter Tryd.func13, Tryd.ntmps13
    go_wp2_with fail
    go_quiet (fail)
    go_wp2_with fail
    exact bodyPost_ret (v := .tuple #[.int .i64 p, .int .i64 (p - 1)]) (by simp [results, Tryd.results13, go_sem]) rfl ⟨HV.out, by repeat (first | with_reducible exact HK.out | with_reducible refine Keep.alloc ?_ _ | with_reducible refine Keep.drew ?_ | with_reducible refine Keep.drewN ?_ _)⟩
  by_cases e4 : t = 4
  · subst e4
    have hv : Ending.returned (.tuple #[.int .i64 (-1), .int .i64 p]) = Ending.returned (.tuple #[.int .i64 (sidesV 4 p).1, .int .i64 (sidesV 4 p).2]) := by unfold sidesV; rw [if_neg (by omega)]; rfl
    have HV := Lib.hid hv; clear hv
    generalize sidesV 4 p = v at *
    clear h1 h2 e1 e2 e3
    go_enter Tryd.func13, Tryd.ntmps13
    go_wp2_with fail
    go_quiet (fail)
    go_wp2_with fail
    exact bodyPost_ret (v := .tuple #[.int .i64 (-1), .int .i64 p]) (by simp [results, Tryd.results13, go_sem]) rfl ⟨HV.out, by repeat (first | with_reducible exact HK.out | with_reducible refine Keep.alloc ?_ _ | with_reducible refine Keep.drew ?_ | with_reducible refine Keep.drewN ?_ _)⟩
  by_cases e5 : t = 5
  · subst e5
    have hv : Ending.returned (.tuple #[.int .i64 (-1), .int .i64 (p - 1)]) = Ending.returned (.tuple #[.int .i64 (sidesV 5 p).1, .int .i64 (sidesV 5 p).2]) := by unfold sidesV; rw [if_neg (by omega)]; rfl
    have HV := Lib.hid hv; clear hv
    generalize sidesV 5 p = v at *
    clear h1 h2 e1 e2 e3 e4
    go_enter Tryd.func13, Tryd.ntmps13
    go_wp2_with fail
    go_quiet (fail)
    go_wp2_with fail
    exact bodyPost_ret (v := .tuple #[.int .i64 (-1), .int .i64 (p - 1)]) (by simp [results, Tryd.results13, go_sem]) rfl ⟨HV.out, by repeat (first | with_reducible exact HK.out | with_reducible refine Keep.alloc ?_ _ | with_reducible refine Keep.drew ?_ | with_reducible refine Keep.drewN ?_ _)⟩
  by_cases e6 : t = 6
  · subst e6
    have hv : Ending.returned (.tuple #[.int .i64 (p - 1), .int .i64 (-1)]) = Ending.returned (.tuple #[.int .i64 (sidesV 6 p).1, .int .i64 (sidesV 6 p).2]) := by unfold sidesV; rw [if_neg (by omega)]; rfl
    have HV := Lib.hid hv; clear hv
    generalize sidesV 6 p = v at *
    clear h1 h2 e1 e2 e3 e4 e5
    go_enter Tryd.func13, Tryd.ntmps13
    go_wp2_with fail
    go_quiet (fail)
    go_wp2_with fail
    exact bodyPost_ret (v := .tuple #[.int .i64 (p - 1), .int .i64 (-1)]) (by simp [results, Tryd.results13, go_sem]) rfl ⟨HV.out, by repeat (first | with_reducible exact HK.out | with_reducible refine Keep.alloc ?_ _ | with_reducible refine Keep.drew ?_ | with_reducible refine Keep.drewN ?_ _)⟩
  by_cases e7 : t = 7
  · subst e7
    have hv : Ending.returned (.tuple #[.int .i64 p, .int .i64 (-1)]) = Ending.returned (.tuple #[.int .i64 (sidesV 7 p).1, .int .i64 (sidesV 7 p).2]) := by unfold sidesV; rw [if_neg (by omega)]; rfl
    have HV := Lib.hid hv; clear hv
    generalize sidesV 7 p = v at *
    clear h1 h2 e1 e2 e3 e4 e5 e6
    go_enter Tryd.func13, Tryd.ntmps13
    go_wp2_with fail
    go_quiet (fail)
    go_wp2_with fail
    exact bodyPost_ret (v := .tuple #[.int .i64 p, .int .i64 (-1)]) (by simp [results, Tryd.results13, go_sem]) rfl ⟨HV.out, by repeat (first | with_reducible exact HK.out | with_reducible refine Keep.alloc ?_ _ | with_reducible refine Keep.drew ?_ | with_reducible refine Keep.drewN ?_ _)⟩
  · have hv : Ending.returned (.tuple #[.int .i64 (-1), .int .i64 (-1)]) = Ending.returned (.tuple #[.int .i64 (sidesV t p).1, .int .i64 (sidesV t p).2]) := by unfold sidesV; rw [if_neg (by omega), if_neg e1, if_neg e2, if_neg e3, if_neg e4, if_neg e5, if_neg e6, if_neg e7]
    have q1 : (t == 1) = false := by simpa using e1
    have q2 : (t == 2) = false := by simpa using e2
    have q3 : (t == 3) = false := by simpa using e3
    have q4 : (t == 4) = false := by simpa using e4
    have q5 : (t == 5) = false := by simpa using e5
    have q6 : (t == 6) = false := by simpa using e6
    have q7 : (t == 7) = false := by simpa using e7
    have HV := Lib.hid hv; clear hv
    generalize sidesV t p = v at *
    clear h1 h2 e1 e2 e3 e4 e5 e6 e7
    go_enter Tryd.func13, Tryd.ntmps13
    go_wp2_with fail
    go_quiet (fail)
    go_wp2_with fail
    exact bodyPost_ret (v := .tuple #[.int .i64 (-1), .int .i64 (-1)]) (by simp [results, Tryd.results13, go_sem]) rfl ⟨HV.out, by repeat (first | with_reducible exact HK.out | with_reducible refine Keep.alloc ?_ _ | with_reducible refine Keep.drew ?_ | with_reducible refine Keep.drewN ?_ _)⟩
set_option maxRecDepth 100000 in
set_option maxHeartbeats 4000000 in
theorem refSides_any (o : Opv) (w : World) (hp : (Lit.int .i64 o.pr).wf = true) : Calls Tryd.prog 14 #[opVal o] w fun e w' => e = .returned (.tuple #[.int .i64 (sidesV o.ty o.pr).1, .int .i64 (sidesV o.ty o.pr).2]) ∧ Keep (fun _ => True) w w' := by
  have HK := Lib.hid (Keep.refl (fun _ => True) w)
  clear hp
  unfold opVal
  generalize o.ty = t
  generalize o.pr = p
  generalize str o.nm = s
  by_cases h1 : p < 1
  · have hv : Ending.returned (.tuple #[.int .i64 (-1), .int .i64 (-1)]) = Ending.returned (.tuple #[.int .i64 (sidesV t p).1, .int .i64 (sidesV t p).2]) := by unfold sidesV; rw [if_pos (by omega)]
    have HV := Lib.hid hv; clear hv
    generalize sidesV t p = v at *
    go_enter Tryd.func14, Tryd.ntmps14
    go_wp2_with fail
    exact bodyPost_ret (v := .tuple #[.int .i64 (-1), .int .i64 (-1)]) (by simp [results, Tryd.results14, go_sem]) rfl ⟨HV.out, by repeat (first | with_reducible exact HK.out | with_reducible refine Keep.alloc ?_ _ | with_reducible refine Keep.drew ?_ | with_reducible refine Keep.drewN ?_ _)⟩
  by_cases h2 : 1200 < p
  · have hv : Ending.returned (.tuple #[.int .i64 (-1), .int .i64 (-1)]) = Ending.returned (.tuple #[.int .i64 (sidesV t p).1, .int .i64 (sidesV t p).2]) := by unfold sidesV; rw [if_pos (by omega)]
    have HV := Lib.hid hv; clear hv
    generalize sidesV t p = v at *
    go_enter Tryd.func14, Tryd.ntmps14
    go_wp2_with fail
    exact bodyPost_ret (v := .tuple #[.int .i64 (-1), .int .i64 (-1)]) (by simp [results, Tryd.results14, go_sem]) rfl ⟨HV.out, by repeat (first | with_reducible exact HK.out | with_reducible refine Keep.alloc ?_ _ | with_reducible refine Keep.drew ?_ | with_reducible refine Keep.drewN ?_ _)⟩
  have g1 : 1 ≤ p := by omega
  have g2 : p ≤ 1200 := by omega
  have d1 : decide (p < 1) = false := by simpa using h1
  have d2 : decide (1200 < p) = false := by simpa using h2
  have g0 : 0 ≤ p - 1 := by omega
  by_cases e1 : t = 1
  · subst e1
    have hv : Ending.returned (.tuple #[.int .i64 (p - 1), .int .i64 (p - 1)]) = Ending.returned (.tuple #[.int .i64 (sidesV 1 p).1, .int .i64 (sidesV 1 p).2]) := by unfold sidesV; rw [if_neg (by omega)]; rfl
    have HV := Lib.hid hv; clear hv
    generalize sidesV 1 p = v at *
    clear h1 h2
    go_enter Tryd.func14, Tryd.ntmps14
    go_wp2_with fail
    exact bodyPost_ret (v := .tuple #[.int .i64 (p - 1), .int .i64 (p - 1)]) (by simp [results, Tryd.results14, go_sem]) rfl ⟨HV.out, by repeat (first | with_reducible exact HK.out | with_reducible refine Keep.alloc ?_ _ | with_reducible refine Keep.drew ?_ | with_reducible refine Keep.drewN ?_ _)⟩
  by_cases e2 : t = 2
  · subst e2
    have hv : Ending.returned (.tuple #[.int .i64 (p - 1), .int .i64 p]) = Ending.returned (.tuple #[.int .i64 (sidesV 2 p).1, .int .i64 (sidesV 2 p).2]) := by unfold sidesV; rw [if_neg (by omega)]; rfl
    have HV := Lib.hid hv; clear hv
    generalize sidesV 2 p = v at *
    clear h1 h2 e1
    go_enter Tryd.func14, Tryd.ntmps14
    go_wp2_with fail
    exact bodyPost_ret (v := .tuple #[.int .i64 (p - 1), .int .i64 p]) (by simp [results, Tryd.results14, go_sem]) rfl ⟨HV.out, by repeat (first | with_reducible exact HK.out | with_reducible refine Keep.alloc ?_ _ | with_reducible refine Keep.drew ?_ | with_reducible refine Keep.drewN ?_ _)⟩
  by_cases e3 : t = 3
  · subst e3
    have hv : Ending.returned (.tuple #[.int .i64 p, .int .i64 (p - 1)]) = Ending.returned (.tuple #[.int .i64 (sidesV 3 p).1, .int .i64 (sidesV 3 p).2]) := by unfold sidesV; rw [if_neg (by omega)]; rfl
    have HV := Lib.hid hv; clear hv
    generalize sidesV 3 p = v at *
    clear h1 h2 e1 e2
    go_enter Tryd.func14, Tryd.ntmps14
    go_wp2_with fail
    exact bodyPost_ret (v := .tuple #[.int .i64 p, .int .i64 (p - 1)]) (by simp [results, Tryd.results14, go_sem]) rfl ⟨HV.out, by repeat (first | with_reducible exact HK.out | with_reducible refine Keep.alloc ?_ _ | with_reducible refine Keep.drew ?_ | with_reducible refine Keep.drewN ?_ _)⟩
  by_cases e4 : t = 4
  · subst e4
    have hv : Ending.returned (.tuple #[.int .i64 (-1), .int .i64 p]) = Ending.returned (.tuple #[.int .i64 (sidesV 4 p).1, .int .i64 (sidesV 4 p).2]) := by unfold sidesV; rw [if_neg (by omega)]; rfl
    have HV := Lib.hid hv; clear hv
    generalize sidesV 4 p = v at *
    clear h1 h2 e1 e2 e3
    go_enter Tryd.func14, Tryd.ntmps14
    go_wp2_with fail
    exact bodyPost_ret (v := .tuple #[.int .i64 (-1), .int .i64 p]) (by simp [results, Tryd.results14, go_sem]) rfl ⟨HV.out, by repeat (first | with_reducible exact HK.out | with_reducible refine Keep.alloc ?_ _ | with_reducible refine Keep.drew ?_ | with_reducible refine Keep.drewN ?_ _)⟩
  by_cases e5 : t = 5
  · subst e5
    have hv : Ending.returned (.tuple #[.int .i64 (-1), .int .i64 (p - 1)]) = Ending.returned (.tuple #[.int .i64 (sidesV 5 p).1, .int .i64 (sidesV 5 p).2]) := by unfold sidesV; rw [if_neg (by omega)]; rfl
    have HV := Lib.hid hv; clear hv
    generalize sidesV 5 p = v at *
    clear h1 h2 e1 e2 e3 e4
    go_enter Tryd.func14, Tryd.ntmps14
    go_wp2_with fail
    exact bodyPost_ret (v := .tuple #[.int .i64 (-1), .int .i64 (p - 1)]) (by simp [results, Tryd.results14, go_sem]) rfl ⟨HV.out, by repeat (first | with_reducible exact HK.out | with_reducible refine Keep.alloc ?_ _ | with_reducible refine Keep.drew ?_ | with_reducible refine Keep.drewN ?_ _)⟩
  by_cases e6 : t = 6
  · subst e6
    have hv : Ending.returned (.tuple #[.int .i64 (p - 1), .int .i64 (-1)]) = Ending.returned (.tuple #[.int .i64 (sidesV 6 p).1, .int .i64 (sidesV 6 p).2]) := by unfold sidesV; rw [if_neg (by omega)]; rfl
    have HV := Lib.hid hv; clear hv
    generalize sidesV 6 p = v at *
    clear h1 h2 e1 e2 e3 e4 e5
    go_enter Tryd.func14, Tryd.ntmps14
    go_wp2_with fail
    exact bodyPost_ret (v := .tuple #[.int .i64 (p - 1), .int .i64 (-1)]) (by simp [results, Tryd.results14, go_sem]) rfl ⟨HV.out, by repeat (first | with_reducible exact HK.out | with_reducible refine Keep.alloc ?_ _ | with_reducible refine Keep.drew ?_ | with_reducible refine Keep.drewN ?_ _)⟩
  by_cases e7 : t = 7
  · subst e7
    have hv : Ending.returned (.tuple #[.int .i64 p, .int .i64 (-1)]) = Ending.returned (.tuple #[.int .i64 (sidesV 7 p).1, .int .i64 (sidesV 7 p).2]) := by unfold sidesV; rw [if_neg (by omega)]; rfl
    have HV := Lib.hid hv; clear hv
    generalize sidesV 7 p = v at *
    clear h1 h2 e1 e2 e3 e4 e5 e6
    go_enter Tryd.func14, Tryd.ntmps14
    go_wp2_with fail
    exact bodyPost_ret (v := .tuple #[.int .i64 p, .int .i64 (-1)]) (by simp [results, Tryd.results14, go_sem]) rfl ⟨HV.out, by repeat (first | with_reducible exact HK.out | with_reducible refine Keep.alloc ?_ _ | with_reducible refine Keep.drew ?_ | with_reducible refine Keep.drewN ?_ _)⟩
  · have hv : Ending.returned (.tuple #[.int .i64 (-1), .int .i64 (-1)]) = Ending.returned (.tuple #[.int .i64 (sidesV t p).1, .int .i64 (sidesV t p).2]) := by unfold sidesV; rw [if_neg (by omega), if_neg e1, if_neg e2, if_neg e3, if_neg e4, if_neg e5, if_neg e6, if_neg e7]
    have q1 : (t == 1) = false := by simpa using e1
    have q2 : (t == 2) = false := by simpa using e2
    have q3 : (t == 3) = false := by simpa using e3
    have q4 : (t == 4) = false := by simpa using e4
    have q5 : (t == 5) = false := by simpa using e5
    have q6 : (t == 6) = false := by simpa using e6
    have q7 : (t == 7) = false := by simpa using e7
    have HV := Lib.hid hv; clear hv
    generalize sidesV t p = v at *
    clear h1 h2 e1 e2 e3 e4 e5 e6 e7
    go_enter Tryd.func14, Tryd.ntmps14
    go_wp2_with fail
    exact bodyPost_ret (v := .tuple #[.int .i64 (-1), .int .i64 (-1)]) (by simp [results, Tryd.results14, go_sem]) rfl ⟨HV.out, by repeat (first | with_reducible exact HK.out | with_reducible refine Keep.alloc ?_ _ | with_reducible refine Keep.drew ?_ | with_reducible refine Keep.drewN ?_ _)⟩
end
end Go.Proofs.YtbjnbfoedicelaaDoor
