/-
  Package ops: is a name's infix operator a postfix one, or the other way round? Why can't a name be this operator? No condition.
-/
import Derived.Test.YtbjnbfoedicelaaDoorOp3
import Derived.Deep.DeepCutAuto
namespace Go.Proofs.YtbjnbfoedicelaaDoor
open Go.RowKit Go.Maps
set_option linter.unusedVariables false
set_option linter.unusedSimpArgs false

theorem other_eq (T : Tab) (o : Opv) : other T o = ((find T o.nm false).isSome && (!isPre o.ty && (isPost o.ty != isPost ((find T o.nm false).getD zOp).ty))) := by
  unfold other
  cases find T o.nm false <;> simp
theorem isPre_q (t : Int) (w : World) : Calls Tryd.prog 41 #[.int .i64 t] w fun e w' => e = .returned (.bool (isPre t)) ∧ w' = w :=
  (isPre_any t w).mono fun _ _ hh => ⟨hh.1, hh.2.symm⟩
theorem isPost_q (t : Int) (w : World) : Calls Tryd.prog 51 #[.int .i64 t] w fun e w' => e = .returned (.bool (isPost t)) ∧ w' = w :=
  (isPost_any t w).mono fun _ _ hh => ⟨hh.1, hh.2.symm⟩
section
variable {w : World}
set_option maxHeartbeats 4000000 in
theorem isOther_any {pb mb : Nat} {T : Tab} {o : Opv} (h : TabAt w pb mb T) (hn : o.nm.length ≤ maxLen) :
    Calls Tryd.prog 40 #[.pointer (some ⟨pb, 0, none⟩), opVal o] w fun e w' => e = .returned (.bool (other T o)) ∧ Keep (fun _ => True) w w' := by
  have hlt := h.head.lt
  have HK := Lib.hid (Keep.refl (fun _ => True) w)
  rw [other_eq]
  have ha := fun W (hk : Keep (fun _ => True) w W) => after_any (h.keep hk trivial trivial) hn
  have hp := fun W => isPre_q o.ty W
  have hq := fun (t : Int) W => isPost_q t W
  unfold fndV opVal at ha
  generalize (find T o.nm false).getD zOp = x at ha ⊢
  generalize (find T o.nm false).isSome = b at ha ⊢
  unfold opVal
  generalize str x.nm = xs at ha ⊢
  generalize str o.nm = s at ha ⊢
  generalize o.pr = r
  generalize x.pr = xr at ha
  generalize hot : o.ty = ot at *
  generalize hxt : x.ty = xt at *
  generalize isPre ot = b1 at hp ⊢
  generalize hb2 : isPost ot = b2 at *
  generalize hb3 : isPost xt = b3 at *
  have hq2 := hq ot; rw [hb2] at hq2
  have hq3 := hq xt; rw [hb3] at hq3
  clear hq h hn hot hxt hb2 hb3
  have HA := Lib.hid ha; clear ha
  have HP := Lib.hid hp; clear hp
  have HQ2 := Lib.hid hq2; clear hq2
  have HQ3 := Lib.hid hq3; clear hq3
  cases b <;> cases b1
  all_goals
    go_enter Tryd.func40, Tryd.ntmps40
    go_wp2_with fail
    refine (HA.out _ (HK.out.alloc _)).mono ?_
    rintro e w1 ⟨rfl, k1⟩
    have c1 := ((Blk.new w 27 #[.string s, .int .i64 ot, .int .i64 r]).keep k1 trivial).cell 1
    simp at c1
    have hz : w.heap.size < w1.heap.size := by have := k1.size; simp at this; omega
    have K1 := Lib.hid (((HK.out.alloc (.cells #[.string s, .int .i64 ot, .int .i64 r] 27))).trans k1); clear k1
    go_wp2_with fail
    go_quiet ((first | (go_at_call 41; exact Calls.quiet_of_same (HP.out _)) | (go_at_call 51; with_reducible (exact Calls.quiet_of_same (HQ2.out _))) | (go_at_call 51; exact Calls.quiet_of_same (HQ3.out _))))
    go_wp2_with fail
    go_ret
    exact ⟨rfl, by repeat (first | with_reducible exact K1.out | with_reducible refine Keep.alloc ?_ _ | with_reducible refine Keep.drew ?_ | with_reducible refine Keep.drewN ?_ _)⟩
end
end Go.Proofs.YtbjnbfoedicelaaDoor
