/-
  OpsSides: the law's walk. No condition but what the two package-level variables hold.
-/
import Derived.Test.YtjfejgacafapaaaDoorOp18
namespace Go.Proofs.YtjfejgacafapaaaDoor
open Go.RowKit Go.Shelf Go.Maps
set_option linter.unusedVariables false
set_option linter.unusedSimpArgs false

set_option maxRecDepth 100000 in
set_option maxHeartbeats 8000000 in
theorem sidesLaw_any (o : Opv) (w : World) (hv : VarsOk w) (hp : (Lit.int .i64 o.pr).wf = true) : Calls Tryd.prog 4 #[opVal o] w fun e w' => e = .returned (.bool true) ∧ Below w.heap.size w w' := by
  have HB := Lib.hid (Keep.refl (fun _ => True) w)
  have HA := Lib.hid fun l => (alive_any (w.alloc (.cells #[.string (str o.nm), .int .i64 o.ty, .int .i64 o.pr] l)) (hv.keep (HB.out.alloc _) trivial trivial))
  clear hv
  go_enter Tryd.func4, Tryd.ntmps4
  simp only [opVal]
  have HO := Lib.hid (Blk.new w 27 #[.string (str o.nm), .int .i64 o.ty, .int .i64 o.pr])
  go_wp2_with (go_at_call 8; refine (HA.out _).mono ?_; rintro e w1 ⟨rfl, hb⟩; have HB1 := Lib.hid hb; clear hb; have HO1 := Lib.hid ((HO.out).below HB1.out (by simp)); have o0 := HO1.out.cell 0; have o1 := HO1.out.cell 1; have o2 := HO1.out.cell 2; simp at o0 o1 o2)
  clear o0 o1 o2
  have hl : w.heap.size < w1.heap.size := HO1.out.lt
  refine (sides_any o w1 hp).mono ?_
  rintro e w2 ⟨rfl, hk2⟩
  have HO2 := Lib.hid (HO1.out.keep hk2 trivial)
  have HB2 := Lib.hid (HB1.out.trans (hk2.toBelow (fun _ _ => trivial) HB1.out.size))
  have o0 := HO2.out.cell 0
  have o1 := HO2.out.cell 1
  have o2 := HO2.out.cell 2
  simp at o0 o1 o2
  clear hk2
  go_wp2_with fail
  clear o0 o1 o2
  refine (refSides_any o w2 hp).mono ?_
  rintro e w3 ⟨rfl, hk3⟩
  have HO3 := Lib.hid (HO2.out.keep hk3 trivial)
  have HB3 := Lib.hid (HB2.out.trans (hk3.toBelow (fun _ _ => trivial) HB2.out.size))
  have o2 := HO3.out.cell 2
  simp at o2
  clear hk3
  by_cases h0 : 0 ≤ o.pr
  · obtain ⟨l1, l2⟩ := sides_le (t := o.ty) h0
    generalize sidesV o.ty o.pr = x at *
    obtain ⟨a, b⟩ := x
    simp only at l1 l2 ⊢
    have d1 : decide (a ≤ o.pr) = true := by simpa using l1
    have d2 : decide (b ≤ o.pr) = true := by simpa using l2
    clear h0
    go_wp2_with fail
    go_ret
    exact ⟨rfl, ((Below.refl w.heap.size w).alloc (Nat.le_refl _) _).trans (HB3.out.mono (by simp))⟩
  · have hx : sidesV o.ty o.pr = (-1, -1) := by unfold sidesV; rw [if_pos (by omega)]
    rw [hx]
    simp only
    by_cases h1 : o.pr = -1
    · have d1 : decide ((-1 : Int) ≤ o.pr) = true := by simp; omega
      go_wp2_with fail
      go_ret
      exact ⟨rfl, ((Below.refl w.heap.size w).alloc (Nat.le_refl _) _).trans (HB3.out.mono (by simp))⟩
    · have d1 : decide ((-1 : Int) ≤ o.pr) = false := by simp; omega
      have d2 : decide (o.pr < 0) = true := by simp; omega
      go_wp2_with fail
      go_ret
      exact ⟨rfl, ((Below.refl w.heap.size w).alloc (Nat.le_refl _) _).trans (HB3.out.mono (by simp))⟩
end Go.Proofs.YtjfejgacafapaaaDoor
