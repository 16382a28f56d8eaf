/-
  The calls of the document's own answers for layers 2 and 4 where nothing was made yet, as two statements hand them over: each answers, and leaves all older memory as it was. No condition.
-/
import Derived.Test.YtiiaajdkkofbjaaYalive
import Derived.Handy
namespace Go.Proofs.Ytiiaajdkkofbjaa
open Go.RowKit Go.Maps
set_option linter.unusedVariables false

abbrev ZY : Value := .agg #[.int .i64 0, .int .i64 0, .slice none 0 0, .slice none 0 0]
abbrev ZA : Value := .agg #[.slice none 0 0, .int .i64 0, .int .i64 0]

theorem Blk.three {w : World} {g : Nat} {t : TypeId} {x y z : Value} (h : Blk w g t #[x, y, z]) :
    w.cell? ⟨g, 0, none⟩ = some x ∧ w.cell? ⟨g, 1, none⟩ = some y ∧ w.cell? ⟨g, 2, none⟩ = some z ∧ w.frozen? ⟨g, 0, none⟩ = false ∧ w.frozen? ⟨g, 1, none⟩ = false ∧ w.frozen? ⟨g, 2, none⟩ = false :=
  ⟨by rw [h.cell]; rfl, by rw [h.cell]; rfl, by rw [h.cell]; rfl, h.frozen 0, h.frozen 1, h.frozen 2⟩
theorem Blk.four {w : World} {g : Nat} {t : TypeId} {x y z u : Value} (h : Blk w g t #[x, y, z, u]) :
    w.cell? ⟨g, 0, none⟩ = some x ∧ w.cell? ⟨g, 1, none⟩ = some y ∧ w.cell? ⟨g, 2, none⟩ = some z ∧ w.cell? ⟨g, 3, none⟩ = some u ∧ w.frozen? ⟨g, 0, none⟩ = false ∧ w.frozen? ⟨g, 1, none⟩ = false ∧ w.frozen? ⟨g, 2, none⟩ = false ∧ w.frozen? ⟨g, 3, none⟩ = false :=
  ⟨by rw [h.cell]; rfl, by rw [h.cell]; rfl, by rw [h.cell]; rfl, by rw [h.cell]; rfl, h.frozen 0, h.frozen 1, h.frozen 2, h.frozen 3⟩

theorem bad0 (t : Int) (w : World) : Calls Try.prog 73 #[ZY, .int .i64 t] w fun e w' => e = .returned (.bool true) ∧ Below w.heap.size w w' := by
  by_cases h1 : t < 1
  · go_enter Try.func73, Try.ntmps73
    go_wp2
    go_ret
    exact ⟨rfl, (Below.refl _ _).alloc (Nat.le_refl _) _⟩
  · have h2 : 0 < t := by omega
    go_enter Try.func73, Try.ntmps73
    go_wp2
    go_ret
    exact ⟨rfl, (Below.refl _ _).alloc (Nat.le_refl _) _⟩

set_option maxHeartbeats 1000000 in
theorem enter0 (t : Int) (w : World) : Calls Try.prog 53 #[ZY, .int .i64 t] w fun e w' => e = .returned (.tuple #[ZY, .int .i64 1]) ∧ Below w.heap.size w w' := by
  go_enter Try.func53, Try.ntmps53
  go_wp2_with fail
  refine (bad0 _ _).mono ?_
  rintro e w1 ⟨rfl, b1⟩
  have hB := ((Blk.new w 52 #[.int .i64 0, .int .i64 0, .slice none 0 0, .slice none 0 0]).alloc (.cells #[.int .i64 0, .int .i64 0, .slice none 0 0, .slice none 0 0] 52)).below b1 (by simp; omega)
  have hR := (Blk.new (w.alloc (.cells #[.int .i64 0, .int .i64 0, .slice none 0 0, .slice none 0 0] 52)) 52 #[.int .i64 0, .int .i64 0, .slice none 0 0, .slice none 0 0]).below b1 (by simp)
  simp only [World.size_alloc] at hR
  obtain ⟨c0, c1, c2, c3, _⟩ := hB.four
  obtain ⟨r0, r1, r2, r3, g0, g1, g2, g3⟩ := hR.four
  have hF := (((hR.set_ 0 (.int .i64 0)).set_ 1 (.int .i64 0)).set_ 2 (.slice none 0 0)).set_ 3 (.slice none 0 0)
  obtain ⟨q0, q1, q2, q3, _⟩ := hF.four
  have HB1 := Lib.hid b1
  clear hB hR hF b1
  go_wp2_with fail
  refine bodyPost_ret (v := .tuple #[ZY, .int .i64 1]) (by simp [results, Try.results53, go_sem, q0, q1, q2, q3]) rfl ⟨rfl, ?_⟩
  refine below_set (below_set (below_set (below_set ?_ (by omega)) (by omega)) (by omega)) (by omega)
  exact (((Below.refl _ _).alloc (Nat.le_refl _) _).alloc (by simp) _).trans (HB1.out.mono (by simp; omega))

set_option maxHeartbeats 1000000 in
theorem leave0 (t : Int) (w : World) : Calls Try.prog 54 #[ZY, .int .i64 t] w fun e w' => e = .returned (.tuple #[ZY, .int .i64 1]) ∧ Below w.heap.size w w' := by
  go_enter Try.func54, Try.ntmps54
  go_wp2_with fail
  refine (bad0 _ _).mono ?_
  rintro e w1 ⟨rfl, b1⟩
  have hB := ((Blk.new w 52 #[.int .i64 0, .int .i64 0, .slice none 0 0, .slice none 0 0]).alloc (.cells #[.int .i64 0, .int .i64 0, .slice none 0 0, .slice none 0 0] 52)).below b1 (by simp; omega)
  have hR := (Blk.new (w.alloc (.cells #[.int .i64 0, .int .i64 0, .slice none 0 0, .slice none 0 0] 52)) 52 #[.int .i64 0, .int .i64 0, .slice none 0 0, .slice none 0 0]).below b1 (by simp)
  simp only [World.size_alloc] at hR
  obtain ⟨c0, c1, c2, c3, _⟩ := hB.four
  obtain ⟨r0, r1, r2, r3, g0, g1, g2, g3⟩ := hR.four
  have hF := (((hR.set_ 0 (.int .i64 0)).set_ 1 (.int .i64 0)).set_ 2 (.slice none 0 0)).set_ 3 (.slice none 0 0)
  obtain ⟨q0, q1, q2, q3, _⟩ := hF.four
  have HB1 := Lib.hid b1
  clear hB hR hF b1
  go_wp2_with fail
  refine bodyPost_ret (v := .tuple #[ZY, .int .i64 1]) (by simp [results, Try.results54, go_sem, q0, q1, q2, q3]) rfl ⟨rfl, ?_⟩
  refine below_set (below_set (below_set (below_set ?_ (by omega)) (by omega)) (by omega)) (by omega)
  exact (((Below.refl _ _).alloc (Nat.le_refl _) _).alloc (by simp) _).trans (HB1.out.mono (by simp; omega))

end Go.Proofs.Ytiiaajdkkofbjaa
