/-
  More of the document's own answers where nothing was made yet: Retire, Sweep, Alloc. No condition.
-/
import Derived.Test.YtiiaajdkkofbjaaDoes0
namespace Go.Proofs.Ytiiaajdkkofbjaa
open Go.RowKit Go.Maps
set_option linter.unusedVariables false

set_option maxHeartbeats 2000000 in
theorem retire0 (t b : Int) (w : World) : Calls Try.prog 55 #[ZY, ZA, .int .i64 t, .int .i64 b] w fun e w' => e = .returned (.tuple #[ZY, ZA, .int .i64 1]) ∧ Below w.heap.size w w' := by
  go_enter Try.func55, Try.ntmps55
  go_wp2_with fail
  refine (bad0 _ _).mono ?_
  rintro e w1 ⟨rfl, b1⟩
  have hB := ((((Blk.new w 52 #[.int .i64 0, .int .i64 0, .slice none 0 0, .slice none 0 0]).alloc (.cells #[.slice none 0 0, .int .i64 0, .int .i64 0] 55)).alloc (.cells #[.int .i64 0, .int .i64 0, .slice none 0 0, .slice none 0 0] 52)).alloc (.cells #[.slice none 0 0, .int .i64 0, .int .i64 0] 55)).below b1 (by simp; omega)
  have hC := (((Blk.new (w.alloc (.cells #[.int .i64 0, .int .i64 0, .slice none 0 0, .slice none 0 0] 52)) 55 #[.slice none 0 0, .int .i64 0, .int .i64 0]).alloc (.cells #[.int .i64 0, .int .i64 0, .slice none 0 0, .slice none 0 0] 52)).alloc (.cells #[.slice none 0 0, .int .i64 0, .int .i64 0] 55)).below b1 (by simp)
  have hR := ((Blk.new ((w.alloc (.cells #[.int .i64 0, .int .i64 0, .slice none 0 0, .slice none 0 0] 52)).alloc (.cells #[.slice none 0 0, .int .i64 0, .int .i64 0] 55)) 52 #[.int .i64 0, .int .i64 0, .slice none 0 0, .slice none 0 0]).alloc (.cells #[.slice none 0 0, .int .i64 0, .int .i64 0] 55)).below b1 (by simp)
  have hT := (Blk.new (((w.alloc (.cells #[.int .i64 0, .int .i64 0, .slice none 0 0, .slice none 0 0] 52)).alloc (.cells #[.slice none 0 0, .int .i64 0, .int .i64 0] 55)).alloc (.cells #[.int .i64 0, .int .i64 0, .slice none 0 0, .slice none 0 0] 52)) 55 #[.slice none 0 0, .int .i64 0, .int .i64 0]).below b1 (by simp)
  simp only [World.size_alloc] at hC hR hT
  obtain ⟨c0, c1, c2, c3, _⟩ := hB.four
  obtain ⟨d0, d1, d2, _⟩ := hC.three
  obtain ⟨r0, r1, r2, r3, g0, g1, g2, g3⟩ := hR.four
  obtain ⟨t0, t1, t2, f0, f1, f2⟩ := hT.three
  have HB1 := Lib.hid b1
  clear hB hC hR hT b1
  go_wp2
  go_region
  all_goals
    go_wp2
    refine bodyPost_ret (v := .tuple #[ZY, ZA, .int .i64 1]) (by simp [results, Try.results55, go_sem, r0, r1, r2, r3, t0, t1, t2]) rfl ⟨rfl, ?_⟩
    refine Below.drew ?_
    repeat (refine below_set ?_ (by omega))
    exact (((((Below.refl _ _).alloc (Nat.le_refl _) _).alloc (by simp) _).alloc (by simp; omega) _).alloc (by simp; omega) _).trans (HB1.out.mono (by simp; omega))

set_option maxHeartbeats 2000000 in
theorem sweep0 (w : World) : Calls Try.prog 56 #[ZY, ZA] w fun e w' => (∃ u, e = .returned (.tuple #[.agg #[.int .i64 0, .int .i64 0, .slice none 0 0, .slice u 0 0], ZA, .int .i64 0])) ∧ Below w.heap.size w w' := by
  go_enter Try.func56, Try.ntmps56
  go_wp2
  refine wp_loop_rounds 1 ?_
  rw [rounds_succ]
  go_wp2
  go_region
  all_goals
    go_wp2
    refine bodyPost_ret (by simp [results, Try.results56, go_sem]; rfl) rfl ⟨⟨_, rfl⟩, ?_⟩
    go_grown

theorem live0 (w : World) : Calls Try.prog 78 #[ZA] w fun e w' => e = .returned (.tuple #[.int .i64 0, .int .i64 0]) ∧ Below w.heap.size w w' := by
  go_enter Try.func78, Try.ntmps78
  go_wp2
  refine wp_loop_rounds 1 ?_
  rw [rounds_succ]
  go_wp2
  go_ret2
  exact ⟨rfl, (Below.refl _ _).alloc (Nat.le_refl _) _⟩

theorem alloc0 (n : Int) (w : World) : Calls Try.prog 57 #[ZA, .int .i64 n] w fun e w' => (∃ f, e = .returned (.tuple #[ZA, .int .i64 0, .int .i64 f])) ∧ Below w.heap.size w w' := by
  have hR0 := (Blk.new (w.alloc (Obj.cells #[.slice none 0 0, .int .i64 0, .int .i64 0] 55)) 55 #[.slice none 0 0, .int .i64 0, .int .i64 0])
  simp only [World.size_alloc] at hR0
  by_cases hn : n < 1 ∨ 256 < n
  · by_cases h1 : n < 1
    all_goals
      clear hR0
      go_enter Try.func57, Try.ntmps57
      go_wp2_with fail
      refine bodyPost_ret (v := .tuple #[ZA, .int .i64 0, .int .i64 1]) (by simp [results, Try.results57, go_sem]) rfl ⟨⟨_, rfl⟩, ?_⟩
      go_grown
  · have h1 : ¬ n < 1 := by omega
    have h2 : ¬ 256 < n := by omega
    clear hn
    go_enter Try.func57, Try.ntmps57
    go_wp2_with fail
    refine (live0 _).mono ?_
    rintro e w1 ⟨rfl, b1⟩
    have hB := ((Blk.new w 55 #[.slice none 0 0, .int .i64 0, .int .i64 0]).alloc (.cells #[.slice none 0 0, .int .i64 0, .int .i64 0] 55)).below b1 (by simp; omega)
    obtain ⟨c0, c1, c2, f0, f1, f2⟩ := hB.three
    have hR := hR0.below b1 (by simp)
    obtain ⟨r0, r1, r2, g0, g1, g2⟩ := hR.three
    have HB1 := Lib.hid b1
    clear hR0 hR hB b1
    go_wp2_with fail
    refine bodyPost_ret (v := .tuple #[ZA, .int .i64 0, .int .i64 21]) (by simp [results, Try.results57, go_sem, r0, r1, r2]) rfl ⟨⟨_, rfl⟩, ?_⟩
    refine below_set (below_set (below_set ?_ (by omega)) (by omega)) (by omega)
    exact (((Below.refl _ _).alloc (Nat.le_refl _) _).alloc (by simp) _).trans (HB1.out.mono (by simp; omega))
end Go.Proofs.Ytiiaajdkkofbjaa
