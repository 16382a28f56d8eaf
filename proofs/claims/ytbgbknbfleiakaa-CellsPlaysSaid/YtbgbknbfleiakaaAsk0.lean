/-
  The calls of the document's own answers where nothing was made yet (an empty list of blocks), as two statements hand them over: each answers, and leaves all older memory as it was. No condition.
-/
import Derived.Test.YtbgbknbfleiakaaArgs
import Derived.Handy
namespace Go.Proofs.Ytbgbknbfleiakaa
open Go.RowKit Go.Maps

abbrev M0 : Value := .agg #[.slice none 0 0, .int .i64 0, .int .i64 0]
abbrev M1 : Value := .agg #[.slice none 0 0, .int .i64 0, .int .i64 1]

theorem bcell {W w1 : World} (hb : Below W.heap.size W w1) : (∀ b o, b < W.heap.size → w1.cell? ⟨b, o, none⟩ = W.cell? ⟨b, o, none⟩) ∧ (∀ b o, b < W.heap.size → w1.frozen? ⟨b, o, none⟩ = W.frozen? ⟨b, o, none⟩) :=
  ⟨fun b o h => hb.cell (p := ⟨b, o, none⟩) h, fun b o h => hb.frozen (p := ⟨b, o, none⟩) h⟩

theorem below_set {B g o : Nat} {a w : World} {u : Value} (h : Below B a w) (hg : B ≤ g) : Below B a (w.setCell ⟨g, o, none⟩ u) := h.setCell hg u
theorem keep_set {X : Nat → Prop} {g o : Nat} {a w : World} {u : Value} (h : Keep X a w) (hg : ¬ X g) : Keep X a (w.setCell ⟨g, o, none⟩ u) := h.setCell hg u
theorem arena_set {X : Nat → Prop} {g o pa : Nat} {S : AS} {w : World} {u : Value} (h : Arena w X pa S) (hg : X g) : Arena (w.setCell ⟨g, o, none⟩ u) X pa S := h.setCell hg u

theorem is0 (b : Int) (w : World) : Calls Try.prog 29 #[M0, .int .i64 b] w fun e w' => e = .returned (.bool false) ∧ Below w.heap.size w w' := by
  by_cases h1 : b < 1
  all_goals
    go_enter Try.func29, Try.ntmps29
    go_wp2
    go_ret
    exact ⟨rfl, (Below.refl _ _).alloc (Nat.le_refl _) _⟩

theorem Blk.three {w : World} {g : Nat} {t : TypeId} {x y z : Value} (h : Blk w g t #[x, y, z]) :
    w.cell? ⟨g, 0, none⟩ = some x ∧ w.cell? ⟨g, 1, none⟩ = some y ∧ w.cell? ⟨g, 2, none⟩ = some z ∧ w.frozen? ⟨g, 0, none⟩ = false ∧ w.frozen? ⟨g, 1, none⟩ = false ∧ w.frozen? ⟨g, 2, none⟩ = false :=
  ⟨by rw [h.cell]; rfl, by rw [h.cell]; rfl, by rw [h.cell]; rfl, h.frozen 0, h.frozen 1, h.frozen 2⟩
theorem Blk.five {w : World} {g : Nat} {t : TypeId} {x y z u v : Value} (h : Blk w g t #[x, y, z, u, v]) :
    w.cell? ⟨g, 0, none⟩ = some x ∧ w.cell? ⟨g, 1, none⟩ = some y ∧ w.cell? ⟨g, 2, none⟩ = some z ∧ w.cell? ⟨g, 3, none⟩ = some u ∧ w.cell? ⟨g, 4, none⟩ = some v :=
  ⟨by rw [h.cell]; rfl, by rw [h.cell]; rfl, by rw [h.cell]; rfl, by rw [h.cell]; rfl, by rw [h.cell]; rfl⟩

theorem reach0 (b i : Int) (w : World) : Calls Try.prog 25 #[M0, .int .i64 b, .int .i64 i] w fun e w' => e = .returned (.tuple #[M1, .int .i64 20]) ∧ Below w.heap.size w w' := by
  go_enter Try.func25, Try.ntmps25
  go_wp2_with fail
  refine (is0 _ _).mono ?_
  rintro e w1 ⟨rfl, b1⟩
  have hB := ((Blk.new w 28 #[.slice none 0 0, .int .i64 0, .int .i64 0]).alloc (.cells #[.slice none 0 0, .int .i64 0, .int .i64 0] 28)).below b1 (by simp; omega)
  have hR := (Blk.new (w.alloc (.cells #[.slice none 0 0, .int .i64 0, .int .i64 0] 28)) 28 #[.slice none 0 0, .int .i64 0, .int .i64 0]).below b1 (by simp)
  simp only [World.size_alloc] at hR
  obtain ⟨c0, c1, c2, f0, f1, f2⟩ := hB.three
  have hB2 := hB.set_ 2 (.int .i64 1)
  obtain ⟨d0, d1, d2, e0, e1, e2⟩ := hB2.three
  have hR2 := hR.far (p := ⟨w.heap.size, 2, none⟩) (by simp) (.int .i64 1)
  obtain ⟨r0, r1, r2, g0, g1, g2⟩ := hR2.three
  have hF := ((hR2.set_ 0 (.slice none 0 0)).set_ 1 (.int .i64 0)).set_ 2 (.int .i64 1)
  obtain ⟨q0, q1, q2, _⟩ := hF.three
  have HB1 := Lib.hid b1
  clear hB hR hB2 hR2 hF b1
  go_wp2_with fail
  refine bodyPost_ret (v := .tuple #[M1, .int .i64 20]) (by simp [results, Try.results25, go_sem, q0, q1, q2]) rfl ⟨rfl, ?_⟩
  refine below_set (below_set (below_set (below_set ?_ (by omega)) (by omega)) (by omega)) (by omega)
  exact (((Below.refl _ _).alloc (Nat.le_refl _) _).alloc (by simp) _).trans (HB1.out.mono (by simp; omega))

theorem free0 (b : Int) (w : World) : Calls Try.prog 24 #[M0, .int .i64 b] w fun e w' => e = .returned (.tuple #[M1, .int .i64 20]) ∧ Below w.heap.size w w' := by
  go_enter Try.func24, Try.ntmps24
  go_wp2_with fail
  refine (is0 _ _).mono ?_
  rintro e w1 ⟨rfl, b1⟩
  have hB := ((Blk.new w 28 #[.slice none 0 0, .int .i64 0, .int .i64 0]).alloc (.cells #[.slice none 0 0, .int .i64 0, .int .i64 0] 28)).below b1 (by simp; omega)
  have hR := (Blk.new (w.alloc (.cells #[.slice none 0 0, .int .i64 0, .int .i64 0] 28)) 28 #[.slice none 0 0, .int .i64 0, .int .i64 0]).below b1 (by simp)
  simp only [World.size_alloc] at hR
  obtain ⟨c0, c1, c2, f0, f1, f2⟩ := hB.three
  have hB2 := hB.set_ 2 (.int .i64 1)
  obtain ⟨d0, d1, d2, e0, e1, e2⟩ := hB2.three
  have hR2 := hR.far (p := ⟨w.heap.size, 2, none⟩) (by simp) (.int .i64 1)
  obtain ⟨r0, r1, r2, g0, g1, g2⟩ := hR2.three
  have hF := ((hR2.set_ 0 (.slice none 0 0)).set_ 1 (.int .i64 0)).set_ 2 (.int .i64 1)
  obtain ⟨q0, q1, q2, _⟩ := hF.three
  have HB1 := Lib.hid b1
  clear hB hR hB2 hR2 hF b1
  go_wp2_with fail
  refine bodyPost_ret (v := .tuple #[M1, .int .i64 20]) (by simp [results, Try.results24, go_sem, q0, q1, q2]) rfl ⟨rfl, ?_⟩
  refine below_set (below_set (below_set (below_set ?_ (by omega)) (by omega)) (by omega)) (by omega)
  exact (((Below.refl _ _).alloc (Nat.le_refl _) _).alloc (by simp) _).trans (HB1.out.mono (by simp; omega))

theorem live0 (w : World) : Calls Try.prog 13 #[M0] w fun e w' => e = .returned (.tuple #[.int .i64 0, .int .i64 0]) ∧ Below w.heap.size w w' := by
  go_enter Try.func13, Try.ntmps13
  go_wp2
  refine wp_loop_rounds 1 ?_
  rw [rounds_succ]
  go_wp2
  go_ret2
  exact ⟨rfl, (Below.refl _ _).alloc (Nat.le_refl _) _⟩

theorem alloc0 (n : Int) (w : World) : Calls Try.prog 23 #[M0, .int .i64 n] w fun e w' => (∃ f, e = .returned (.tuple #[M0, .int .i64 0, .int .i64 f])) ∧ Below w.heap.size w w' := by
  have hR0 := (Blk.new (w.alloc (.cells #[.slice none 0 0, .int .i64 0, .int .i64 0] 28)) 28 #[.slice none 0 0, .int .i64 0, .int .i64 0])
  simp only [World.size_alloc] at hR0
  by_cases hn : n < 1 ∨ 256 < n
  · by_cases h1 : n < 1
    all_goals
      clear hR0
      go_enter Try.func23, Try.ntmps23
      go_wp2_with fail
      refine bodyPost_ret (v := .tuple #[M0, .int .i64 0, .int .i64 1]) (by simp [results, Try.results23, go_sem]) rfl ⟨⟨_, rfl⟩, ?_⟩
      go_grown
  · have h1 : ¬ n < 1 := by omega
    have h2 : ¬ 256 < n := by omega
    clear hn
    go_enter Try.func23, Try.ntmps23
    go_wp2_with fail
    refine (live0 _).mono ?_
    rintro e w1 ⟨rfl, b1⟩
    have hB := ((Blk.new w 28 #[.slice none 0 0, .int .i64 0, .int .i64 0]).alloc (.cells #[.slice none 0 0, .int .i64 0, .int .i64 0] 28)).below b1 (by simp; omega)
    obtain ⟨c0, c1, c2, f0, f1, f2⟩ := hB.three
    have hR := hR0.below b1 (by simp)
    obtain ⟨r0, r1, r2, g0, g1, g2⟩ := hR.three
    have hF := ((hR.set_ 0 (.slice none 0 0)).set_ 1 (.int .i64 0)).set_ 2 (.int .i64 0)
    obtain ⟨q0, q1, q2, _⟩ := hF.three
    have HB1 := Lib.hid b1
    clear hR0 hF hR hB b1
    go_wp2_with fail
    refine bodyPost_ret (v := .tuple #[M0, .int .i64 0, .int .i64 21]) (by simp [results, Try.results23, go_sem, q0, q1, q2]) rfl ⟨⟨_, rfl⟩, ?_⟩
    refine below_set (below_set (below_set ?_ (by omega)) (by omega)) (by omega)
    exact (((Below.refl _ _).alloc (Nat.le_refl _) _).alloc (by simp) _).trans (HB1.out.mono (by simp; omega))

end Go.Proofs.Ytbgbknbfleiakaa
