/-
  One call of a statement's script where the document's list is empty, all kinds. Condition: fewer than 2^62 blocks were made.
-/
import Derived.Test.YtbgbknbfleiakaaAsk1
import Derived.BigRegion
namespace Go.Proofs.Ytbgbknbfleiakaa
open Go.RowKit Go.Maps

theorem kept_ {w w1 : World} {X : Nat → Prop} {n : Nat} (hX : ∀ k, w.heap.size ≤ k → ¬ X k) {W : World} (hb : Below w.heap.size w W) (hk : Keep (fun k => X k ∨ (w.heap.size ≤ k ∧ k < n)) W w1) : Keep X w w1 :=
  (Keep.ofBelow hb (fun k hk => by rcases Nat.lt_or_ge k w.heap.size with hlt | hge; exact hlt; exact absurd hk (hX k hge))).trans (hk.less (fun k hk => .inl hk))
theorem below3 {w : World} (m o r : Array Value) : Below w.heap.size w (((w.alloc (.cells m 28)).alloc (.cells o 31)).alloc (.cells r 28)) :=
  (((Below.refl _ _).alloc (Nat.le_refl _) _).alloc (by simp) _).alloc (by simp; omega) _
theorem boxes3 {w w1 : World} {X : Nat → Prop} {m o r : Array Value} (k1 : Keep (fun k => X k ∨ (w.heap.size ≤ k ∧ k < w.heap.size + 3)) (((w.alloc (.cells m 28)).alloc (.cells o 31)).alloc (.cells r 28)) w1) :
    Blk w1 w.heap.size 28 m ∧ Blk w1 (w.heap.size + 1) 31 o ∧ Blk w1 (w.heap.size + 2) 28 r ∧ w.heap.size + 3 ≤ w1.heap.size := by
  have hM := (((Blk.new w 28 m).alloc (.cells o 31)).alloc (.cells r 28)).keep k1 (.inr ⟨by omega, by omega⟩)
  have hO := ((Blk.new (w.alloc (.cells m 28)) 31 o).alloc (.cells r 28)).keep k1 (.inr ⟨by simp, by simp⟩)
  have hR := (Blk.new ((w.alloc (.cells m 28)).alloc (.cells o 31)) 28 r).keep k1 (.inr ⟨by simp; omega, by simp⟩)
  simp only [World.size_alloc] at hO hR
  exact ⟨hM, hO, hR, by have := k1.size; simp at this; omega⟩

set_option maxHeartbeats 1000000 in
set_option maxRecDepth 100000 in
theorem asks0_alloc {w : World} {X : Nat → Prop} {pa : Nat} {S : AS} (h : Arena w X pa S) (hX : ∀ k, w.heap.size ≤ k → ¬ X k) (hm : S.made < 4611686018427387904) (b i v x : Int) :
    Calls Try.prog 11 #[.pointer (some ⟨pa, 0, none⟩), M0, .agg #[.int .i64 1, .int .i64 b, .int .i64 i, .int .i64 v, .int .i64 x]] w (Done w X pa (S.allocAt i)) := by
  have hb3 := below3 (w := w) #[.slice none 0 0, .int .i64 0, .int .i64 0] #[.int .i64 1, .int .i64 b, .int .i64 i, .int .i64 v, .int .i64 x] #[.slice none 0 0, .int .i64 0, .int .i64 0]
  have hcall := alloc_any ((h.more (w.heap.size + 3)).below hb3) i hm (fun k hk hh => by simp only [World.size_alloc] at hk; rcases hh with hh | hh; exact hX k (by omega) hh; omega)
  have HX := Lib.hid hX; clear hX
  have HB3 := Lib.hid hb3; clear hb3
  have HC := Lib.hid hcall; clear hcall
  clear h
  go_enter Try.func11, Try.ntmps11
  go_wp2_with fail
  refine HC.out.mono ?_
  rintro e w1 ⟨rfl, a1, k1⟩
  obtain ⟨hM, hO, hR, n1⟩ := boxes3 k1
  obtain ⟨m0, m1, m2, _⟩ := hM.three
  obtain ⟨o0, o1, o2, o3, o4⟩ := hO.five
  have HA1 := Lib.hid a1; clear a1
  have HK1 := Lib.hid k1; clear k1
  have HR1 := Lib.hid hR; clear hR
  have HN1 := Lib.hid n1; clear n1
  clear hM hO
  go_wp2_with fail
  refine (alloc0 _ _).mono ?_
  rintro e w2 ⟨⟨f, rfl⟩, b2⟩
  have n1 := HN1.out
  have n2 := b2.size
  have hR2 := (HR1.out.below b2 (by omega)).alloc (.cells #[.slice none 0 0, .int .i64 0, .int .i64 0] 28)
  obtain ⟨r0, r1, r2, g0, g1, g2⟩ := hR2.three
  have hF := ((hR2.set_ 0 (.slice none 0 0)).set_ 1 (.int .i64 0)).set_ 2 (.int .i64 0)
  obtain ⟨q0, q1, q2, _⟩ := hF.three
  have HB2 := Lib.hid b2; clear b2
  have HN2 := Lib.hid n2; clear n2
  clear hR2 hF n1
  generalize S.allocErr i = er
  generalize S.allocNo i = re
  go_wp2_with fail
  all_goals
    refine bodyPost_ret (by simp [results, Try.results11, go_sem, q0, q1, q2]; rfl) rfl ?_
    refine ⟨⟨_, rfl⟩, ?_, ?_⟩
    · have n1 := HN1.out
      refine Arena.less (X := fun k => X k ∨ (w.heap.size ≤ k ∧ k < w.heap.size + 3)) ?_ (fun k _ hk => .inl hk)
      refine arena_set (arena_set (arena_set ((HA1.out.below HB2.out).alloc _) ?_) ?_) ?_
      all_goals exact .inr ⟨by omega, by omega⟩
    · have hx := HX.out (w.heap.size + 1 + 1) (by omega)
      refine keep_set (keep_set (keep_set ?_ hx) hx) hx
      refine Keep.alloc ?_ _
      refine (kept_ HX.out HB3.out HK1.out).trans (Keep.ofBelow HB2.out (fun k hk => ?_))
      have n1 := HN1.out
      rcases Nat.lt_or_ge k w.heap.size with hlt | hge
      · omega
      · exact absurd hk (HX.out k hge)

set_option maxHeartbeats 1000000 in
set_option maxRecDepth 100000 in
theorem asks0_free {w : World} {X : Nat → Prop} {pa : Nat} {S : AS} (h : Arena w X pa S) (hX : ∀ k, w.heap.size ≤ k → ¬ X k) {b : Int} (hwb : (ik b).wf = true) (i v x : Int) :
    Calls Try.prog 11 #[.pointer (some ⟨pa, 0, none⟩), M0, .agg #[.int .i64 2, .int .i64 b, .int .i64 i, .int .i64 v, .int .i64 x]] w (Done w X pa (S.freeAt b)) := by
  have hb3 := below3 (w := w) #[.slice none 0 0, .int .i64 0, .int .i64 0] #[.int .i64 2, .int .i64 b, .int .i64 i, .int .i64 v, .int .i64 x] #[.slice none 0 0, .int .i64 0, .int .i64 0]
  have hcall := free_any ((h.more (w.heap.size + 3)).below hb3) hwb
  have HX := Lib.hid hX; clear hX
  have HB3 := Lib.hid hb3; clear hb3
  have HC := Lib.hid hcall; clear hcall
  clear h
  go_enter Try.func11, Try.ntmps11
  go_wp2_with fail
  refine HC.out.mono ?_
  rintro e w1 ⟨rfl, a1, k1⟩
  obtain ⟨hM, hO, hR, n1⟩ := boxes3 k1
  obtain ⟨m0, m1, m2, _⟩ := hM.three
  obtain ⟨o0, o1, o2, o3, o4⟩ := hO.five
  have HA1 := Lib.hid a1; clear a1
  have HK1 := Lib.hid k1; clear k1
  have HR1 := Lib.hid hR; clear hR
  have HN1 := Lib.hid n1; clear n1
  clear hM hO
  go_wp2_with fail
  refine (free0 _ _).mono ?_
  rintro e w2 ⟨rfl, b2⟩
  have n1 := HN1.out
  have n2 := b2.size
  have hR2 := (HR1.out.below b2 (by omega)).alloc (.cells #[.slice none 0 0, .int .i64 0, .int .i64 1] 28)
  obtain ⟨r0, r1, r2, g0, g1, g2⟩ := hR2.three
  have hF := ((hR2.set_ 0 (.slice none 0 0)).set_ 1 (.int .i64 0)).set_ 2 (.int .i64 1)
  obtain ⟨q0, q1, q2, _⟩ := hF.three
  have HB2 := Lib.hid b2; clear b2
  have HN2 := Lib.hid n2; clear n2
  clear hR2 hF n1
  generalize S.err0 b = er
  go_wp2_with fail
  all_goals
    refine bodyPost_ret (by simp [results, Try.results11, go_sem, q0, q1, q2]; rfl) rfl ?_
    refine ⟨⟨_, rfl⟩, ?_, ?_⟩
    · have n1 := HN1.out
      refine Arena.less (X := fun k => X k ∨ (w.heap.size ≤ k ∧ k < w.heap.size + 3)) ?_ (fun k _ hk => .inl hk)
      refine arena_set (arena_set (arena_set ((HA1.out.below HB2.out).alloc _) ?_) ?_) ?_
      all_goals exact .inr ⟨by omega, by omega⟩
    · have hx := HX.out (w.heap.size + 1 + 1) (by omega)
      refine keep_set (keep_set (keep_set ?_ hx) hx) hx
      refine Keep.alloc ?_ _
      refine (kept_ HX.out HB3.out HK1.out).trans (Keep.ofBelow HB2.out (fun k hk => ?_))
      have n1 := HN1.out
      rcases Nat.lt_or_ge k w.heap.size with hlt | hge
      · omega
      · exact absurd hk (HX.out k hge)

set_option maxHeartbeats 1000000 in
set_option maxRecDepth 100000 in
theorem asks0_load {w : World} {X : Nat → Prop} {pa : Nat} {S : AS} (h : Arena w X pa S) (hX : ∀ k, w.heap.size ≤ k → ¬ X k) {b : Int} (hwb : (ik b).wf = true) (i v x : Int) :
    Calls Try.prog 11 #[.pointer (some ⟨pa, 0, none⟩), M0, .agg #[.int .i64 3, .int .i64 b, .int .i64 i, .int .i64 v, .int .i64 x]] w (Done w X pa (S.touch b)) := by
  have hb3 := below3 (w := w) #[.slice none 0 0, .int .i64 0, .int .i64 0] #[.int .i64 3, .int .i64 b, .int .i64 i, .int .i64 v, .int .i64 x] #[.slice none 0 0, .int .i64 0, .int .i64 0]
  have hcall := cell0_load ((h.more (w.heap.size + 3)).below hb3) (fun k hk hh => by simp only [World.size_alloc] at hk; rcases hh with hh | hh; exact hX k (by omega) hh; omega) hwb i v x
  have HX := Lib.hid hX; clear hX
  have HB3 := Lib.hid hb3; clear hb3
  have HC := Lib.hid hcall; clear hcall
  clear h
  go_enter Try.func11, Try.ntmps11
  go_wp2_with fail
  refine HC.out.mono ?_
  rintro e w1 ⟨⟨ok, rfl⟩, a1, k1⟩
  obtain ⟨hM, hO, hR, n1⟩ := boxes3 k1
  obtain ⟨r0, r1, r2, g0, g1, g2⟩ := hR.three
  have hF := ((hR.set_ 0 (.slice none 0 0)).set_ 1 (.int .i64 0)).set_ 2 (.int .i64 1)
  obtain ⟨q0, q1, q2, _⟩ := hF.three
  have HA1 := Lib.hid a1; clear a1
  have HK1 := Lib.hid k1; clear k1
  have HN1 := Lib.hid n1; clear n1
  clear hM hO hF hR
  go_wp2_with fail
  refine bodyPost_ret (by simp [results, Try.results11, go_sem, q0, q1, q2]; rfl) rfl ?_
  refine ⟨⟨_, rfl⟩, ?_, ?_⟩
  · have n1 := HN1.out
    refine Arena.less (X := fun k => X k ∨ (w.heap.size ≤ k ∧ k < w.heap.size + 3)) ?_ (fun k _ hk => .inl hk)
    refine arena_set (arena_set (arena_set HA1.out ?_) ?_) ?_
    all_goals exact .inr ⟨by omega, by omega⟩
  · have hx := HX.out (w.heap.size + 1 + 1) (by omega)
    refine keep_set (keep_set (keep_set ?_ hx) hx) hx
    exact kept_ HX.out HB3.out HK1.out

set_option maxHeartbeats 1000000 in
set_option maxRecDepth 100000 in
theorem asks0_store {w : World} {X : Nat → Prop} {pa : Nat} {S : AS} (h : Arena w X pa S) (hX : ∀ k, w.heap.size ≤ k → ¬ X k) {b : Int} (hwb : (ik b).wf = true) (i v x : Int) :
    Calls Try.prog 11 #[.pointer (some ⟨pa, 0, none⟩), M0, .agg #[.int .i64 4, .int .i64 b, .int .i64 i, .int .i64 v, .int .i64 x]] w (Done w X pa (S.storeAt b i v)) := by
  have hb3 := below3 (w := w) #[.slice none 0 0, .int .i64 0, .int .i64 0] #[.int .i64 4, .int .i64 b, .int .i64 i, .int .i64 v, .int .i64 x] #[.slice none 0 0, .int .i64 0, .int .i64 0]
  have hcall := cell0_store ((h.more (w.heap.size + 3)).below hb3) (fun k hk hh => by simp only [World.size_alloc] at hk; rcases hh with hh | hh; exact hX k (by omega) hh; omega) hwb i v x
  have HX := Lib.hid hX; clear hX
  have HB3 := Lib.hid hb3; clear hb3
  have HC := Lib.hid hcall; clear hcall
  clear h
  go_enter Try.func11, Try.ntmps11
  go_wp2_with fail
  refine HC.out.mono ?_
  rintro e w1 ⟨⟨ok, rfl⟩, a1, k1⟩
  obtain ⟨hM, hO, hR, n1⟩ := boxes3 k1
  obtain ⟨r0, r1, r2, g0, g1, g2⟩ := hR.three
  have hF := ((hR.set_ 0 (.slice none 0 0)).set_ 1 (.int .i64 0)).set_ 2 (.int .i64 1)
  obtain ⟨q0, q1, q2, _⟩ := hF.three
  have HA1 := Lib.hid a1; clear a1
  have HK1 := Lib.hid k1; clear k1
  have HN1 := Lib.hid n1; clear n1
  clear hM hO hF hR
  go_wp2_with fail
  refine bodyPost_ret (by simp [results, Try.results11, go_sem, q0, q1, q2]; rfl) rfl ?_
  refine ⟨⟨_, rfl⟩, ?_, ?_⟩
  · have n1 := HN1.out
    refine Arena.less (X := fun k => X k ∨ (w.heap.size ≤ k ∧ k < w.heap.size + 3)) ?_ (fun k _ hk => .inl hk)
    refine arena_set (arena_set (arena_set HA1.out ?_) ?_) ?_
    all_goals exact .inr ⟨by omega, by omega⟩
  · have hx := HX.out (w.heap.size + 1 + 1) (by omega)
    refine keep_set (keep_set (keep_set ?_ hx) hx) hx
    exact kept_ HX.out HB3.out HK1.out

set_option maxHeartbeats 1000000 in
set_option maxRecDepth 100000 in
theorem asks0_swap {w : World} {X : Nat → Prop} {pa : Nat} {S : AS} (h : Arena w X pa S) (hX : ∀ k, w.heap.size ≤ k → ¬ X k) {b : Int} (hwb : (ik b).wf = true) (i v x : Int) :
    Calls Try.prog 11 #[.pointer (some ⟨pa, 0, none⟩), M0, .agg #[.int .i64 5, .int .i64 b, .int .i64 i, .int .i64 v, .int .i64 x]] w (Done w X pa (S.swapAt b i v x)) := by
  have hb3 := below3 (w := w) #[.slice none 0 0, .int .i64 0, .int .i64 0] #[.int .i64 5, .int .i64 b, .int .i64 i, .int .i64 v, .int .i64 x] #[.slice none 0 0, .int .i64 0, .int .i64 0]
  have hcall := cell0_swap ((h.more (w.heap.size + 3)).below hb3) (fun k hk hh => by simp only [World.size_alloc] at hk; rcases hh with hh | hh; exact hX k (by omega) hh; omega) hwb i v x
  have HX := Lib.hid hX; clear hX
  have HB3 := Lib.hid hb3; clear hb3
  have HC := Lib.hid hcall; clear hcall
  clear h
  go_enter Try.func11, Try.ntmps11
  go_wp2_with fail
  refine HC.out.mono ?_
  rintro e w1 ⟨⟨ok, rfl⟩, a1, k1⟩
  obtain ⟨hM, hO, hR, n1⟩ := boxes3 k1
  obtain ⟨r0, r1, r2, g0, g1, g2⟩ := hR.three
  have hF := ((hR.set_ 0 (.slice none 0 0)).set_ 1 (.int .i64 0)).set_ 2 (.int .i64 1)
  obtain ⟨q0, q1, q2, _⟩ := hF.three
  have HA1 := Lib.hid a1; clear a1
  have HK1 := Lib.hid k1; clear k1
  have HN1 := Lib.hid n1; clear n1
  clear hM hO hF hR
  go_wp2_with fail
  refine bodyPost_ret (by simp [results, Try.results11, go_sem, q0, q1, q2]; rfl) rfl ?_
  refine ⟨⟨_, rfl⟩, ?_, ?_⟩
  · have n1 := HN1.out
    refine Arena.less (X := fun k => X k ∨ (w.heap.size ≤ k ∧ k < w.heap.size + 3)) ?_ (fun k _ hk => .inl hk)
    refine arena_set (arena_set (arena_set HA1.out ?_) ?_) ?_
    all_goals exact .inr ⟨by omega, by omega⟩
  · have hx := HX.out (w.heap.size + 1 + 1) (by omega)
    refine keep_set (keep_set (keep_set ?_ hx) hx) hx
    exact kept_ HX.out HB3.out HK1.out

set_option maxHeartbeats 1000000 in
set_option maxRecDepth 100000 in
theorem asks0_add {w : World} {X : Nat → Prop} {pa : Nat} {S : AS} (h : Arena w X pa S) (hX : ∀ k, w.heap.size ≤ k → ¬ X k) {b : Int} (hwb : (ik b).wf = true) (i v x : Int) :
    Calls Try.prog 11 #[.pointer (some ⟨pa, 0, none⟩), M0, .agg #[.int .i64 6, .int .i64 b, .int .i64 i, .int .i64 v, .int .i64 x]] w (Done w X pa (S.addAt b i v)) := by
  have hb3 := below3 (w := w) #[.slice none 0 0, .int .i64 0, .int .i64 0] #[.int .i64 6, .int .i64 b, .int .i64 i, .int .i64 v, .int .i64 x] #[.slice none 0 0, .int .i64 0, .int .i64 0]
  have hcall := cell0_add ((h.more (w.heap.size + 3)).below hb3) (fun k hk hh => by simp only [World.size_alloc] at hk; rcases hh with hh | hh; exact hX k (by omega) hh; omega) hwb i v x
  have HX := Lib.hid hX; clear hX
  have HB3 := Lib.hid hb3; clear hb3
  have HC := Lib.hid hcall; clear hcall
  clear h
  go_enter Try.func11, Try.ntmps11
  go_wp2_with fail
  refine HC.out.mono ?_
  rintro e w1 ⟨⟨ok, rfl⟩, a1, k1⟩
  obtain ⟨hM, hO, hR, n1⟩ := boxes3 k1
  obtain ⟨r0, r1, r2, g0, g1, g2⟩ := hR.three
  have hF := ((hR.set_ 0 (.slice none 0 0)).set_ 1 (.int .i64 0)).set_ 2 (.int .i64 1)
  obtain ⟨q0, q1, q2, _⟩ := hF.three
  have HA1 := Lib.hid a1; clear a1
  have HK1 := Lib.hid k1; clear k1
  have HN1 := Lib.hid n1; clear n1
  clear hM hO hF hR
  go_wp2_with fail
  refine bodyPost_ret (by simp [results, Try.results11, go_sem, q0, q1, q2]; rfl) rfl ?_
  refine ⟨⟨_, rfl⟩, ?_, ?_⟩
  · have n1 := HN1.out
    refine Arena.less (X := fun k => X k ∨ (w.heap.size ≤ k ∧ k < w.heap.size + 3)) ?_ (fun k _ hk => .inl hk)
    refine arena_set (arena_set (arena_set HA1.out ?_) ?_) ?_
    all_goals exact .inr ⟨by omega, by omega⟩
  · have hx := HX.out (w.heap.size + 1 + 1) (by omega)
    refine keep_set (keep_set (keep_set ?_ hx) hx) hx
    exact kept_ HX.out HB3.out HK1.out

set_option maxHeartbeats 1000000 in
set_option maxRecDepth 100000 in
theorem asks0_other {w : World} {X : Nat → Prop} {pa : Nat} {S : AS} (h : Arena w X pa S) {kd : Int} (h1 : (kd == 1) = false) (h2 : (kd == 2) = false) (h3 : (kd == 3) = false) (h4 : (kd == 4) = false) (h5 : (kd == 5) = false) (h6 : (kd == 6) = false) (h7 : (kd == 7) = false) (b i v x : Int) :
    Calls Try.prog 11 #[.pointer (some ⟨pa, 0, none⟩), M0, .agg #[.int .i64 kd, .int .i64 b, .int .i64 i, .int .i64 v, .int .i64 x]] w (Done w X pa S) := by
  have HA := Lib.hid h; clear h
  go_enter Try.func11, Try.ntmps11
  go_wp2_with fail
  refine bodyPost_ret (by simp [results, Try.results11, go_sem]; rfl) rfl ?_
  refine ⟨⟨_, rfl⟩, ?_, ?_⟩
  · exact ((HA.out.alloc _).alloc _).alloc _
  · exact (((Keep.refl _ _).alloc _).alloc _).alloc _

set_option maxHeartbeats 1000000 in
set_option maxRecDepth 100000 in
theorem asks0_size {w : World} {X : Nat → Prop} {pa : Nat} {S : AS} (h : Arena w X pa S) (hX : ∀ k, w.heap.size ≤ k → ¬ X k) {b : Int} (hwb : (ik b).wf = true) (i v x : Int) :
    Calls Try.prog 11 #[.pointer (some ⟨pa, 0, none⟩), M0, .agg #[.int .i64 7, .int .i64 b, .int .i64 i, .int .i64 v, .int .i64 x]] w (Done w X pa (S.touch b)) := by
  have hb3 := below3 (w := w) #[.slice none 0 0, .int .i64 0, .int .i64 0] #[.int .i64 7, .int .i64 b, .int .i64 i, .int .i64 v, .int .i64 x] #[.slice none 0 0, .int .i64 0, .int .i64 0]
  have hcall := size_any ((h.more (w.heap.size + 3)).below hb3) hwb
  have hres : (S.err0 b = 20 ∧ S.sizeAt b = 0) ∨ S.err0 b = 0 := by
    unfold AS.err0 AS.sizeAt; cases look S.bl b with | none => exact .inl ⟨rfl, rfl⟩ | some cs => exact .inr rfl
  have HX := Lib.hid hX; clear hX
  have HB3 := Lib.hid hb3; clear hb3
  clear h
  generalize S.err0 b = er at hcall hres
  generalize S.sizeAt b = re at hcall hres
  have HC := Lib.hid hcall; clear hcall
  rcases hres with ⟨rfl, rfl⟩ | rfl
  all_goals
    go_enter Try.func11, Try.ntmps11
    go_wp2_with fail
    refine HC.out.mono ?_
    rintro e w1 ⟨rfl, a1, k1⟩
    obtain ⟨hM, hO, hR, n1⟩ := boxes3 k1
    obtain ⟨m0, m1, m2, _⟩ := hM.three
    obtain ⟨o0, o1, o2, o3, o4⟩ := hO.five
    have HA1 := Lib.hid a1; clear a1
    have HK1 := Lib.hid k1; clear k1
    have HR1 := Lib.hid hR; clear hR
    have HN1 := Lib.hid n1; clear n1
    clear hM hO
    go_wp2_with fail
    refine (reach0 _ _ _).mono ?_
    rintro e w2 ⟨rfl, b2⟩
    have n1 := HN1.out
    have n2 := b2.size
    have hR2 := (HR1.out.below b2 (by omega)).alloc (.cells #[.slice none 0 0, .int .i64 0, .int .i64 1] 28)
    have hN2 := Blk.new w2 28 #[.slice none 0 0, .int .i64 0, .int .i64 1]
    obtain ⟨c0, c1, c2, _⟩ := hN2.three
    obtain ⟨r0, r1, r2, g0, g1, g2⟩ := hR2.three
    have hF := ((hR2.set_ 0 (.slice none 0 0)).set_ 1 (.int .i64 0)).set_ 2 (.int .i64 1)
    obtain ⟨q0, q1, q2, _⟩ := hF.three
    have HB2 := Lib.hid b2; clear b2
    have HN2 := Lib.hid n2; clear n2
    clear hR2 hF n1 hN2
    go_wp2_with fail
    go_region
    all_goals
      go_wp2_with fail
      refine bodyPost_ret (by simp [results, Try.results11, go_sem, q0, q1, q2]; rfl) rfl ?_
      refine ⟨⟨_, rfl⟩, ?_, ?_⟩
      · have n1 := HN1.out
        refine Arena.drew ?_
        refine Arena.less (X := fun k => X k ∨ (w.heap.size ≤ k ∧ k < w.heap.size + 3)) ?_ (fun k _ hk => .inl hk)
        refine arena_set (arena_set (arena_set ((HA1.out.below HB2.out).alloc _) ?_) ?_) ?_
        all_goals exact .inr ⟨by omega, by omega⟩
      · have hx := HX.out (w.heap.size + 1 + 1) (by omega)
        refine Keep.drew ?_
        refine keep_set (keep_set (keep_set ?_ hx) hx) hx
        refine Keep.alloc ?_ _
        refine (kept_ HX.out HB3.out HK1.out).trans (Keep.ofBelow HB2.out (fun k hk => ?_))
        have n1 := HN1.out
        rcases Nat.lt_or_ge k w.heap.size with hlt | hge
        · omega
        · exact absurd hk (HX.out k hge)

/-- The plain step of one call. -/
def AS.step (S : AS) (kd b i v x : Int) : AS :=
  if kd = 1 then S.allocAt i else if kd = 2 then S.freeAt b else if kd = 3 then S.touch b else if kd = 4 then S.storeAt b i v else if kd = 5 then S.swapAt b i v x else if kd = 6 then S.addAt b i v else if kd = 7 then S.touch b else S
theorem asks0_any {w : World} {X : Nat → Prop} {pa : Nat} {S : AS} (h : Arena w X pa S) (hX : ∀ k, w.heap.size ≤ k → ¬ X k) (hm : S.made < 4611686018427387904) (kd : Int) {b : Int} (hwb : (ik b).wf = true) (i v x : Int) :
    Calls Try.prog 11 #[.pointer (some ⟨pa, 0, none⟩), M0, .agg #[.int .i64 kd, .int .i64 b, .int .i64 i, .int .i64 v, .int .i64 x]] w (Done w X pa (S.step kd b i v x)) := by
  unfold AS.step
  by_cases h1 : kd = 1
  · subst h1; exact asks0_alloc h hX hm b i v x
  rw [if_neg h1]
  by_cases h2 : kd = 2
  · subst h2; exact asks0_free h hX hwb i v x
  rw [if_neg h2]
  by_cases h3 : kd = 3
  · subst h3; exact asks0_load h hX hwb i v x
  rw [if_neg h3]
  by_cases h4 : kd = 4
  · subst h4; exact asks0_store h hX hwb i v x
  rw [if_neg h4]
  by_cases h5 : kd = 5
  · subst h5; exact asks0_swap h hX hwb i v x
  rw [if_neg h5]
  by_cases h6 : kd = 6
  · subst h6; exact asks0_add h hX hwb i v x
  rw [if_neg h6]
  by_cases h7 : kd = 7
  · subst h7; exact asks0_size h hX hwb i v x
  rw [if_neg h7]
  exact asks0_other h (by simpa using h1) (by simpa using h2) (by simpa using h3) (by simpa using h4) (by simpa using h5) (by simpa using h6) (by simpa using h7) b i v x

end Go.Proofs.Ytbgbknbfleiakaa
