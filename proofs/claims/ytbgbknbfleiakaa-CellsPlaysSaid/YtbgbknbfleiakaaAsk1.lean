/-
  One call of a statement's script where the document's list is empty: the arena takes the step of that call, and all that is said to be kept is kept. Condition: fewer than 2^62 blocks were made.
-/
import Derived.Test.YtbgbknbfleiakaaAsk0
namespace Go.Proofs.Ytbgbknbfleiakaa
open Go.RowKit Go.Maps

def opv (kd b i v x : Int) : Value := .agg #[.int .i64 kd, .int .i64 b, .int .i64 i, .int .i64 v, .int .i64 x]
def opc (kd b i v x : Int) : Array Value := #[.int .i64 kd, .int .i64 b, .int .i64 i, .int .i64 v, .int .i64 x]

/-- More is protected: blocks that are newer than the arena's. -/
theorem Arena.more {w : World} {X : Nat → Prop} {pa : Nat} {S : AS} (h : Arena w X pa S) (n : Nat) : Arena w (fun k => X k ∨ (w.heap.size ≤ k ∧ k < n)) pa S :=
  h.less (fun k hk hy => by rcases hy with h | h; exact h; omega)

/-- What a step of the script leaves. -/
def Done (w : World) (X : Nat → Prop) (pa : Nat) (S : AS) (e : Ending) (w' : World) : Prop := (∃ u, e = .returned u) ∧ Arena w' X pa S ∧ Keep X w w'
/-- .. and a call of a cell. -/
def Took (w : World) (X : Nat → Prop) (pa : Nat) (S : AS) (e : Ending) (w' : World) : Prop := (∃ ok, e = .returned (.tuple #[M1, .bool ok])) ∧ Arena w' X pa S ∧ Keep X w w'

theorem box3 {w w1 : World} {m o r : Array Value} (b1 : Below (((w.alloc (.cells m 28)).alloc (.cells o 31)).alloc (.cells r 28)).heap.size (((w.alloc (.cells m 28)).alloc (.cells o 31)).alloc (.cells r 28)) w1) :
    Blk w1 w.heap.size 28 m ∧ Blk w1 (w.heap.size + 1) 31 o ∧ Blk w1 (w.heap.size + 2) 28 r ∧ w.heap.size + 3 ≤ w1.heap.size ∧ Below w.heap.size w w1 := by
  have hM := (((Blk.new w 28 m).alloc (.cells o 31)).alloc (.cells r 28)).below b1 (by simp; omega)
  have hO := ((Blk.new (w.alloc (.cells m 28)) 31 o).alloc (.cells r 28)).below b1 (by simp)
  have hR := (Blk.new ((w.alloc (.cells m 28)).alloc (.cells o 31)) 28 r).below b1 (by simp)
  simp only [World.size_alloc] at hO hR
  refine ⟨hM, hO, hR, by have := b1.size; simp at this; omega, ?_⟩
  exact ((((Below.refl _ _).alloc (Nat.le_refl _) _).alloc (by simp) _).alloc (by simp; omega) _).trans (b1.mono (by simp; omega))

set_option maxHeartbeats 1000000 in
set_option maxRecDepth 100000 in
theorem cell0_load {w : World} {X : Nat → Prop} {pa : Nat} {S : AS} (h : Arena w X pa S) (hX : ∀ k, w.heap.size ≤ k → ¬ X k) {b : Int} (hwb : (ik b).wf = true) (i v x : Int) :
    Calls Try.prog 26 #[.pointer (some ⟨pa, 0, none⟩), M0, .agg #[.int .i64 3, .int .i64 b, .int .i64 i, .int .i64 v, .int .i64 x]] w (Took w X pa (S.touch b)) := by
  have HX := Lib.hid hX; clear hX
  have HA := Lib.hid h; clear h
  have HWB := Lib.hid hwb; clear hwb
  go_enter Try.func26, Try.ntmps26
  go_wp2_with fail
  refine (reach0 _ _ _).mono ?_
  rintro e w1 ⟨rfl, b1⟩
  obtain ⟨_, hO, hR, n1, hb1⟩ := box3 b1
  have hO2 := hO.alloc (.cells #[.slice none 0 0, .int .i64 0, .int .i64 1] 28)
  have hR2 := hR.alloc (.cells #[.slice none 0 0, .int .i64 0, .int .i64 1] 28)
  have hN2 := Blk.new w1 28 #[.slice none 0 0, .int .i64 0, .int .i64 1]
  have hb2 := hb1.alloc (by omega) (.cells #[.slice none 0 0, .int .i64 0, .int .i64 1] 28)
  have hA2 := (HA.out.more (w1.heap.size + 1)).below hb2
  obtain ⟨o0, o1, o2, o3, o4⟩ := hO2.five
  have HB2 := Lib.hid hb2
  have HA2 := Lib.hid hA2; clear hA2
  have HR2 := Lib.hid hR2; clear hR2
  have HN2 := Lib.hid hN2; clear hN2
  have HN1 := Lib.hid n1; clear n1
  clear hO hR hO2 hb1 hb2 b1
  go_wp2_with fail
  refine (load_any HA2.out HWB.out i).mono ?_
  rintro e w3 ⟨rfl, a3, k3⟩
  have n1 := HN1.out
  have hR3 := HR2.out.keep k3 (.inr ⟨by omega, by omega⟩)
  have hN3 := HN2.out.keep k3 (.inr ⟨by omega, by omega⟩)
  obtain ⟨c0, c1, c2, _⟩ := hN3.three
  obtain ⟨r0, r1, r2, g0, g1, g2⟩ := hR3.three
  have hF := ((hR3.set_ 0 (.slice none 0 0)).set_ 1 (.int .i64 0)).set_ 2 (.int .i64 1)
  obtain ⟨q0, q1, q2, _⟩ := hF.three
  have HA3 := Lib.hid a3; clear a3
  have HK3 := Lib.hid k3; clear k3
  clear hR3 hN3 hF n1
  generalize S.err b i = er
  generalize S.val b i = re
  go_wp2_with fail
  all_goals
    refine bodyPost_ret (by simp [results, Try.results26, go_sem, q0, q1, q2]; rfl) rfl ?_
    refine ⟨⟨_, rfl⟩, ?_, ?_⟩
    · have n1 := HN1.out
      refine Arena.less (X := fun k => X k ∨ (w.heap.size ≤ k ∧ k < w1.heap.size + 1)) ?_ (fun k _ hk => .inl hk)
      refine arena_set (arena_set (arena_set HA3.out ?_) ?_) ?_
      all_goals exact .inr ⟨by omega, by omega⟩
    · have hx := HX.out (w.heap.size + 1 + 1) (by omega)
      refine keep_set (keep_set (keep_set ?_ hx) hx) hx
      refine (Keep.ofBelow HB2.out (fun k hk => ?_)).trans (HK3.out.less (fun k hk => .inl hk))
      rcases Nat.lt_or_ge k w.heap.size with hlt | hge
      · exact hlt
      · exact absurd hk (HX.out k hge)

set_option maxHeartbeats 1000000 in
set_option maxRecDepth 100000 in
theorem cell0_store {w : World} {X : Nat → Prop} {pa : Nat} {S : AS} (h : Arena w X pa S) (hX : ∀ k, w.heap.size ≤ k → ¬ X k) {b : Int} (hwb : (ik b).wf = true) (i v x : Int) :
    Calls Try.prog 26 #[.pointer (some ⟨pa, 0, none⟩), M0, .agg #[.int .i64 4, .int .i64 b, .int .i64 i, .int .i64 v, .int .i64 x]] w (Took w X pa (S.storeAt b i v)) := by
  have HX := Lib.hid hX; clear hX
  have HA := Lib.hid h; clear h
  have HWB := Lib.hid hwb; clear hwb
  go_enter Try.func26, Try.ntmps26
  go_wp2_with fail
  refine (reach0 _ _ _).mono ?_
  rintro e w1 ⟨rfl, b1⟩
  obtain ⟨_, hO, hR, n1, hb1⟩ := box3 b1
  have hO2 := hO.alloc (.cells #[.slice none 0 0, .int .i64 0, .int .i64 1] 28)
  have hR2 := hR.alloc (.cells #[.slice none 0 0, .int .i64 0, .int .i64 1] 28)
  have hN2 := Blk.new w1 28 #[.slice none 0 0, .int .i64 0, .int .i64 1]
  have hb2 := hb1.alloc (by omega) (.cells #[.slice none 0 0, .int .i64 0, .int .i64 1] 28)
  have hA2 := (HA.out.more (w1.heap.size + 1)).below hb2
  obtain ⟨o0, o1, o2, o3, o4⟩ := hO2.five
  have HB2 := Lib.hid hb2
  have HA2 := Lib.hid hA2; clear hA2
  have HR2 := Lib.hid hR2; clear hR2
  have HN2 := Lib.hid hN2; clear hN2
  have HN1 := Lib.hid n1; clear n1
  clear hO hR hO2 hb1 hb2 b1
  go_wp2_with fail
  refine (store_any HA2.out HWB.out i v).mono ?_
  rintro e w3 ⟨rfl, a3, k3⟩
  have n1 := HN1.out
  have hR3 := HR2.out.keep k3 (.inr ⟨by omega, by omega⟩)
  have hN3 := HN2.out.keep k3 (.inr ⟨by omega, by omega⟩)
  obtain ⟨c0, c1, c2, _⟩ := hN3.three
  obtain ⟨r0, r1, r2, g0, g1, g2⟩ := hR3.three
  have hF := ((hR3.set_ 0 (.slice none 0 0)).set_ 1 (.int .i64 0)).set_ 2 (.int .i64 1)
  obtain ⟨q0, q1, q2, _⟩ := hF.three
  have HA3 := Lib.hid a3; clear a3
  have HK3 := Lib.hid k3; clear k3
  clear hR3 hN3 hF n1
  generalize S.err b i = er
  go_wp2_with fail
  all_goals
    refine bodyPost_ret (by simp [results, Try.results26, go_sem, q0, q1, q2]; rfl) rfl ?_
    refine ⟨⟨_, rfl⟩, ?_, ?_⟩
    · have n1 := HN1.out
      refine Arena.less (X := fun k => X k ∨ (w.heap.size ≤ k ∧ k < w1.heap.size + 1)) ?_ (fun k _ hk => .inl hk)
      refine arena_set (arena_set (arena_set HA3.out ?_) ?_) ?_
      all_goals exact .inr ⟨by omega, by omega⟩
    · have hx := HX.out (w.heap.size + 1 + 1) (by omega)
      refine keep_set (keep_set (keep_set ?_ hx) hx) hx
      refine (Keep.ofBelow HB2.out (fun k hk => ?_)).trans (HK3.out.less (fun k hk => .inl hk))
      rcases Nat.lt_or_ge k w.heap.size with hlt | hge
      · exact hlt
      · exact absurd hk (HX.out k hge)

set_option maxHeartbeats 1000000 in
set_option maxRecDepth 100000 in
theorem cell0_swap {w : World} {X : Nat → Prop} {pa : Nat} {S : AS} (h : Arena w X pa S) (hX : ∀ k, w.heap.size ≤ k → ¬ X k) {b : Int} (hwb : (ik b).wf = true) (i v x : Int) :
    Calls Try.prog 26 #[.pointer (some ⟨pa, 0, none⟩), M0, .agg #[.int .i64 5, .int .i64 b, .int .i64 i, .int .i64 v, .int .i64 x]] w (Took w X pa (S.swapAt b i v x)) := by
  have HX := Lib.hid hX; clear hX
  have HA := Lib.hid h; clear h
  have HWB := Lib.hid hwb; clear hwb
  go_enter Try.func26, Try.ntmps26
  go_wp2_with fail
  refine (reach0 _ _ _).mono ?_
  rintro e w1 ⟨rfl, b1⟩
  obtain ⟨_, hO, hR, n1, hb1⟩ := box3 b1
  have hO2 := hO.alloc (.cells #[.slice none 0 0, .int .i64 0, .int .i64 1] 28)
  have hR2 := hR.alloc (.cells #[.slice none 0 0, .int .i64 0, .int .i64 1] 28)
  have hN2 := Blk.new w1 28 #[.slice none 0 0, .int .i64 0, .int .i64 1]
  have hb2 := hb1.alloc (by omega) (.cells #[.slice none 0 0, .int .i64 0, .int .i64 1] 28)
  have hA2 := (HA.out.more (w1.heap.size + 1)).below hb2
  obtain ⟨o0, o1, o2, o3, o4⟩ := hO2.five
  have HB2 := Lib.hid hb2
  have HA2 := Lib.hid hA2; clear hA2
  have HR2 := Lib.hid hR2; clear hR2
  have HN2 := Lib.hid hN2; clear hN2
  have HN1 := Lib.hid n1; clear n1
  clear hO hR hO2 hb1 hb2 b1
  go_wp2_with fail
  refine (swap_any HA2.out HWB.out i v x).mono ?_
  rintro e w3 ⟨rfl, a3, k3⟩
  have n1 := HN1.out
  have hR3 := HR2.out.keep k3 (.inr ⟨by omega, by omega⟩)
  have hN3 := HN2.out.keep k3 (.inr ⟨by omega, by omega⟩)
  obtain ⟨c0, c1, c2, _⟩ := hN3.three
  obtain ⟨r0, r1, r2, g0, g1, g2⟩ := hR3.three
  have hF := ((hR3.set_ 0 (.slice none 0 0)).set_ 1 (.int .i64 0)).set_ 2 (.int .i64 1)
  obtain ⟨q0, q1, q2, _⟩ := hF.three
  have HA3 := Lib.hid a3; clear a3
  have HK3 := Lib.hid k3; clear k3
  clear hR3 hN3 hF n1
  generalize S.err b i = er
  generalize S.swapOk b i v = re
  go_wp2_with fail
  all_goals
    refine bodyPost_ret (by simp [results, Try.results26, go_sem, q0, q1, q2]; rfl) rfl ?_
    refine ⟨⟨_, rfl⟩, ?_, ?_⟩
    · have n1 := HN1.out
      refine Arena.less (X := fun k => X k ∨ (w.heap.size ≤ k ∧ k < w1.heap.size + 1)) ?_ (fun k _ hk => .inl hk)
      refine arena_set (arena_set (arena_set HA3.out ?_) ?_) ?_
      all_goals exact .inr ⟨by omega, by omega⟩
    · have hx := HX.out (w.heap.size + 1 + 1) (by omega)
      refine keep_set (keep_set (keep_set ?_ hx) hx) hx
      refine (Keep.ofBelow HB2.out (fun k hk => ?_)).trans (HK3.out.less (fun k hk => .inl hk))
      rcases Nat.lt_or_ge k w.heap.size with hlt | hge
      · exact hlt
      · exact absurd hk (HX.out k hge)

set_option maxHeartbeats 1000000 in
set_option maxRecDepth 100000 in
theorem cell0_add {w : World} {X : Nat → Prop} {pa : Nat} {S : AS} (h : Arena w X pa S) (hX : ∀ k, w.heap.size ≤ k → ¬ X k) {b : Int} (hwb : (ik b).wf = true) (i v x : Int) :
    Calls Try.prog 26 #[.pointer (some ⟨pa, 0, none⟩), M0, .agg #[.int .i64 6, .int .i64 b, .int .i64 i, .int .i64 v, .int .i64 x]] w (Took w X pa (S.addAt b i v)) := by
  have HX := Lib.hid hX; clear hX
  have HA := Lib.hid h; clear h
  have HWB := Lib.hid hwb; clear hwb
  go_enter Try.func26, Try.ntmps26
  go_wp2_with fail
  refine (reach0 _ _ _).mono ?_
  rintro e w1 ⟨rfl, b1⟩
  obtain ⟨_, hO, hR, n1, hb1⟩ := box3 b1
  have hO2 := hO.alloc (.cells #[.slice none 0 0, .int .i64 0, .int .i64 1] 28)
  have hR2 := hR.alloc (.cells #[.slice none 0 0, .int .i64 0, .int .i64 1] 28)
  have hN2 := Blk.new w1 28 #[.slice none 0 0, .int .i64 0, .int .i64 1]
  have hb2 := hb1.alloc (by omega) (.cells #[.slice none 0 0, .int .i64 0, .int .i64 1] 28)
  have hA2 := (HA.out.more (w1.heap.size + 1)).below hb2
  obtain ⟨o0, o1, o2, o3, o4⟩ := hO2.five
  have HB2 := Lib.hid hb2
  have HA2 := Lib.hid hA2; clear hA2
  have HR2 := Lib.hid hR2; clear hR2
  have HN2 := Lib.hid hN2; clear hN2
  have HN1 := Lib.hid n1; clear n1
  clear hO hR hO2 hb1 hb2 b1
  go_wp2_with fail
  refine (add_any HA2.out HWB.out i v).mono ?_
  rintro e w3 ⟨rfl, a3, k3⟩
  have n1 := HN1.out
  have hR3 := HR2.out.keep k3 (.inr ⟨by omega, by omega⟩)
  have hN3 := HN2.out.keep k3 (.inr ⟨by omega, by omega⟩)
  obtain ⟨c0, c1, c2, _⟩ := hN3.three
  obtain ⟨r0, r1, r2, g0, g1, g2⟩ := hR3.three
  have hF := ((hR3.set_ 0 (.slice none 0 0)).set_ 1 (.int .i64 0)).set_ 2 (.int .i64 1)
  obtain ⟨q0, q1, q2, _⟩ := hF.three
  have HA3 := Lib.hid a3; clear a3
  have HK3 := Lib.hid k3; clear k3
  clear hR3 hN3 hF n1
  generalize S.err b i = er
  generalize S.addVal b i v = re
  go_wp2_with fail
  all_goals
    refine bodyPost_ret (by simp [results, Try.results26, go_sem, q0, q1, q2]; rfl) rfl ?_
    refine ⟨⟨_, rfl⟩, ?_, ?_⟩
    · have n1 := HN1.out
      refine Arena.less (X := fun k => X k ∨ (w.heap.size ≤ k ∧ k < w1.heap.size + 1)) ?_ (fun k _ hk => .inl hk)
      refine arena_set (arena_set (arena_set HA3.out ?_) ?_) ?_
      all_goals exact .inr ⟨by omega, by omega⟩
    · have hx := HX.out (w.heap.size + 1 + 1) (by omega)
      refine keep_set (keep_set (keep_set ?_ hx) hx) hx
      refine (Keep.ofBelow HB2.out (fun k hk => ?_)).trans (HK3.out.less (fun k hk => .inl hk))
      rcases Nat.lt_or_ge k w.heap.size with hlt | hge
      · exact hlt
      · exact absurd hk (HX.out k hge)

end Go.Proofs.Ytbgbknbfleiakaa
