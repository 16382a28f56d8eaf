/-
  The statements' own example of the layer ('alive'): it answers true. No condition.
-/
import Derived.Test.YtlmgojnhmdppnaaSc7
namespace Go.Proofs.Ytlmgojnhmdppnaa
open Go.RowKit Go.Maps
set_option linter.unusedVariables false

def e0 : ZS := ⟨2, 0, [], 0, 0⟩
def e1 : ZS := ⟨2, 1, [⟨1, 1, 0⟩], 0, 0⟩
def e2 : ZS := ⟨2, 2, [⟨1, 1, 0⟩, ⟨2, 1, 0⟩], 0, 0⟩
def e3 : ZS := ⟨2, 2, [⟨1, 2, 7⟩, ⟨2, 1, 0⟩], 0, 0⟩
def e4 : ZS := ⟨2, 2, [⟨1, 2, 7⟩, ⟨2, 1, 0⟩], 1, 0⟩
def e5 : ZS := ⟨2, 2, [⟨1, 2, 7⟩, ⟨2, 1, 0⟩], 1, 1⟩
def e6 : ZS := ⟨2, 2, [⟨1, 1, 7⟩, ⟨2, 1, 0⟩], 1, 1⟩
def e7 : ZS := ⟨2, 2, [⟨1, 1, 7⟩, ⟨2, 1, 0⟩], 1, 2⟩
def e8 : ZS := ⟨2, 2, [⟨1, 1, 7⟩, ⟨2, 3, 0⟩], 1, 2⟩
def e9 : ZS := ⟨2, 2, [⟨1, 1, 7⟩], 1, 2⟩
def e10 : ZS := ⟨2, 3, [⟨1, 1, 7⟩, ⟨3, 1, 0⟩], 1, 2⟩

theorem al1 {w : World} {X : Nat → Prop} {ps : Nat} (h : Zd w X ps e0) (hX : ∀ k, w.heap.size ≤ k → ¬ X k) : Calls Try.prog 52 #[.pointer (some ⟨ps, 0, none⟩)] w fun e w' => e = .returned (.tuple #[.int .i64 1, .int .i64 0]) ∧ Zd w' X ps e1 ∧ Keep X w w' :=
  spawn_any h hX (by decide)
theorem al2 {w : World} {X : Nat → Prop} {ps : Nat} (h : Zd w X ps e1) (hX : ∀ k, w.heap.size ≤ k → ¬ X k) : Calls Try.prog 52 #[.pointer (some ⟨ps, 0, none⟩)] w fun e w' => e = .returned (.tuple #[.int .i64 2, .int .i64 0]) ∧ Zd w' X ps e2 ∧ Keep X w w' :=
  spawn_any h hX (by decide)
theorem al3 {w : World} {X : Nat → Prop} {ps : Nat} (h : Zd w X ps e2) (hX : ∀ k, w.heap.size ≤ k → ¬ X k) : Calls Try.prog 49 #[.pointer (some ⟨ps, 0, none⟩), .int .i64 1, .int .i64 7] w fun e w' => e = .returned (.int .i64 0) ∧ Zd w' X ps e3 ∧ Keep X w w' :=
  block_any h 1 7
theorem al4 {w : World} {X : Nat → Prop} {ps : Nat} (h : Zd w X ps e3) (hX : ∀ k, w.heap.size ≤ k → ¬ X k) : Calls Try.prog 50 #[.pointer (some ⟨ps, 0, none⟩), .int .i64 1] w fun e w' => e = .returned (.bool false) ∧ Zd w' X ps e4 ∧ Keep X w w' := by
  have c := pick_any h 1
  rw [show (stOf e3.ths 1 == 1) = false from by kernel_rfl, show e3.pick 1 = e4 from by kernel_rfl] at c
  exact c
theorem al5 {w : World} {X : Nat → Prop} {ps : Nat} (h : Zd w X ps e4) (hX : ∀ k, w.heap.size ≤ k → ¬ X k) : Calls Try.prog 50 #[.pointer (some ⟨ps, 0, none⟩), .int .i64 2] w fun e w' => e = .returned (.bool true) ∧ Zd w' X ps e5 ∧ Keep X w w' := by
  have c := pick_any h 2
  rw [show (stOf e4.ths 2 == 1) = true from by kernel_rfl, show e4.pick 2 = e5 from by kernel_rfl] at c
  exact c
theorem al6 {w : World} {X : Nat → Prop} {ps : Nat} (h : Zd w X ps e5) (hX : ∀ k, w.heap.size ≤ k → ¬ X k) : Calls Try.prog 51 #[.pointer (some ⟨ps, 0, none⟩), .int .i64 7] w fun e w' => e = .returned (.int .i64 1) ∧ Zd w' X ps e6 ∧ Keep X w w' :=
  wake_any h 7
theorem al7 {w : World} {X : Nat → Prop} {ps : Nat} (h : Zd w X ps e6) (hX : ∀ k, w.heap.size ≤ k → ¬ X k) : Calls Try.prog 50 #[.pointer (some ⟨ps, 0, none⟩), .int .i64 1] w fun e w' => e = .returned (.bool true) ∧ Zd w' X ps e7 ∧ Keep X w w' := by
  have c := pick_any h 1
  rw [show (stOf e6.ths 1 == 1) = true from by kernel_rfl, show e6.pick 1 = e7 from by kernel_rfl] at c
  exact c
theorem al8 {w : World} {X : Nat → Prop} {ps : Nat} (h : Zd w X ps e7) (hX : ∀ k, w.heap.size ≤ k → ¬ X k) : Calls Try.prog 53 #[.pointer (some ⟨ps, 0, none⟩), .int .i64 2] w fun e w' => e = .returned (.int .i64 0) ∧ Zd w' X ps e8 ∧ Keep X w w' :=
  stop_any h 2
theorem al9 {w : World} {X : Nat → Prop} {ps : Nat} (h : Zd w X ps e8) (hX : ∀ k, w.heap.size ≤ k → ¬ X k) : Calls Try.prog 54 #[.pointer (some ⟨ps, 0, none⟩), .int .i64 2] w fun e w' => e = .returned (.int .i64 0) ∧ Zd w' X ps e9 ∧ Keep X w w' :=
  free_any h 2
theorem al10 {w : World} {X : Nat → Prop} {ps : Nat} (h : Zd w X ps e9) (hX : ∀ k, w.heap.size ≤ k → ¬ X k) : Calls Try.prog 52 #[.pointer (some ⟨ps, 0, none⟩)] w fun e w' => e = .returned (.tuple #[.int .i64 3, .int .i64 0]) ∧ Zd w' X ps e10 ∧ Keep X w w' :=
  spawn_any h hX (by decide)
theorem al11 {w : World} {X : Nat → Prop} {ps : Nat} (h : Zd w X ps e10) : Calls Try.prog 45 #[.pointer (some ⟨ps, 0, none⟩), .int .i64 2] w fun e w' => e = .returned (.int .i64 0) ∧ Below w.heap.size w w' := state_any h 2

set_option maxRecDepth 100000 in
set_option maxHeartbeats 2000000 in
theorem alive_any (w : World) : Calls Try.prog 40 #[] w fun e w' => e = .returned (.bool true) ∧ Below w.heap.size w w' := by
  have hX : ∀ W : World, w.heap.size ≤ W.heap.size → ∀ k, W.heap.size ≤ k → ¬ k < w.heap.size := fun W h k hk => by omega
  have HX := Lib.hid hX; clear hX
  go_enter Try.func40, Try.ntmps40
  go_wp2_with fail
  refine (new_sched 2 w (X := fun k => k < w.heap.size) (by omega)).mono ?_
  rintro e w1 ⟨rfl, a1, b1⟩
  have z1 := b1.size
  have K1 : Hid (Keep (fun k => k < w.heap.size) w w1) := Lib.hid (Keep.ofBelow0 b1)
  clear b1
  change Zd w1 (fun k => k < w.heap.size) w.heap.size e0 at a1
  go_wp2_with fail
  refine (al1 a1 (HX.out _ (by omega))).mono ?_
  rintro e w2 ⟨rfl, a2, k2⟩
  have z2 := k2.size
  have K2 := Lib.hid (K1.out.trans k2); clear k2 a1 K1
  go_wp2_with fail
  refine (al2 a2 (HX.out _ (by omega))).mono ?_
  rintro e w3 ⟨rfl, a3, k3⟩
  have z3 := k3.size
  have K3 := Lib.hid (K2.out.trans k3); clear k3 a2 K2
  go_wp2_with fail
  refine (al3 a3 (HX.out _ (by omega))).mono ?_
  rintro e w4 ⟨rfl, a4, k4⟩
  have z4 := k4.size
  have K4 := Lib.hid (K3.out.trans k4); clear k4 a3 K3
  go_wp2_with fail
  refine (al4 a4 (HX.out _ (by omega))).mono ?_
  rintro e w5 ⟨rfl, a5, k5⟩
  have z5 := k5.size
  have K5 := Lib.hid (K4.out.trans k5); clear k5 a4 K4
  go_wp2_with fail
  refine (al5 a5 (HX.out _ (by omega))).mono ?_
  rintro e w6 ⟨rfl, a6, k6⟩
  have z6 := k6.size
  have K6 := Lib.hid (K5.out.trans k6); clear k6 a5 K5
  go_wp2_with fail
  refine (al6 a6 (HX.out _ (by omega))).mono ?_
  rintro e w7 ⟨rfl, a7, k7⟩
  have z7 := k7.size
  have K7 := Lib.hid (K6.out.trans k7); clear k7 a6 K6
  go_wp2_with fail
  refine (al7 a7 (HX.out _ (by omega))).mono ?_
  rintro e w8 ⟨rfl, a8, k8⟩
  have z8 := k8.size
  have K8 := Lib.hid (K7.out.trans k8); clear k8 a7 K7
  go_wp2_with fail
  refine (al8 a8 (HX.out _ (by omega))).mono ?_
  rintro e w9 ⟨rfl, a9, k9⟩
  have z9 := k9.size
  have K9 := Lib.hid (K8.out.trans k9); clear k9 a8 K8
  go_wp2_with fail
  refine (al9 a9 (HX.out _ (by omega))).mono ?_
  rintro e w10 ⟨rfl, a10, k10⟩
  have z10 := k10.size
  have K10 := Lib.hid (K9.out.trans k10); clear k10 a9 K9
  go_wp2_with fail
  refine (al10 a10 (HX.out _ (by omega))).mono ?_
  rintro e w11 ⟨rfl, a11, k11⟩
  have z11 := k11.size
  have K11 := Lib.hid (K10.out.trans k11); clear k11 a10 K10
  go_wp2_with fail
  refine (al11 a11).mono ?_
  rintro e w12 ⟨rfl, b12⟩
  have K12 := Lib.hid (K11.out.trans (Keep.ofBelow0 b12)); clear b12 a11 K11
  go_wp2_with fail
  go_ret
  exact ⟨rfl, K12.out.toBelow (fun _ hk => hk) (Nat.le_refl _)⟩
end Go.Proofs.Ytlmgojnhmdppnaa
