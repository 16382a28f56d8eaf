/-
  The document's example of layer 2, called by every statement, answers true and leaves all older memory as it was. No condition.
-/
import Derived.Test.YtbgbknbfleiakaaOps3
namespace Go.Proofs.Ytbgbknbfleiakaa
open Go.RowKit Go.Maps

def A0 : AS := ⟨4, 0, 0, 0, []⟩
def A1 : AS := ⟨4, 3, 1, 0, [(1, [0, 0, 0])]⟩
def A2 : AS := ⟨4, 3, 1, 0, [(1, [7, 0, 0])]⟩
def A3 : AS := ⟨4, 3, 1, 0, [(1, [5, 0, 0])]⟩
def A4 : AS := ⟨4, 0, 1, 0, []⟩
def A5 : AS := ⟨4, 0, 1, 1, []⟩
def A6 : AS := ⟨4, 2, 2, 1, [(2, [0, 0])]⟩
section
variable {w : World} {X : Nat → Prop} {pa : Nat}
theorem st0 (hX : ∀ k, w.heap.size ≤ k → ¬ X k) : Calls Try.prog 8 #[.int .i64 4] w fun e w' => e = .returned (.pointer (some ⟨w.heap.size + 1, 0, none⟩)) ∧ Arena w' X (w.heap.size + 1) A0 ∧ Below w.heap.size w w' := new_any 4 w X hX
theorem st1 (h : Arena w X pa A0) (hX : ∀ k, w.heap.size ≤ k → ¬ X k) : Calls Try.prog 19 #[.pointer (some ⟨pa, 0, none⟩), .int .i64 3] w fun e w' => e = .returned (.tuple #[.int .i64 1, .int .i64 0]) ∧ Arena w' X pa A1 ∧ Keep X w w' := alloc_any h 3 (by decide) hX
theorem st2 (h : Arena w X pa A1) (hX : ∀ k, w.heap.size ≤ k → ¬ X k) : Calls Try.prog 19 #[.pointer (some ⟨pa, 0, none⟩), .int .i64 2] w fun e w' => e = .returned (.tuple #[.int .i64 0, .int .i64 21]) ∧ Arena w' X pa A1 ∧ Keep X w w' := alloc_any h 2 (by decide) hX
theorem st3 (h : Arena w X pa A1) : Calls Try.prog 21 #[.pointer (some ⟨pa, 0, none⟩), .int .i64 1, .int .i64 0, .int .i64 0, .int .i64 7] w fun e w' => e = .returned (.tuple #[.bool true, .int .i64 0]) ∧ Arena w' X pa A2 ∧ Keep X w w' := swap_any h (b := 1) (by decide) 0 0 7
theorem st4 (h : Arena w X pa A2) : Calls Try.prog 22 #[.pointer (some ⟨pa, 0, none⟩), .int .i64 1, .int .i64 0, .int .i64 (-2)] w fun e w' => e = .returned (.tuple #[.int .i64 5, .int .i64 0]) ∧ Arena w' X pa A3 ∧ Keep X w w' := by
  have hw : wrap64 (7 + -2) = 5 := by unfold wrap64; decide
  have e1 : A2.addVal 1 0 (-2) = wrap64 (7 + -2) := rfl
  have e2 : A2.addAt 1 0 (-2) = ⟨4, 3, 1, 0, [(1, [wrap64 (7 + -2), 0, 0])]⟩ := rfl
  have := add_any h (b := 1) (by decide) 0 (-2)
  rw [e1, e2, hw] at this
  exact this
theorem st5 (h : Arena w X pa A3) : Calls Try.prog 18 #[.pointer (some ⟨pa, 0, none⟩), .int .i64 1] w fun e w' => e = .returned (.int .i64 0) ∧ Arena w' X pa A4 ∧ Keep X w w' := free_any h (b := 1) (by decide)
theorem st6 (h : Arena w X pa A4) : Calls Try.prog 17 #[.pointer (some ⟨pa, 0, none⟩), .int .i64 1, .int .i64 0] w fun e w' => e = .returned (.tuple #[.int .i64 0, .int .i64 20]) ∧ Arena w' X pa A5 ∧ Keep X w w' := by
  have hw : wrap64 (0 + 1) = 1 := by unfold wrap64; decide
  have e2 : A4.touch 1 = ⟨4, 0, 1, wrap64 (0 + 1), []⟩ := rfl
  have := load_any h (b := 1) (by decide) 0
  rw [e2, hw] at this
  exact this
theorem st7 (h : Arena w X pa A5) (hX : ∀ k, w.heap.size ≤ k → ¬ X k) : Calls Try.prog 19 #[.pointer (some ⟨pa, 0, none⟩), .int .i64 2] w fun e w' => e = .returned (.tuple #[.int .i64 2, .int .i64 0]) ∧ Arena w' X pa A6 ∧ Keep X w w' := alloc_any h 2 (by decide) hX
theorem st8 (h : Arena w X pa A6) : Calls Try.prog 16 #[.pointer (some ⟨pa, 0, none⟩), .int .i64 2] w fun e w' => e = .returned (.tuple #[.int .i64 2, .int .i64 0]) ∧ Arena w' X pa A6 ∧ Keep X w w' := size_any h (b := 2) (by decide)
theorem st9 (h : Arena w X pa A6) : Calls Try.prog 15 #[.pointer (some ⟨pa, 0, none⟩)] w fun e w' => e = .returned (.int .i64 1) ∧ w = w' := faults_any h
theorem st10 (h : Arena w X pa A6) : Calls Try.prog 14 #[.pointer (some ⟨pa, 0, none⟩)] w fun e w' => e = .returned (.int .i64 2) ∧ w = w' := made_any h
end

theorem alive_any (w : World) : Calls Try.prog 9 #[] w fun e w' => e = .returned (.bool true) ∧ Below w.heap.size w w' := by
  have hX : ∀ W : World, w.heap.size ≤ W.heap.size → ∀ k, W.heap.size ≤ k → ¬ k < w.heap.size := fun W h k hk => by omega
  have HX := Lib.hid hX; clear hX
  go_enter Try.func9, Try.ntmps9
  go_wp2_with fail
  refine (st0 (X := fun k => k < w.heap.size) (HX.out _ (Nat.le_refl _))).mono ?_
  rintro e w1 ⟨rfl, a1, b1⟩
  have z1 := b1.size
  go_wp2_with fail
  refine (st1 a1 (HX.out _ (by omega))).mono ?_
  rintro e w2 ⟨rfl, a2, k2⟩
  have z2 := k2.size
  go_wp2_with fail
  refine (st2 a2 (HX.out _ (by omega))).mono ?_
  rintro e w3 ⟨rfl, a3, k3⟩
  have z3 := k3.size
  go_wp2_with fail
  refine (st3 a3).mono ?_
  rintro e w4 ⟨rfl, a4, k4⟩
  have z4 := k4.size
  go_wp2_with fail
  refine (st4 a4).mono ?_
  rintro e w5 ⟨rfl, a5, k5⟩
  have z5 := k5.size
  go_wp2_with fail
  refine (st5 a5).mono ?_
  rintro e w6 ⟨rfl, a6, k6⟩
  have z6 := k6.size
  go_wp2_with fail
  refine (st6 a6).mono ?_
  rintro e w7 ⟨rfl, a7, k7⟩
  have z7 := k7.size
  go_wp2_with fail
  refine (st7 a7 (HX.out _ (by omega))).mono ?_
  rintro e w8 ⟨rfl, a8, k8⟩
  have z8 := k8.size
  go_wp2_with fail
  refine (st8 a8).mono ?_
  rintro e w9 ⟨rfl, a9, k9⟩
  go_wp2_with fail
  refine (st9 a9).mono ?_
  rintro e w10 ⟨rfl, rfl⟩
  go_wp2_with fail
  refine (st10 a9).mono ?_
  rintro e w10 ⟨rfl, rfl⟩
  go_wp2_with fail
  go_ret
  refine ⟨rfl, b1.trans ?_⟩
  exact ((((((((k2.trans k3).trans k4).trans k5).trans k6).trans k7).trans k8).trans k9).toBelow (fun _ hk => hk) z1)

end Go.Proofs.Ytbgbknbfleiakaa
