/-
  The document's example of layer 4, called by every statement, answers true and leaves all older memory as it was. No condition.
-/
import Derived.Test.YtiiaajdkkofbjaaYret2
namespace Go.Proofs.Ytiiaajdkkofbjaa
open Go.RowKit Go.Maps

def cA : Nat → AS
  | 0 => ⟨50, 0, 0, 0, []⟩
  | k + 1 => (cA k).allocAt 2
def cY0 : YS := ⟨2, 4, 0, [0, 0, 0, 0, 0, 0, 0, 0, 0], []⟩
def cY1 : YS := ⟨2, 4, 1, [0, 1, 0, 0, 0, 0, 0, 0, 0], []⟩
def cY2 : YS := ⟨2, 4, 2, [0, 1, 0, 0, 0, 0, 0, 0, 0], [⟨5, 2, 2⟩]⟩
def cY3 : YS := ⟨2, 4, 3, [0, 1, 3, 0, 0, 0, 0, 0, 0], [⟨5, 2, 2⟩]⟩
def cY4 : YS := ⟨2, 4, 3, [0, 0, 3, 0, 0, 0, 0, 0, 0], [⟨5, 2, 2⟩]⟩
def cY5 : YS := ⟨2, 4, 3, [0, 0, 3, 0, 0, 0, 0, 0, 0], []⟩
def cA6 : AS := (cA 5).freeAt 5
def cA7 : AS := cA6.fault
section
variable {w : World} {X : Nat → Prop} {pa py : Nat}
theorem cs0 (hX : ∀ k, w.heap.size ≤ k → ¬ X k) : Calls Try.prog 10 #[.int .i64 50] w fun e w' => e = .returned (.pointer (some ⟨w.heap.size + 1, 0, none⟩)) ∧ Arena w' X (w.heap.size + 1) (cA 0) ∧ Below w.heap.size w w' := new_any 50 w X hX
theorem cs1 (k : Nat) (hk : k < 5) (h : Arena w X pa (cA k)) (hX : ∀ k, w.heap.size ≤ k → ¬ X k) : Calls Try.prog 24 #[.pointer (some ⟨pa, 0, none⟩), .int .i64 2] w fun e w' => (∃ b c, e = .returned (.tuple #[.int .i64 b, .int .i64 c])) ∧ Arena w' X pa (cA (k + 1)) ∧ Keep X w w' := by
  have hm : (cA k).made < 4611686018427387904 := by
    have : k = 0 ∨ k = 1 ∨ k = 2 ∨ k = 3 ∨ k = 4 := by omega
    rcases this with rfl | rfl | rfl | rfl | rfl <;> decide
  exact (alloc_any h 2 hm hX).mono fun _ _ ⟨h1, h2⟩ => ⟨⟨_, _, h1⟩, h2⟩
theorem cs2 (h : Arena w X pa (cA 5)) (hX : ∀ k, w.heap.size ≤ k → ¬ X k) : Calls Try.prog 23 #[.pointer (some ⟨pa, 0, none⟩), .int .i64 2, .int .i64 4] w fun e w' => e = .returned (.pointer (some ⟨w.heap.size, 0, none⟩)) ∧ Yd w' X pa w.heap.size cY0 (cA 5) ∧ Below w.heap.size w w' := ynew_any h hX 2 4
theorem cs3 (h : Yd w X pa py cY0 (cA 5)) : Calls Try.prog 26 #[.pointer (some ⟨py, 0, none⟩), .int .i64 1] w fun e w' => e = .returned (.int .i64 0) ∧ Yd w' X pa py cY1 (cA 5) ∧ Keep X w w' := enter_any h (by decide) 1
theorem cs4 (h : Yd w X pa py cY1 (cA 5)) (hX : ∀ k, w.heap.size ≤ k → ¬ X k) : Calls Try.prog 28 #[.pointer (some ⟨py, 0, none⟩), .int .i64 2, .int .i64 5] w fun e w' => e = .returned (.int .i64 0) ∧ Yd w' X pa py cY2 (cA 5) ∧ Keep X w w' := retire_any h (by decide) hX 2 5 (by decide)
theorem cs5 (h : Yd w X pa py cY2 (cA 5)) (hX : ∀ k, w.heap.size ≤ k → ¬ X k) : Calls Try.prog 33 #[.pointer (some ⟨py, 0, none⟩)] w fun e w' => e = .returned (.int .i64 0) ∧ Yd w' X pa py cY2 (cA 5) ∧ Keep X w w' := sweep_any h hX
theorem cs6 (h : Yd w X pa py cY2 (cA 5)) : Calls Try.prog 31 #[.pointer (some ⟨py, 0, none⟩)] w fun e w' => e = .returned (.slice (some ⟨w.heap.size, 0, none⟩) 1 1) ∧ Below w.heap.size w w' := (waiting_any h).mono fun _ _ ⟨h1, h2, _⟩ => ⟨h1, h2⟩
theorem cs7 (h : Yd w X pa py cY2 (cA 5)) : Calls Try.prog 26 #[.pointer (some ⟨py, 0, none⟩), .int .i64 2] w fun e w' => e = .returned (.int .i64 0) ∧ Yd w' X pa py cY3 (cA 5) ∧ Keep X w w' := enter_any h (by decide) 2
theorem cs8 (h : Yd w X pa py cY3 (cA 5)) : Calls Try.prog 32 #[.pointer (some ⟨py, 0, none⟩), .int .i64 1] w fun e w' => e = .returned (.int .i64 0) ∧ Yd w' X pa py cY4 (cA 5) ∧ Keep X w w' := leave_any h 1
theorem cs9 (h : Yd w X pa py cY4 (cA 5)) (hX : ∀ k, w.heap.size ≤ k → ¬ X k) : Calls Try.prog 33 #[.pointer (some ⟨py, 0, none⟩)] w fun e w' => e = .returned (.int .i64 1) ∧ Yd w' X pa py cY5 cA6 ∧ Keep X w w' := sweep_any h hX
theorem cs10 (h : Yd w X pa py cY5 cA6) : Calls Try.prog 52 #[.pointer (some ⟨pa, 0, none⟩), .int .i64 5, .int .i64 0] w fun e w' => e = .returned (.tuple #[.int .i64 0, .int .i64 20]) ∧ Yd w' X pa py cY5 cA7 ∧ Keep X w w' := by
  obtain ⟨Z, ha, _, hXZ, hb⟩ := h.arena
  refine (load_miss ha (b := 5) (by decide) (by decide) 0).mono ?_
  rintro e w' ⟨h1, h2, h3⟩
  exact ⟨h1, hb w' _ h2 h3, h3.less hXZ⟩
theorem cs11 (h : Yd w X pa py cY5 cA7) : Calls Try.prog 29 #[.pointer (some ⟨py, 0, none⟩), .int .i64 2] w fun e w' => e = .returned (.int .i64 0) ∧ Below w.heap.size w w' := limbo_any h 2
theorem cs12 (h : Yd w X pa py cY5 cA7) : Calls Try.prog 27 #[.pointer (some ⟨py, 0, none⟩)] w fun e w' => (∃ a c, e = .returned (.slice a 1 c)) ∧ Below w.heap.size w w' := by
  refine (inside_any h).mono ?_
  rintro e w' ⟨u, rfl, hb, ho⟩
  have hl : cY5.inside.length = 1 := by decide
  rw [hl] at ho
  refine ⟨?_, hb⟩
  rcases ho.2 with ⟨_, h0⟩ | ⟨g, cap, cur, hv, _⟩
  · omega
  · exact ⟨_, _, by rw [hv]⟩
end

set_option maxRecDepth 100000 in
set_option maxHeartbeats 2000000 in
theorem ealive_any (w : World) : Calls Try.prog 22 #[] w fun e w' => e = .returned (.bool true) ∧ Below w.heap.size w w' := by
  have hX : ∀ W : World, w.heap.size ≤ W.heap.size → ∀ k, W.heap.size ≤ k → ¬ k < w.heap.size := fun W h k hk => by omega
  have HX := Lib.hid hX; clear hX
  go_enter Try.func22, Try.ntmps22
  go_wp2_with fail
  refine (cs0 (X := fun k => k < w.heap.size) (HX.out _ (Nat.le_refl _))).mono ?_
  rintro e w1 ⟨rfl, a1, b1⟩
  have z1 := b1.size
  have HB1 := Lib.hid b1; clear b1
  have HA1 := Lib.hid a1; clear a1
  go_wp2_with fail
  go_loopw [2] (fun i wr => ∃ k : Nat, k ≤ 5 ∧ i = .int .i64 k ∧ Arena wr (fun k => k < w.heap.size) (w.heap.size + 1) (cA k) ∧ Keep (fun k => k < w.heap.size) w1 wr) (fun i _ => 5 - (intOf i).toNat)
  case atStart => exact ⟨0, by omega, rfl, HA1.out, Keep.refl _ _⟩
  case round =>
    obtain ⟨k, hk, rfl, ha, hkp⟩ := hrel
    have zr := hkp.size
    have HKP := Lib.hid hkp; clear hkp
    by_cases hlt : k < 5
    · have hc := cs1 k hlt ha (HX.out _ (by omega))
      have HC := Lib.hid hc; clear hc
      clear ha
      go_wp2_with fail
      refine HC.out.mono ?_
      rintro e w2 ⟨⟨b, c, rfl⟩, a2, k2⟩
      have HA2 := Lib.hid a2; clear a2
      have HK2 := Lib.hid (HKP.out.trans k2); clear k2
      go_wp2
      go_roundw
      case rel => exact ⟨k + 1, by omega, by go_num, HA2.out, HK2.out⟩
      case measure => simp [intOf]; omega
    · obtain rfl : k = 5 := by omega
      have HA := Lib.hid ha; clear ha
      go_wp2_with fail
      refine (cs2 HA.out (HX.out _ (by omega))).mono ?_
      rintro e w2 ⟨rfl, y2, b2⟩
      have z2 := b2.size
      have K2 := Lib.hid (HKP.out.trans (Keep.ofBelow' b2)); clear b2
      go_wp2_with fail
      refine (cs3 y2).mono ?_
      rintro e w3 ⟨rfl, y3, k3⟩
      have z3 := k3.size
      have K3 := Lib.hid (K2.out.trans k3); clear k3 y2 K2
      go_wp2_with fail
      refine (cs4 y3 (HX.out _ (by omega))).mono ?_
      rintro e w4 ⟨rfl, y4, k4⟩
      have z4 := k4.size
      have K4 := Lib.hid (K3.out.trans k4); clear k4 y3 K3
      go_wp2_with fail
      refine (cs5 y4 (HX.out _ (by omega))).mono ?_
      rintro e w5 ⟨rfl, y5, k5⟩
      have z5 := k5.size
      have K5 := Lib.hid (K4.out.trans k5); clear k5 y4 K4
      go_wp2_with fail
      refine (cs6 y5).mono ?_
      rintro e w6 ⟨rfl, b6⟩
      have z6 := b6.size
      have y6 := y5.below b6
      have K6 := Lib.hid (K5.out.trans (Keep.ofBelow' b6)); clear b6 y5 K5
      go_wp2_with fail
      refine (cs7 y6).mono ?_
      rintro e w7 ⟨rfl, y7, k7⟩
      have z7 := k7.size
      have K7 := Lib.hid (K6.out.trans k7); clear k7 y6 K6
      go_wp2_with fail
      refine (cs8 y7).mono ?_
      rintro e w8 ⟨rfl, y8, k8⟩
      have z8 := k8.size
      have K8 := Lib.hid (K7.out.trans k8); clear k8 y7 K7
      go_wp2_with fail
      refine (cs9 y8 (HX.out _ (by omega))).mono ?_
      rintro e w9 ⟨rfl, y9, k9⟩
      have z9 := k9.size
      have K9 := Lib.hid (K8.out.trans k9); clear k9 y8 K8
      go_wp2_with fail
      refine (cs10 y9).mono ?_
      rintro e w10 ⟨rfl, y10, k10⟩
      have z10 := k10.size
      have K10 := Lib.hid (K9.out.trans k10); clear k10 y9 K9
      go_wp2_with fail
      refine (cs11 y10).mono ?_
      rintro e w11 ⟨rfl, b11⟩
      have y11 := y10.below b11
      have K11 := Lib.hid (K10.out.trans (Keep.ofBelow' b11)); clear b11 y10 K10
      go_wp2_with fail
      refine (cs12 y11).mono ?_
      rintro e w12 ⟨⟨a, c, rfl⟩, b12⟩
      have K12 := Lib.hid (K11.out.trans (Keep.ofBelow' b12)); clear b12 y11 K11
      go_wp2_with fail
      go_ret
      exact ⟨rfl, HB1.out.trans (K12.out.toBelow (fun _ hk => hk) z1)⟩
end Go.Proofs.Ytiiaajdkkofbjaa
