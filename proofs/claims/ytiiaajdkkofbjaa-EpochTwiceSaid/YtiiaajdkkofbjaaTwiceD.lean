/-
  EpochTwice, the four walks: somebody is inside or not, the block is freed elsewhere or not. No condition.
-/
import Derived.Test.YtiiaajdkkofbjaaTwice
namespace Go.Proofs.Ytiiaajdkkofbjaa
open Go.RowKit Go.Maps
set_option linter.unusedVariables false

def TwQ_twice_ie (w wr : World) (pa py : Nat) (wv : Bool) : Prop := Keep (fun k => k < w.heap.size) w wr ∧ match wv with | false => ∃ f, Yd wr (fun k => k < w.heap.size) pa py (tY0 true 1) (tE f) | true => False
set_option maxRecDepth 100000 in
set_option maxHeartbeats 4000000 in
theorem twice_ie (a0 : Option Addr) (len0 cap0 : Nat) (z0 : List Int) (w : World) (w0 : IsRow .i64 w a0 len0 cap0 z0) :
    Calls Try.prog 8 #[.slice a0 len0 cap0, .bool true, .bool true] w fun e w' => e = .returned (.bool true) ∧ Below w.heap.size w w' := by
  have hX : ∀ W : World, w.heap.size ≤ W.heap.size → ∀ k, W.heap.size ≤ k → ¬ k < w.heap.size := fun W h k hk => by omega
  have HX := Lib.hid hX; clear hX
  have hlen := w0.len
  have HR := Lib.hid w0; clear w0
  go_enter Try.func8, Try.ntmps8
  go_wp2_with fail
  refine (ealive_any _).mono ?_
  rintro e w1 ⟨rfl, b1⟩
  have z1 := b1.size
  have K1 := Lib.hid (Keep.ofBelow' (X := fun k => k < w.heap.size) b1); clear b1
  go_wp2_with fail
  refine (tw_new (X := fun k => k < w.heap.size) (HX.out _ (by omega))).mono ?_
  rintro e w2 ⟨rfl, a2, b2⟩
  have z2 := b2.size
  have K2 := Lib.hid (K1.out.trans (Keep.ofBelow' b2)); clear b2 K1
  go_wp2_with fail
  refine (tw_ynew a2 (HX.out _ (by omega))).mono ?_
  rintro e w3 ⟨rfl, y3, b3⟩
  have z3 := b3.size
  have K3 := Lib.hid (K2.out.trans (Keep.ofBelow' b3)); clear b3 a2 K2
  go_wp2_with fail
  refine (tw_alloc y3 (HX.out _ (by omega))).mono ?_
  rintro e w4 ⟨rfl, y4, k4⟩
  have z4 := k4.size
  have K4 := Lib.hid (K3.out.trans k4); clear k4 y3 K3
  go_wp2_with fail
  refine (tw_enter y4).mono ?_
  rintro e w5 ⟨rfl, y5, k5⟩
  have z5 := k5.size
  have K5 := Lib.hid (K4.out.trans k5); clear k5 y4 K4
  go_wp2_with fail
  refine (tw_free1 y5).mono ?_
  rintro e w6 ⟨rfl, y6, k6⟩
  have z6 := k6.size
  have K6 := Lib.hid (K5.out.trans k6); clear k6 y5 K5
  go_wp2_with fail
  generalize w1.heap.size + 1 = pa at y6 ⊢
  generalize w2.heap.size = py at y6 ⊢
  have HREL0 : Hid (Keep (fun k => k < w.heap.size) w w6 ∧ ∃ f, Yd w6 (fun k => k < w.heap.size) pa py (tY0 true 1) (tE f)) := Lib.hid ⟨K6.out, ⟨_, y6⟩⟩
  clear y6 K6 z1 z2 z3 z4 z5 z6
  go_loopw [11, 49] (fun s i wr => ∃ (wv : Bool) (k : Nat), s = .bool wv ∧ i = .int .i64 k ∧ k ≤ len0 ∧ TwQ_twice_ie w wr pa py wv) (fun _ i _ => len0 - (intOf i).toNat)
  case atStart => exact ⟨false, 0, rfl, rfl, by omega, HREL0.out⟩
  case round =>
    clear HREL0
    obtain ⟨wv, k, rfl, rfl, hk, hrel⟩ := hrel
    obtain ⟨hkp, hst⟩ := hrel
    have zr := hkp.size
    have HKP := Lib.hid hkp; clear hkp
    by_cases hgo : k < len0 ∧ k ≤ 50
    · obtain ⟨hlt, h50⟩ := hgo
      obtain ⟨b, off, rfl, hb, hcell, hwt⟩ := HR.out.at_ hlt
      have hce := HKP.out.toBelow (fun _ hk => hk) (Nat.le_refl _)
      rw [← hce.cell (p := ⟨b, off + k, none⟩) hb] at hcell
      clear hce
      generalize z0.getD k 0 = t at hcell hwt
      have HXR := Lib.hid (HX.out wr zr)
      clear hwt
      cases wv with
      | true => exact hst.elim
      | false =>
        obtain ⟨f, hst⟩ : ∃ f, Yd wr (fun k => k < w.heap.size) pa py (tY0 true 1) (tE f) := hst
        by_cases ht1 : t < 1
        · have hc := tw_bad (by rfl) hst (tY0_now _ _) HXR.out t (by omega)
          have HC := Lib.hid hc; clear hc
          clear hst
          go_wp2_with fail
          refine HC.out.mono ?_
          rintro e w7 ⟨rfl, y7, k7⟩
          have HY7 := Lib.hid y7; clear y7
          have HK7 := Lib.hid (HKP.out.trans k7); clear k7
          go_wp2
          go_roundw
          case rel => exact ⟨false, k + 1, rfl, by go_num, by omega, HK7.out, ⟨_, HY7.out⟩⟩
          case measure => simp [intOf]; omega
        · by_cases ht8 : 8 < t
          · have hc := tw_bad (by rfl) hst (tY0_now _ _) HXR.out t (by omega)
            have HC := Lib.hid hc; clear hc
            clear hst
            go_wp2_with fail
            refine HC.out.mono ?_
            rintro e w7 ⟨rfl, y7, k7⟩
            have HY7 := Lib.hid y7; clear y7
            have HK7 := Lib.hid (HKP.out.trans k7); clear k7
            go_wp2
            go_roundw
            case rel => exact ⟨false, k + 1, rfl, by go_num, by omega, HK7.out, ⟨_, HY7.out⟩⟩
            case measure => simp [intOf]; omega
          · have hc := tw_freed hst HXR.out t (by omega)
            have HC := Lib.hid hc; clear hc
            clear hst
            go_wp2_with fail
            refine HC.out.mono ?_
            rintro e w7 ⟨rfl, y7, k7⟩
            have HY7 := Lib.hid y7; clear y7
            have HK7 := Lib.hid (HKP.out.trans k7); clear k7
            go_wp2
            go_roundw
            case rel => exact ⟨false, k + 1, rfl, by go_num, by omega, HK7.out, ⟨_, HY7.out⟩⟩
            case measure => simp [intOf]; omega
    · have hout : ¬ k < len0 ∨ (k < len0 ∧ 50 < k) := by omega
      clear hgo
      have hrd : k < len0 → ∃ b off t, a0 = some ⟨b, off, none⟩ ∧ wr.cell? ⟨b, off + k, none⟩ = some (.int .i64 t) := fun hlt => by
        obtain ⟨b, off, rfl, hb, hcell, hwt⟩ := HR.out.at_ hlt
        rw [← (HKP.out.toBelow (fun _ hk => hk) (Nat.le_refl _)).cell (p := ⟨b, off + k, none⟩) hb] at hcell
        exact ⟨b, off, _, rfl, hcell⟩
      cases wv with
      | true => exact hst.elim
      | false =>
        obtain ⟨f, hst⟩ : ∃ f, Yd wr (fun k => k < w.heap.size) pa py (tY0 true 1) (tE f) := hst
        rcases hout with hout | ⟨hlt, h50⟩
        · clear hrd
          go_wp2_with fail
          refine (tw_sweep0 hst (HX.out _ (by omega))).mono ?_
          rintro e w8 ⟨rfl, y8, k8⟩
          have z8 := k8.size
          have K8 := Lib.hid (HKP.out.trans k8); clear k8 hst HKP
          go_wp2_with fail
          refine (tw_leave0 y8).mono ?_
          rintro e w9 ⟨rfl, y9, k9⟩
          have z9 := k9.size
          have K9 := Lib.hid (K8.out.trans k9); clear k9 y8 K8
          go_wp2_with fail
          refine (tw_sweep0 y9 (HX.out _ (by omega))).mono ?_
          rintro e w10 ⟨rfl, y10, k10⟩
          have z10 := k10.size
          have K10 := Lib.hid (K9.out.trans k10); clear k10 y9 K9
          go_wp2_with fail
          refine (tw_sweep0 y10 (HX.out _ (by omega))).mono ?_
          rintro e w11 ⟨rfl, y11, k11⟩
          have z11 := k11.size
          have K11 := Lib.hid (K10.out.trans k11); clear k11 y10 K10
          go_wp2_with fail
          refine (tw_free0 y11).mono ?_
          rintro e w12 ⟨rfl, y12, k12⟩
          have z12 := k12.size
          have K12 := Lib.hid (K11.out.trans k12); clear k12 y11 K11
          go_wp2_with fail
          go_ret
          exact ⟨rfl, K12.out.toBelow (fun _ hk => hk) (Nat.le_refl _)⟩
        · obtain ⟨b, off, t, rfl, hcell⟩ := hrd hlt
          go_wp2_with fail
          refine (tw_sweep0 hst (HX.out _ (by omega))).mono ?_
          rintro e w8 ⟨rfl, y8, k8⟩
          have z8 := k8.size
          have K8 := Lib.hid (HKP.out.trans k8); clear k8 hst HKP
          go_wp2_with fail
          refine (tw_leave0 y8).mono ?_
          rintro e w9 ⟨rfl, y9, k9⟩
          have z9 := k9.size
          have K9 := Lib.hid (K8.out.trans k9); clear k9 y8 K8
          go_wp2_with fail
          refine (tw_sweep0 y9 (HX.out _ (by omega))).mono ?_
          rintro e w10 ⟨rfl, y10, k10⟩
          have z10 := k10.size
          have K10 := Lib.hid (K9.out.trans k10); clear k10 y9 K9
          go_wp2_with fail
          refine (tw_sweep0 y10 (HX.out _ (by omega))).mono ?_
          rintro e w11 ⟨rfl, y11, k11⟩
          have z11 := k11.size
          have K11 := Lib.hid (K10.out.trans k11); clear k11 y10 K10
          go_wp2_with fail
          refine (tw_free0 y11).mono ?_
          rintro e w12 ⟨rfl, y12, k12⟩
          have z12 := k12.size
          have K12 := Lib.hid (K11.out.trans k12); clear k12 y11 K11
          go_wp2_with fail
          go_ret
          exact ⟨rfl, K12.out.toBelow (fun _ hk => hk) (Nat.le_refl _)⟩

end Go.Proofs.Ytiiaajdkkofbjaa
