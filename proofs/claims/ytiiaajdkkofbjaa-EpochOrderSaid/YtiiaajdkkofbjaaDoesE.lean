/-
  The statements' own function 'does', whatever call it is handed but the arena's Free. Conditions: as in the texts that it imports.
-/
import Derived.Test.YtiiaajdkkofbjaaDoesA
import Derived.Test.YtiiaajdkkofbjaaDoesB
import Derived.Test.YtiiaajdkkofbjaaDoesC
import Derived.Test.YtiiaajdkkofbjaaDoesD
namespace Go.Proofs.Ytiiaajdkkofbjaa
open Go.RowKit Go.Maps
set_option linter.unusedVariables false

set_option maxRecDepth 100000 in
set_option maxHeartbeats 1600000 in
theorem doesN {w : World} {X : Nat → Prop} {pa py : Nat} {Y : YS} {S : AS} (h : Yd w X pa py Y S) (hX : ∀ k, w.heap.size ≤ k → ¬ X k) (k t b : Int) (hk : k < 1 ∨ 6 < k) :
    Calls Try.prog 25 #[.pointer (some ⟨py, 0, none⟩), .pointer (some ⟨pa, 0, none⟩), ZY, ZA, .agg #[.int .i64 k, .int .i64 t, .int .i64 b]] w fun e w' => (∃ r, e = .returned r) ∧ DoneY w X pa py Y S w' := by
  have hb0 := laid5_below w k t b
  have hbx := Boxes.mk_ w k t b
  have hfin : ∀ w3, Own w.heap.size (laid5 w k t b) w3 → Yd w3 X pa py Y S ∧ Keep X w w3 := fun w3 o3 =>
    ⟨(o3.yd (h.laid k t b)).less (fun _ _ hz => .inl hz), (Keep.ofBelow' hb0).trans (o3.kp hX)⟩
  have HFIN := Lib.hid hfin; clear hfin
  obtain ⟨e0, e1, e2, e3, g0, g1, g2, g3⟩ := hbx.r.four
  obtain ⟨f0, f1, f2, i0, i1, i2⟩ := hbx.s.three
  obtain ⟨n0, n1, n2, n3, _⟩ := hbx.y.four
  obtain ⟨d0, d1, d2, _⟩ := hbx.a.three
  have q1 : (k == 1) = false := by rw [beq_eq_false_iff_ne]; omega
  have q2 : (k == 2) = false := by rw [beq_eq_false_iff_ne]; omega
  have q3 : (k == 3) = false := by rw [beq_eq_false_iff_ne]; omega
  have q4 : (k == 4) = false := by rw [beq_eq_false_iff_ne]; omega
  have q5 : (k == 5) = false := by rw [beq_eq_false_iff_ne]; omega
  have q6 : (k == 6) = false := by rw [beq_eq_false_iff_ne]; omega
  unfold laid5 at HFIN e0 e1 e2 e3 g0 g1 g2 g3 f0 f1 f2 i0 i1 i2 n0 n1 n2 n3 d0 d1 d2
  clear h hX hbx hb0 hk
  go_enter Try.func25, Try.ntmps25
  go_wp2
  go_region
  all_goals
    refine normal_through ?_
    rename_i hK2
    apply hK2
    refine wp_ret ?_
    refine bodyPost_ret (v := .tuple #[ZY, ZA, .bool true]) ?res rfl ?post
    case res =>
      simp [results, Try.results25, go_sem]
    case post =>
      exact ⟨⟨_, rfl⟩, HFIN.out _ (Own.drew (Own.refl _ _))⟩

/-- Whatever the call is, but the arena's Free. -/
theorem does_any {w : World} {X : Nat → Prop} {pa py : Nat} {Y : YS} {S : AS} (h : Yd w X pa py Y S) (hX : ∀ k, w.heap.size ≤ k → ¬ X k) (hn : Y.now < 4611686018427387904) (hm : S.made < 4611686018427387904) (k t b : Int) (hwb : (ik b).wf = true) (h6 : k ≠ 6) :
    Calls Try.prog 25 #[.pointer (some ⟨py, 0, none⟩), .pointer (some ⟨pa, 0, none⟩), ZY, ZA, .agg #[.int .i64 k, .int .i64 t, .int .i64 b]] w fun e w' => (∃ r, e = .returned r) ∧ Yd w' X pa py (stepY Y S k t b) (stepS Y S k t b) ∧ Keep X w w' := by
  by_cases k1 : k = 1
  · subst k1; exact does1 h hX t b hn
  · by_cases k2 : k = 2
    · subst k2; exact does2 h hX t b
    · by_cases k3 : k = 3
      · subst k3; exact does3 h hX t b hn hwb
      · by_cases k4 : k = 4
        · subst k4; exact does4 h hX t b
        · by_cases k5 : k = 5
          · subst k5; exact does5 h hX t b hm
          · have e1 : stepY Y S k t b = Y := by unfold stepY; rw [if_neg k1, if_neg k2, if_neg k3, if_neg k4]
            have e2 : stepS Y S k t b = S := by unfold stepS; rw [if_neg k3, if_neg k4, if_neg k5]
            rw [e1, e2]
            exact doesN h hX k t b (by omega)

/-! ### What the statements of an arena that is never freed from outside hold to -/
/-- Every block that waits is live; none waits twice. -/
structure Right (Y : YS) (S : AS) : Prop where
  live : ∀ r ∈ Y.wt, (look S.bl r.block).isSome = true
  once : (Y.wt.map (·.block)).Nodup
end Go.Proofs.Ytiiaajdkkofbjaa
