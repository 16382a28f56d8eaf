/-
  The statements' own function 'does': Sweep. Conditions: as in the text that it imports.
-/
import Derived.Test.YtiiaajdkkofbjaaDoes
namespace Go.Proofs.Ytiiaajdkkofbjaa
open Go.RowKit Go.Maps
set_option linter.unusedVariables false
set_option linter.unusedSimpArgs false

set_option maxRecDepth 100000 in
set_option maxHeartbeats 1600000 in
theorem does4 {w : World} {X : Nat → Prop} {pa py : Nat} {Y : YS} {S : AS} (h : Yd w X pa py Y S) (hX : ∀ k, w.heap.size ≤ k → ¬ X k) (t b : Int) :
    Calls Try.prog 25 #[.pointer (some ⟨py, 0, none⟩), .pointer (some ⟨pa, 0, none⟩), ZY, ZA, .agg #[.int .i64 4, .int .i64 t, .int .i64 b]] w fun e w' => (∃ r, e = .returned r) ∧ DoneY w X pa py Y.sweepAt (S.sweepAt Y) w' := by
  have hb0 := laid5_below w 4 t b
  have hs0 := laid5_size w 4 t b
  have hbx := Boxes.mk_ w 4 t b
  have hc := sweep_any (h.laid 4 t b) (fun j hj hz => by rw [hs0] at hj; rcases hz with hz | hz; exact hX j (by omega) hz; omega)
  have hfin : ∀ w1 w2 w3, Yd w1 (offs X w.heap.size) pa py Y.sweepAt (S.sweepAt Y) → Keep (offs X w.heap.size) (laid5 w 4 t b) w1 → Below w1.heap.size w1 w2 → Own w.heap.size w2 w3 → Yd w3 X pa py Y.sweepAt (S.sweepAt Y) ∧ Keep X w w3 := fun w1 w2 w3 y1 k1 b2 o3 =>
    ⟨(o3.yd (y1.below b2)).less (fun _ _ hz => .inl hz), ((Keep.ofBelow' hb0).trans (k1.less (fun _ hz => .inl hz))).trans ((Keep.ofBelow' b2).trans (o3.kp hX))⟩
  have HFIN := Lib.hid hfin; clear hfin
  have HC := Lib.hid hc; clear hc
  have HBX := Lib.hid hbx; clear hbx
  have HB0 := Lib.hid hb0; clear hb0
  unfold laid5 at HC HFIN HBX HB0 hs0
  clear h hX
  go_enter Try.func25, Try.ntmps25
  go_wp2_with fail
  refine HC.out.mono ?_
  rintro e w1 ⟨rfl, y1, k1⟩
  have bx1 := HBX.out.keep k1 (fun j h1 h2 => .inr ⟨h1, h2⟩)
  have z1 := k1.size
  rw [hs0] at z1
  obtain ⟨a0, a1, a2, a3, _⟩ := bx1.y.four
  obtain ⟨m0, m1, m2, _⟩ := bx1.a.three
  obtain ⟨c0, c1, c2, _⟩ := bx1.o.three
  have HBX1 := Lib.hid bx1; clear bx1
  have HY1 := Lib.hid y1; clear y1
  have HK1 := Lib.hid k1; clear k1
  go_wp2_with fail
  refine (sweep0 _).mono ?_
  rintro e w2 ⟨⟨u, rfl⟩, b2⟩
  have bx2 := HBX1.out.below b2
  have z2 := b2.size
  have HF2 := Lib.hid (fun w3 => HFIN.out w1 w2 w3 HY1.out HK1.out b2)
  obtain ⟨n0, n1, n2, n3, _⟩ := bx2.y.four
  obtain ⟨d0, d1, d2, _⟩ := bx2.a.three
  obtain ⟨e0, e1, e2, e3, g0, g1, g2, g3⟩ := bx2.r.four
  obtain ⟨f0, f1, f2, i0, i1, i2⟩ := bx2.s.three
  have l0 : w.heap.size < w2.heap.size := by omega
  have l1 : w.heap.size + 1 < w2.heap.size := by omega
  have l2 : w.heap.size + 1 + 1 + 1 < w2.heap.size := by omega
  have l3 : w.heap.size + 1 + 1 + 1 + 1 < w2.heap.size := by omega
  have l4 : w.heap.size < w2.heap.size + 1 := by omega
  have l5 : w.heap.size + 1 < w2.heap.size + 1 := by omega
  have l6 : w.heap.size + 1 + 1 + 1 < w2.heap.size + 1 := by omega
  have l7 : w.heap.size + 1 + 1 + 1 + 1 < w2.heap.size + 1 := by omega
  clear a0 a1 a2 a3 m0 m1 m2 c0 c1 c2 bx2 b2 hs0 z1 z2 HBX HBX1 HC HFIN HY1 HK1 HB0
  go_wp2
  go_region
  all_goals
    refine normal_through ?_
    rename_i K1 hK1 Q1 K2 hK2
    apply hK2
    refine wp_ret ?_
    refine ret_through ?_
    refine bodyPost_ret (v := .tuple #[.agg #[.int .i64 0, .int .i64 0, .slice none 0 0, .slice u 0 0], ZA, .bool (sweepN Y S == 0)]) ?res rfl ?post
    case res =>
      simp [results, Try.results25, go_sem, e0, e1, e2, e3, f0, f1, f2, l2, l3, l6, l7]
    case post =>
      refine ⟨⟨_, rfl⟩, HF2.out _ ?_⟩
      refine Own.drew (Own.alloc (Own.alloc (?_) _) _)
      repeat (refine Own.set_ ?_ (by omega) (by omega))
      exact Own.refl _ _
end Go.Proofs.Ytiiaajdkkofbjaa
