/-
  The statements' own function 'does': Block, End, Free. Conditions: as in the text that it imports.
-/
import Derived.Test.YtlmgojnhmdppnaaSc16
namespace Go.Proofs.Ytlmgojnhmdppnaa
open Go.RowKit Go.Maps
set_option linter.unusedVariables false
set_option linter.unusedSimpArgs false

set_option maxRecDepth 100000 in
set_option maxHeartbeats 2000000 in
theorem does2 {w : World} {X : Nat → Prop} {ps : Nat} {Z : ZS} {sa ka : Option Addr} {sc kc : Nat} {r : RS} (h : Zd w X ps Z) (hX : ∀ k, w.heap.size ≤ k → ¬ X k) (hN : Numb w X) (hra : RAt w sa sc ka kc r) (hn : r.st.length ≤ 8796093022208) (t key : Int) :
    Calls Try.prog 42 #[.pointer (some ⟨ps, 0, none⟩), rv sa sc ka kc r, .agg #[.int .i64 2, .int .i64 t, .int .i64 key]] w fun e w' => ∃ sa' sc' ka' kc', e = .returned (.tuple #[rv sa' sc' ka' kc' (r.move t 1 2 key), .bool (Z.inErr 1 t == r.moveErr t 1)]) ∧ Ends w X ps (Z.block t key) sa' sc' ka' kc' (r.move t 1 2 key) w' := by
  have hbx := B3.laid w (rc sa sc ka kc r) 2 t key
  have hc := block_any (h.laid (rc sa sc ka kc r) 2 t key) t key
  have hra1 : ∀ w1, Keep (offs X w.heap.size) (laid3 w (rc sa sc ka kc r) 2 t key) w1 → RAt w1 sa sc ka kc r := fun w1 k1 =>
    hra.keep ((laid3_num w (rc sa sc ka kc r) 2 t key).trans ⟨k1.size, fun g cs hb => by
      rcases Nat.lt_or_ge g w.heap.size with hlt | hge
      · have hb0 : Blk w g 3 cs := by
          have := (laid3_below w (rc sa sc ka kc r) 2 t key).block g hlt
          exact this.symm.trans hb
        exact hb.keep k1 (.inl (hN g cs hb0))
      · have hl := hb.lt
        rw [laid3_size] at hl
        exact hb.keep k1 (.inr ⟨hge, hl⟩)⟩)
  have href : ∀ W sa sc ka kc, RAt W sa sc ka kc r → _ := fun W sa sc ka kc hh => rmove_any hh hn t 1 2 key (by decide)
  have hend : ∀ w1 w2 sa' sc' ka' kc' r' y0 y1 y2 y3 y4 o, _ → _ → _ → _ → _ := fun w1 w2 sa' sc' ka' kc' r' y0 y1 y2 y3 y4 o z1 k1 b2 hr => does_end (w := w) (w1 := w1) (w2 := w2) (X := X) (ps := ps) (Z' := Z.block t key) (m := rc sa sc ka kc r) (k := 2) (t := t) (key := key) (sa := sa') (sc := sc') (ka := ka') (kc := kc') (r := r') hX z1 k1 b2 hr y0 y1 y2 y3 y4 o
  have hs0 := laid3_size w (rc sa sc ka kc r) 2 t key
  have HC := Lib.hid hc; clear hc
  have HRA := Lib.hid hra1; clear hra1
  have HREF := Lib.hid href; clear href
  have HEND := Lib.hid hend; clear hend
  have HBX := Lib.hid hbx; clear hbx
  clear h hra
  unfold laid3 rc at HC HRA HEND HBX hs0
  unfold rv at HREF ⊢
  go_enter Try.func42, Try.ntmps42
  go_wp2_with fail
  refine HC.out.mono ?_
  rintro e w1 ⟨rfl, y1, k1⟩
  have bx1 := HBX.out.keep k1 (fun j h1 h2 => .inr ⟨h1, h2⟩)
  have z1 := k1.size
  rw [hs0] at z1
  obtain ⟨a0, a1, a2, a3, a4, _⟩ := bx1.m.five
  obtain ⟨c0, c1, c2⟩ := bx1.o.three
  have hra2 := HRA.out w1 k1
  have HRF := Lib.hid (HREF.out w1 sa sc ka kc hra2)
  have HY1 := Lib.hid y1; clear y1
  have HK1 := Lib.hid k1; clear k1
  have HBX1 := Lib.hid bx1; clear bx1
  clear hra2
  go_wp2_with fail
  refine HRF.out.mono ?_
  rintro e w2 ⟨sa', sc', ka', kc', rfl, hra3, b2⟩
  have bx2 := HBX1.out.below b2
  have z2 := b2.size
  have n0 : w.heap.size < w2.heap.size := by omega
  have n1 : w.heap.size + 1 < w2.heap.size := by omega
  have n2 : w.heap.size + 1 + 1 < w2.heap.size := by omega
  have n3 : w.heap.size + 1 + 1 < w2.heap.size + 1 := by omega
  obtain ⟨d0, d1, d2, d3, d4, _⟩ := bx2.m.five
  obtain ⟨e0, e1, e2⟩ := bx2.o.three
  obtain ⟨r0, r1, r2, r3, r4, g0, g1, g2, g3, g4⟩ := bx2.r.five
  have HF := Lib.hid (fun y0 y1 y2 y3 y4 o => HEND.out w1 w2 sa' sc' ka' kc' _ y0 y1 y2 y3 y4 o HY1.out HK1.out b2 hra3)
  clear a0 a1 a2 a3 a4 c0 c1 c2 bx2 b2 hra3 HBX1 HBX HC HRA HREF HRF HEND
  go_wp2_with fail
  refine bodyPost_ret (v := .tuple #[.agg #[.slice sa' (r.move t 1 2 key).st.length sc', .slice ka' (r.move t 1 2 key).st.length kc', .int .i64 (r.move t 1 2 key).most, .int .i64 (r.move t 1 2 key).good, .int .i64 (r.move t 1 2 key).bad], .bool (Z.inErr 1 t == r.moveErr t 1)]) (by simp [results, Try.results42, go_sem, r0, r1, r2, r3, r4, n2, n3]) rfl ⟨sa', sc', ka', kc', rfl, (HF.out _ _ _ _ _ _).1⟩
end Go.Proofs.Ytlmgojnhmdppnaa
