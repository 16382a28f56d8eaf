/-
  The statements' own function 'does': Pick, and what is no call. Conditions: as in the text that it imports.
-/
import Derived.Test.YtlmgojnhmdppnaaSc18
import Derived.Test.YtlmgojnhmdppnaaSc19
namespace Go.Proofs.Ytlmgojnhmdppnaa
open Go.RowKit Go.Maps
set_option linter.unusedVariables false
set_option linter.unusedSimpArgs false

def RS.pick (r : RS) (t : Int) : RS := if r.at_ t = 1 then { r with good := wrap64 (r.good + 1) } else { r with bad := wrap64 (r.bad + 1) }
def pickB (Z : ZS) (r : RS) (t : Int) : Bool := if r.at_ t = 1 then (stOf Z.ths t == 1) else !(stOf Z.ths t == 1)

theorem does_end2 {w w3 : World} {X : Nat → Prop} {ps : Nat} {Z' : ZS} {sa ka : Option Addr} {sc kc : Nat} {r : RS} (hX : ∀ k, w.heap.size ≤ k → ¬ X k)
    (z3 : Zd w3 (offs X w.heap.size) ps Z') (hk : Keep X w w3) (hr : Blk w3 (w.heap.size + 1 + 1) 82 zc5) (hra : RAt w3 sa sc ka kc r) (y0 y1 y2 y3 y4 : Value) :
    Ends w X ps Z' sa sc ka kc r (set5 w3 (w.heap.size + 1 + 1) y0 y1 y2 y3 y4) := by
  have hset : Keep X w (set5 w3 (w.heap.size + 1 + 1) y0 y1 y2 y3 y4) := by
    unfold set5
    exact ((((hk.setCell (p := ⟨w.heap.size + 1 + 1, 0, none⟩) (hX _ (by show w.heap.size ≤ w.heap.size + 1 + 1; omega)) _).setCell (p := ⟨w.heap.size + 1 + 1, 1, none⟩) (hX _ (by show w.heap.size ≤ w.heap.size + 1 + 1; omega)) _).setCell (p := ⟨w.heap.size + 1 + 1, 2, none⟩) (hX _ (by show w.heap.size ≤ w.heap.size + 1 + 1; omega)) _).setCell (p := ⟨w.heap.size + 1 + 1, 3, none⟩) (hX _ (by show w.heap.size ≤ w.heap.size + 1 + 1; omega)) _).setCell (p := ⟨w.heap.size + 1 + 1, 4, none⟩) (hX _ (by show w.heap.size ≤ w.heap.size + 1 + 1; omega)) _
  have hz : Zd (set5 w3 (w.heap.size + 1 + 1) y0 y1 y2 y3 y4) (offs X w.heap.size) ps Z' := by
    have hx : offs X w.heap.size (w.heap.size + 1 + 1) := .inr ⟨by omega, by omega⟩
    unfold set5
    exact ((((z3.setCell (p := ⟨w.heap.size + 1 + 1, 0, none⟩) hx _).setCell (p := ⟨w.heap.size + 1 + 1, 1, none⟩) hx _).setCell (p := ⟨w.heap.size + 1 + 1, 2, none⟩) hx _).setCell (p := ⟨w.heap.size + 1 + 1, 3, none⟩) hx _).setCell (p := ⟨w.heap.size + 1 + 1, 4, none⟩) hx _
  exact ⟨hz.less (fun _ _ h => .inl h), hra.keep (set5_num hr (by decide) y0 y1 y2 y3 y4), hset⟩
theorem ra_same {w : World} {sa ka : Option Addr} {sc kc : Nat} {r r' : RS} (h : RAt w sa sc ka kc r) (h1 : r'.st = r.st) (h2 : r'.keys = r.keys) : RAt w sa sc ka kc r' := ⟨by rw [h1]; exact h.own1, by rw [h1, h2]; exact h.own2⟩

set_option maxRecDepth 100000 in
set_option maxHeartbeats 2000000 in
theorem does6 {w : World} {X : Nat → Prop} {ps : Nat} {Z : ZS} {sa ka : Option Addr} {sc kc : Nat} {r : RS} (h : Zd w X ps Z) (hX : ∀ k, w.heap.size ≤ k → ¬ X k) (hN : Numb w X) (hra : RAt w sa sc ka kc r) (hn : r.st.length ≤ 8796093022208) (t key : Int) :
    Calls Try.prog 42 #[.pointer (some ⟨ps, 0, none⟩), rv sa sc ka kc r, .agg #[.int .i64 6, .int .i64 t, .int .i64 key]] w fun e w' => ∃ sa' sc' ka' kc', e = .returned (.tuple #[rv sa' sc' ka' kc' (r.pick t), .bool (pickB Z r t)]) ∧ Ends w X ps (Z.pick t) sa' sc' ka' kc' (r.pick t) w' := by
  have hbx := B3.laid w (rc sa sc ka kc r) 6 t key
  have hc := pick_any (h.laid (rc sa sc ka kc r) 6 t key) t
  have hra1 : ∀ w1, Keep (offs X w.heap.size) (laid3 w (rc sa sc ka kc r) 6 t key) w1 → RAt w1 sa sc ka kc r := fun w1 k1 =>
    hra.keep ((laid3_num w (rc sa sc ka kc r) 6 t key).trans ⟨k1.size, fun g cs hb => by
      rcases Nat.lt_or_ge g w.heap.size with hlt | hge
      · have hb0 : Blk w g 3 cs := by
          have := (laid3_below w (rc sa sc ka kc r) 6 t key).block g hlt
          exact this.symm.trans hb
        exact hb.keep k1 (.inl (hN g cs hb0))
      · have hl := hb.lt
        rw [laid3_size] at hl
        exact hb.keep k1 (.inr ⟨hge, hl⟩)⟩)
  have href : ∀ W sa sc ka kc, RAt W sa sc ka kc r → _ := fun W sa sc ka kc hh => rstate_any hh hn t
  have hend : ∀ w1 w2 (r' : RS) i u y0 y1 y2 y3 y4, _ → _ → _ → _ → r'.st = r.st → r'.keys = r.keys → _ := fun w1 w2 r' i u y0 y1 y2 y3 y4 (z1 : Zd w1 (offs X w.heap.size) ps (Z.pick t)) (k1 : Keep (offs X w.heap.size) (laid3 w (rc sa sc ka kc r) 6 t key) w1) (b2 : Below w1.heap.size w1 w2) (hr : RAt w2 sa sc ka kc r) e1 e2 => by
    have hb3 := (hbx.keep k1 (fun j h1 h2 => .inr ⟨h1, h2⟩)).below b2
    have hk12 : Keep X w w2 := ((Keep.ofBelow0 (laid3_below w (rc sa sc ka kc r) 6 t key)).trans (k1.less (fun _ h => .inl h))).trans (Keep.ofBelow0 b2)
    exact does_end2 (w := w) (w3 := w2.setCell ⟨w.heap.size, i, none⟩ u) (X := X) (ps := ps) (Z' := Z.pick t) (r := r') hX ((z1.below b2).setCell (p := ⟨w.heap.size, i, none⟩) (.inr ⟨Nat.le_refl _, by show w.heap.size < w.heap.size + 3; omega⟩) u) (hk12.setCell (p := ⟨w.heap.size, i, none⟩) (hX _ (Nat.le_refl _)) u)
      (hb3.r.far (p := ⟨w.heap.size, i, none⟩) (by show w.heap.size + 1 + 1 ≠ w.heap.size; omega) u) (ra_same (hr.keep ((NumKeep.refl w2).set_ (p := ⟨w.heap.size, i, none⟩) hb3.m (by decide) u)) e1 e2) y0 y1 y2 y3 y4
  have hs0 := laid3_size w (rc sa sc ka kc r) 6 t key
  have hmX : ¬ X w.heap.size := hX _ (Nat.le_refl _)
  have HC := Lib.hid hc; clear hc
  have HRA := Lib.hid hra1; clear hra1
  have HREF := Lib.hid href; clear href
  have HEND := Lib.hid hend; clear hend
  have HBX := Lib.hid hbx; clear hbx
  clear h hra
  unfold laid3 rc at HC HRA HEND HBX hs0
  unfold rv at HREF ⊢
  have hb1 : ∀ x : Int, x ≠ 1 → (x == 1) = false := fun x hx => by simpa using hx
  obtain ⟨ok, hok⟩ : ∃ ok, (stOf Z.ths t == 1) = ok := ⟨_, rfl⟩
  rw [hok] at HC
  by_cases hat : r.at_ t = 1
  · have HPK : Hid (r.pick t = { r with good := wrap64 (r.good + 1) } ∧ pickB Z r t = ok) := Lib.hid ⟨by unfold RS.pick; rw [if_pos hat], by unfold pickB; rw [if_pos hat, hok]⟩
    rw [hat] at HREF
    clear hat hok
    go_enter Try.func42, Try.ntmps42
    go_wp2_with fail
    refine HC.out.mono ?_
    rintro e w1 ⟨rfl, y1, k1⟩
    have bx1 := HBX.out.keep k1 (fun j h1 h2 => .inr ⟨h1, h2⟩)
    have z1 := k1.size
    rw [hs0] at z1
    obtain ⟨a0, a1, a2, a3, a4, _⟩ := bx1.m.five
    obtain ⟨c0, c1, c2⟩ := bx1.o.three
    have hra2 := HRA.out w1 k1
    have HRF := Lib.hid (HREF.out w1 sa sc ka kc hra2)
    have HRA2 := Lib.hid hra2
    have HY1 := Lib.hid y1; clear y1
    have HK1 := Lib.hid k1; clear k1
    have HBX1 := Lib.hid bx1; clear bx1
    clear hra2
    go_wp2_with fail
    refine HRF.out.mono ?_
    rintro e w2 ⟨rfl, b2⟩
    have bx2 := HBX1.out.below b2
    have z2 := b2.size
    have n0 : w.heap.size < w2.heap.size := by omega
    have n1 : w.heap.size + 1 < w2.heap.size := by omega
    have n2 : w.heap.size + 1 + 1 < w2.heap.size := by omega
    obtain ⟨d0, d1, d2, d3, d4, f0, f1, f2, f3, f4⟩ := bx2.m.five
    obtain ⟨e0, e1, e2⟩ := bx2.o.three
    obtain ⟨r0, r1, r2, r3, r4, g0, g1, g2, g3, g4⟩ := bx2.r.five
    have HF := Lib.hid (fun r' i u y0 y1 y2 y3 y4 => HEND.out w1 w2 r' i u y0 y1 y2 y3 y4 HY1.out HK1.out b2 (HRA2.out.keep (NumKeep.below b2)))
    clear a0 a1 a2 a3 a4 c0 c1 c2 bx2 b2 HBX1 HBX HC HRA HREF HRF HEND HRA2
    go_wp2_with fail
    refine bodyPost_ret (v := .tuple #[.agg #[.slice sa r.st.length sc, .slice ka r.st.length kc, .int .i64 r.most, .int .i64 (wrap64 (r.good + 1)), .int .i64 r.bad], .bool ok]) (by simp [results, Try.results42, go_sem, r0, r1, r2, r3, r4, n2]) rfl ⟨sa, sc, ka, kc, by rw [HPK.out.1, HPK.out.2], by rw [HPK.out.1]; exact HF.out _ _ _ _ _ _ _ _ rfl rfl⟩
  · have HPK : Hid (r.pick t = { r with bad := wrap64 (r.bad + 1) } ∧ pickB Z r t = !ok) := Lib.hid ⟨by unfold RS.pick; rw [if_neg hat], by unfold pickB; rw [if_neg hat, hok]⟩
    have hab := hb1 _ hat
    generalize r.at_ t = x at HREF hab
    clear hat hok
    go_enter Try.func42, Try.ntmps42
    go_wp2_with fail
    refine HC.out.mono ?_
    rintro e w1 ⟨rfl, y1, k1⟩
    have bx1 := HBX.out.keep k1 (fun j h1 h2 => .inr ⟨h1, h2⟩)
    have z1 := k1.size
    rw [hs0] at z1
    obtain ⟨a0, a1, a2, a3, a4, _⟩ := bx1.m.five
    obtain ⟨c0, c1, c2⟩ := bx1.o.three
    have hra2 := HRA.out w1 k1
    have HRF := Lib.hid (HREF.out w1 sa sc ka kc hra2)
    have HRA2 := Lib.hid hra2
    have HY1 := Lib.hid y1; clear y1
    have HK1 := Lib.hid k1; clear k1
    have HBX1 := Lib.hid bx1; clear bx1
    clear hra2
    go_wp2_with fail
    refine HRF.out.mono ?_
    rintro e w2 ⟨rfl, b2⟩
    have bx2 := HBX1.out.below b2
    have z2 := b2.size
    have n0 : w.heap.size < w2.heap.size := by omega
    have n1 : w.heap.size + 1 < w2.heap.size := by omega
    have n2 : w.heap.size + 1 + 1 < w2.heap.size := by omega
    obtain ⟨d0, d1, d2, d3, d4, f0, f1, f2, f3, f4⟩ := bx2.m.five
    obtain ⟨e0, e1, e2⟩ := bx2.o.three
    obtain ⟨r0, r1, r2, r3, r4, g0, g1, g2, g3, g4⟩ := bx2.r.five
    have HF := Lib.hid (fun r' i u y0 y1 y2 y3 y4 => HEND.out w1 w2 r' i u y0 y1 y2 y3 y4 HY1.out HK1.out b2 (HRA2.out.keep (NumKeep.below b2)))
    clear a0 a1 a2 a3 a4 c0 c1 c2 bx2 b2 HBX1 HBX HC HRA HREF HRF HEND HRA2
    go_wp2_with fail
    refine bodyPost_ret (v := .tuple #[.agg #[.slice sa r.st.length sc, .slice ka r.st.length kc, .int .i64 r.most, .int .i64 r.good, .int .i64 (wrap64 (r.bad + 1))], .bool (!ok)]) (by simp [results, Try.results42, go_sem, r0, r1, r2, r3, r4, n2]) rfl ⟨sa, sc, ka, kc, by rw [HPK.out.1, HPK.out.2], by rw [HPK.out.1]; exact HF.out _ _ _ _ _ _ _ _ rfl rfl⟩

/-- What is no call. -/
theorem does0 {w : World} {X : Nat → Prop} {ps : Nat} {Z : ZS} {sa ka : Option Addr} {sc kc : Nat} {r : RS} (h : Zd w X ps Z) (hX : ∀ k, w.heap.size ≤ k → ¬ X k) (hN : Numb w X) (hra : RAt w sa sc ka kc r) (hn : r.st.length ≤ 8796093022208) (k t key : Int)
    (h1 : k ≠ 1) (h2 : k ≠ 2) (h3 : k ≠ 3) (h4 : k ≠ 4) (h5 : k ≠ 5) (h6 : k ≠ 6) :
    Calls Try.prog 42 #[.pointer (some ⟨ps, 0, none⟩), rv sa sc ka kc r, .agg #[.int .i64 k, .int .i64 t, .int .i64 key]] w fun e w' => ∃ sa' sc' ka' kc', e = .returned (.tuple #[rv sa' sc' ka' kc' r, .bool true]) ∧ Ends w X ps Z sa' sc' ka' kc' r w' := by
  have hbx : Blk (((w.alloc (.cells (rc sa sc ka kc r) 82)).alloc (.cells #[.int .i64 k, .int .i64 t, .int .i64 key] 85)).alloc (.cells (rc sa sc ka kc r) 82)) (w.heap.size + 1 + 1) 82 (rc sa sc ka kc r) := by
    have := Blk.new ((w.alloc (.cells (rc sa sc ka kc r) 82)).alloc (.cells #[.int .i64 k, .int .i64 t, .int .i64 key] 85)) 82 (rc sa sc ka kc r)
    simp only [World.size_alloc] at this; exact this
  have hb : Below w.heap.size w (((w.alloc (.cells (rc sa sc ka kc r) 82)).alloc (.cells #[.int .i64 k, .int .i64 t, .int .i64 key] 85)).alloc (.cells (rc sa sc ka kc r) 82)) :=
    (((Below.refl _ _).alloc (Nat.le_refl _) _).alloc (by simp) _).alloc (by simp; omega) _
  have HE : Hid (Ends w X ps Z sa sc ka kc r (((w.alloc (.cells (rc sa sc ka kc r) 82)).alloc (.cells #[.int .i64 k, .int .i64 t, .int .i64 key] 85)).alloc (.cells (rc sa sc ka kc r) 82))) := Lib.hid ⟨h.below hb, hra.keep (NumKeep.below hb), Keep.ofBelow0 hb⟩
  clear hb
  unfold rc at hbx
  obtain ⟨r0, r1, r2, r3, r4, _⟩ := hbx.five
  have q1 : (k == 1) = false := by simpa using h1
  have q2 : (k == 2) = false := by simpa using h2
  have q3 : (k == 3) = false := by simpa using h3
  have q4 : (k == 4) = false := by simpa using h4
  have q5 : (k == 5) = false := by simpa using h5
  have q6 : (k == 6) = false := by simpa using h6
  clear h1 h2 h3 h4 h5 h6 h hra hbx
  unfold rc at HE
  unfold rv
  go_enter Try.func42, Try.ntmps42
  go_wp2_with fail
  refine bodyPost_ret (v := .tuple #[.agg #[.slice sa r.st.length sc, .slice ka r.st.length kc, .int .i64 r.most, .int .i64 r.good, .int .i64 r.bad], .bool true]) (by simp [results, Try.results42, go_sem, r0, r1, r2, r3, r4]) rfl ⟨sa, sc, ka, kc, rfl, HE.out⟩

/-! ### One call, whatever it is -/
def ZS.step (Z : ZS) (k t key : Int) : ZS := if k = 1 then Z.spawn else if k = 2 then Z.block t key else if k = 3 then Z.stop t else if k = 4 then Z.free t else if k = 5 then Z.wake key else if k = 6 then Z.pick t else Z
def RS.step (r : RS) (k t key : Int) : RS := if k = 1 then r.spawn else if k = 2 then r.move t 1 2 key else if k = 3 then r.move t 1 3 0 else if k = 4 then r.move t 3 0 0 else if k = 5 then wkR key r r.st.length else if k = 6 then r.pick t else r
def okB (Z : ZS) (r : RS) (k t key : Int) : Bool :=
  if k = 1 then (Z.spawnNo == r.spawnNo && Z.spawnErr == r.spawnErr) else if k = 2 then (Z.inErr 1 t == r.moveErr t 1) else if k = 3 then (Z.inErr 1 t == r.moveErr t 1) else if k = 4 then (Z.inErr 3 t == r.moveErr t 3)
  else if k = 5 then (((waits Z.ths key : Nat) : Int) == ((wkC key r r.st.length : Nat) : Int)) else if k = 6 then pickB Z r t else true
theorem does_any {w : World} {X : Nat → Prop} {ps : Nat} {Z : ZS} {sa ka : Option Addr} {sc kc : Nat} {r : RS} (h : Zd w X ps Z) (hX : ∀ k, w.heap.size ≤ k → ¬ X k) (hN : Numb w X) (hra : RAt w sa sc ka kc r) (hn : r.st.length ≤ 8796093022208) (k t key : Int) (hsp : Z.spawned < 4611686018427387903) :
    Calls Try.prog 42 #[.pointer (some ⟨ps, 0, none⟩), rv sa sc ka kc r, .agg #[.int .i64 k, .int .i64 t, .int .i64 key]] w fun e w' => ∃ sa' sc' ka' kc', e = .returned (.tuple #[rv sa' sc' ka' kc' (r.step k t key), .bool (okB Z r k t key)]) ∧ Ends w X ps (Z.step k t key) sa' sc' ka' kc' (r.step k t key) w' := by
  unfold ZS.step RS.step okB
  by_cases h1 : k = 1
  · subst h1; exact does1 h hX hN hra hn t key hsp
  · by_cases h2 : k = 2
    · subst h2; exact does2 h hX hN hra hn t key
    · by_cases h3 : k = 3
      · subst h3; exact does3 h hX hN hra hn t key
      · by_cases h4 : k = 4
        · subst h4; exact does4 h hX hN hra hn t key
        · by_cases h5 : k = 5
          · subst h5; exact does5 h hX hN hra hn t key
          · by_cases h6 : k = 6
            · subst h6; exact does6 h hX hN hra hn t key
            · simp only [h1, h2, h3, h4, h5, h6, if_false]
              exact does0 h hX hN hra hn k t key h1 h2 h3 h4 h5 h6
end Go.Proofs.Ytlmgojnhmdppnaa
