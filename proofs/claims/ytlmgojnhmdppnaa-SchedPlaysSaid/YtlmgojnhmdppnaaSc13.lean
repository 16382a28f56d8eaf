/-
  The contracts of the document's own New, Move, Ready. Conditions: fewer than 2^43 threads.
-/
import Derived.Test.YtlmgojnhmdppnaaSc12
namespace Go.Proofs.Ytlmgojnhmdppnaa
open Go.RowKit Go.Maps
set_option linter.unusedVariables false

def set5 (w : World) (g : Nat) (y0 y1 y2 y3 y4 : Value) : World :=
  ((((w.setCell ⟨g, 0, none⟩ y0).setCell ⟨g, 1, none⟩ y1).setCell ⟨g, 2, none⟩ y2).setCell ⟨g, 3, none⟩ y3).setCell ⟨g, 4, none⟩ y4
theorem set5_blk {w : World} {g : Nat} {t : TypeId} {x0 x1 x2 x3 x4 : Value} (h : Blk w g t #[x0, x1, x2, x3, x4]) (y0 y1 y2 y3 y4 : Value) : Blk (set5 w g y0 y1 y2 y3 y4) g t #[y0, y1, y2, y3, y4] :=
  ((((h.set_ 0 y0).set_ 1 y1).set_ 2 y2).set_ 3 y3).set_ 4 y4
theorem set5_num {w : World} {g : Nat} {t : TypeId} {x0 x1 x2 x3 x4 : Value} (h : Blk w g t #[x0, x1, x2, x3, x4]) (ht : t ≠ 3) (y0 y1 y2 y3 y4 : Value) : NumKeep w (set5 w g y0 y1 y2 y3 y4) :=
  (((((NumKeep.refl w).set_ (p := ⟨g, 0, none⟩) h ht y0).set_ (p := ⟨g, 1, none⟩) (h.set_ 0 y0) ht y1).set_ (p := ⟨g, 2, none⟩) ((h.set_ 0 y0).set_ 1 y1) ht y2).set_ (p := ⟨g, 3, none⟩) (((h.set_ 0 y0).set_ 1 y1).set_ 2 y2) ht y3).set_ (p := ⟨g, 4, none⟩) ((((h.set_ 0 y0).set_ 1 y1).set_ 2 y2).set_ 3 y3) ht y4
theorem set5_below {w a : World} {B g : Nat} (h : Below B a w) (hg : B ≤ g) (y0 y1 y2 y3 y4 : Value) : Below B a (set5 w g y0 y1 y2 y3 y4) :=
  below_set (below_set (below_set (below_set (below_set h hg) hg) hg) hg) hg
theorem set5_far {w : World} {g g' : Nat} {t : TypeId} {cs : Array Value} (h : Blk w g' t cs) (hne : g' ≠ g) (y0 y1 y2 y3 y4 : Value) : Blk (set5 w g y0 y1 y2 y3 y4) g' t cs :=
  ((((h.far (p := ⟨g, 0, none⟩) hne y0).far (p := ⟨g, 1, none⟩) hne y1).far (p := ⟨g, 2, none⟩) hne y2).far (p := ⟨g, 3, none⟩) hne y3).far (p := ⟨g, 4, none⟩) hne y4
theorem set5_size (w : World) (g : Nat) (y0 y1 y2 y3 y4 : Value) : (set5 w g y0 y1 y2 y3 y4).heap.size = w.heap.size := by simp [set5, World.setCell]
section
variable {w wr : World} {sa ka : Option Addr} {sc kc : Nat} {r : RS}
/-- What is answered is stored. -/
theorem Bx.fin (h : Bx w sa sc ka kc r wr) (y0 y1 y2 y3 y4 : Value) : NumKeep wr (set5 wr (w.heap.size + 1) y0 y1 y2 y3 y4) ∧ Below w.heap.size w (set5 wr (w.heap.size + 1) y0 y1 y2 y3 y4) :=
  ⟨set5_num h.res (by decide) _ _ _ _ _, set5_below h.bel (by omega) _ _ _ _ _⟩
/-- The scheduler in the box is another one. -/
theorem Bx.turn (h : Bx w sa sc ka kc r wr) (sa' : Option Addr) (sc' : Nat) (ka' : Option Addr) (kc' : Nat) (r' : RS) :
    Bx w sa' sc' ka' kc' r' (set5 wr w.heap.size (.slice sa' r'.st.length sc') (.slice ka' r'.st.length kc') (.int .i64 r'.most) (.int .i64 r'.good) (.int .i64 r'.bad)) ∧ NumKeep wr (set5 wr w.heap.size (.slice sa' r'.st.length sc') (.slice ka' r'.st.length kc') (.int .i64 r'.most) (.int .i64 r'.good) (.int .i64 r'.bad)) :=
  ⟨⟨set5_blk h.box _ _ _ _ _, set5_far h.res (by omega) _ _ _ _ _, set5_below h.bel (Nat.le_refl _) _ _ _ _ _, by rw [set5_size]; exact h.siz⟩, set5_num h.box (by decide) _ _ _ _ _⟩
end

theorem rnew_any (most : Int) (w : World) : Calls Try.prog 41 #[.int .i64 most] w fun e w' => e = .returned (rv none 0 none 0 ⟨[], [], min (max most 1) 8, 0, 0⟩) ∧ Below w.heap.size w w' := by
  unfold rv
  by_cases h1 : most < 1
  · rw [show min (max most 1) 8 = 1 by omega]
    go_enter Try.func41, Try.ntmps41
    go_wp2_with fail
    refine bodyPost_ret (v := .agg #[.slice none 0 0, .slice none 0 0, .int .i64 1, .int .i64 0, .int .i64 0]) (by simp [results, Try.results41, go_sem]) rfl ⟨rfl, ?_⟩
    repeat (first | exact Below.refl _ _ | refine below_set ?_ (by omega) | refine Below.alloc ?_ (by first | exact Nat.le_refl _ | (simp; omega)) _)
  · by_cases h8 : 8 < most
    · rw [show min (max most 1) 8 = 8 by omega]
      go_enter Try.func41, Try.ntmps41
      go_wp2_with fail
      refine bodyPost_ret (v := .agg #[.slice none 0 0, .slice none 0 0, .int .i64 8, .int .i64 0, .int .i64 0]) (by simp [results, Try.results41, go_sem]) rfl ⟨rfl, ?_⟩
      repeat (first | exact Below.refl _ _ | refine below_set ?_ (by omega) | refine Below.alloc ?_ (by first | exact Nat.le_refl _ | (simp; omega)) _)
    · rw [show min (max most 1) 8 = most by omega]
      go_enter Try.func41, Try.ntmps41
      go_wp2_with fail
      refine bodyPost_ret (v := .agg #[.slice none 0 0, .slice none 0 0, .int .i64 most, .int .i64 0, .int .i64 0]) (by simp [results, Try.results41, go_sem]) rfl ⟨rfl, ?_⟩
      repeat (first | exact Below.refl _ _ | refine below_set ?_ (by omega) | refine Below.alloc ?_ (by first | exact Nat.le_refl _ | (simp; omega)) _)

def RS.moveErr (r : RS) (t fr : Int) : Int := if r.at_ t = 0 then 61 else if r.at_ t = fr then 0 else 60
def RS.move (r : RS) (t fr to key : Int) : RS := if r.moveErr t fr = 0 then r.put (t - 1).toNat to key else r

set_option maxRecDepth 100000 in
set_option maxHeartbeats 2000000 in
theorem rmove_any {w : World} {sa ka : Option Addr} {sc kc : Nat} {r : RS} (h : RAt w sa sc ka kc r) (hn : r.st.length ≤ 8796093022208) (t fr to ky : Int) (hfr : fr ≠ 0) :
    Calls Try.prog 97 #[rv sa sc ka kc r, .int .i64 t, .int .i64 fr, .int .i64 to, .int .i64 ky] w fun e w' => ∃ sa' sc' ka' kc', e = .returned (.tuple #[rv sa' sc' ka' kc' (r.move t fr to ky), .int .i64 (r.moveErr t fr)]) ∧ RAt w' sa' sc' ka' kc' (r.move t fr to ky) ∧ Below w.heap.size w w' := by
  have BX0 := Lib.hid (Bx.laid (sa := sa) (sc := sc) (ka := ka) (kc := kc) (r := r) w)
  have h0 := h.keep (((NumKeep.below ((Below.refl _ _).alloc (Nat.le_refl _) (.cells (rc sa sc ka kc r) 82))).trans (NumKeep.below ((Below.refl _ _).alloc (Nat.le_refl _) (.cells #[.slice none 0 0, .slice none 0 0, .int .i64 0, .int .i64 0, .int .i64 0] 82)))))
  have hs1 := rstate_any h0 hn t
  have HS1 := Lib.hid hs1; clear hs1
  have HR0 := Lib.hid h0; clear h0 h
  unfold rc at BX0 HS1 HR0
  have H2 : Hid (∀ W sa sc ka kc, RAt W sa sc ka kc r → Calls Try.prog 46 #[rv sa sc ka kc r, .int .i64 t] W fun e w' => e = .returned (.int .i64 (r.at_ t)) ∧ Below W.heap.size W w') := Lib.hid (fun W sa sc ka kc hh => rstate_any hh hn t)
  unfold rv at HS1 H2 ⊢
  by_cases h0 : r.at_ t = 0
  · have e1 : r.moveErr t fr = 61 := by unfold RS.moveErr; rw [if_pos h0]
    have e2 : r.move t fr to ky = r := by unfold RS.move; rw [e1]; rfl
    rw [e1, e2]
    rw [h0] at HS1
    clear e1 e2 h0 H2
    go_enter Try.func97, Try.ntmps97
    go_wp2_with fail
    refine HS1.out.mono ?_
    rintro e w1 ⟨rfl, b1⟩
    have hbx := BX0.out.below b1
    obtain ⟨c0, c1, c2, c3, c4, _⟩ := hbx.box.five
    obtain ⟨r0, r1, r2, r3, r4, q0, q1, q2, q3, q4⟩ := hbx.res.five
    have hra := HR0.out.keep (NumKeep.below b1)
    obtain ⟨f1, f2⟩ := hbx.fin (.slice sa r.st.length sc) (.slice ka r.st.length kc) (.int .i64 r.most) (.int .i64 r.good) (.int .i64 r.bad)
    have F1 := Lib.hid (hra.keep f1); clear hra f1
    have F2 := Lib.hid f2; clear f2
    clear b1 hbx
    go_wp2_with fail
    refine bodyPost_ret (v := .tuple #[.agg #[.slice sa r.st.length sc, .slice ka r.st.length kc, .int .i64 r.most, .int .i64 r.good, .int .i64 r.bad], .int .i64 61]) (by simp [results, Try.results97, go_sem, r0, r1, r2, r3, r4]) rfl ⟨sa, sc, ka, kc, rfl, F1.out, F2.out⟩
  · have hb0 : (r.at_ t == 0) = false := by simpa using h0
    by_cases hf : r.at_ t = fr
    · have hti : 1 ≤ t ∧ t ≤ r.st.length := by
        refine Classical.byContradiction fun hc => h0 ?_
        unfold RS.at_; rw [if_neg hc]
      obtain ⟨i, rfl⟩ : ∃ i : Nat, t = (i : Int) + 1 := ⟨(t - 1).toNat, by omega⟩
      have hi : i < r.st.length := by omega
      have e1 : r.moveErr ((i : Int) + 1) fr = 0 := by unfold RS.moveErr; rw [if_neg h0, if_pos hf]
      have e2 : r.move ((i : Int) + 1) fr to ky = r.put i to ky := by unfold RS.move; rw [if_pos e1]; congr 1; omega
      rw [e1, e2]
      have hfb : (fr != fr) = false := by simp
      have hfb0 : (fr == 0) = false := by simpa using hfr
      have HP : Hid (∀ W sa sc ka kc, RAt W sa sc ka kc r → Calls Try.prog 121 #[rv sa sc ka kc r, .int .i64 ((i : Int) + 1), .int .i64 to, .int .i64 ky] W fun e w' => ∃ sa' sc' ka' kc', e = .returned (rv sa' sc' ka' kc' (r.put i to ky)) ∧ RAt w' sa' sc' ka' kc' (r.put i to ky) ∧ Below W.heap.size W w') := Lib.hid (fun W sa sc ka kc hh => rput_any hh hn hi to ky)
      rw [hf] at HS1 H2
      obtain ⟨r', hr'⟩ : ∃ r', r.put i to ky = r' := ⟨_, rfl⟩
      simp only [hr'] at HP ⊢
      clear hr'
      unfold rv at HP
      clear e1 e2 h0 hb0 hf hti
      go_enter Try.func97, Try.ntmps97
      go_wp2_with fail
      refine HS1.out.mono ?_
      rintro e w1 ⟨rfl, b1⟩
      have hbx := BX0.out.below b1
      obtain ⟨c0, c1, c2, c3, c4, _⟩ := hbx.box.five
      have hra := HR0.out.keep (NumKeep.below b1)
      have HS2 := Lib.hid (H2.out _ _ _ _ _ hra)
      clear b1
      go_wp2_with fail
      refine HS2.out.mono ?_
      rintro e w2 ⟨rfl, b2⟩
      have hbx2 := hbx.below b2
      clear c0 c1 c2 c3 c4 hbx
      obtain ⟨c0, c1, c2, c3, c4, _⟩ := hbx2.box.five
      have hra2 := hra.keep (NumKeep.below b2)
      have HP2 := Lib.hid (HP.out _ _ _ _ _ hra2)
      clear b2 hra hra2
      go_wp2_with fail
      refine HP2.out.mono ?_
      rintro e w3 ⟨sa', sc', ka', kc', rfl, hra3, b3⟩
      have hbx3 := hbx2.below b3
      clear c0 c1 c2 c3 c4 hbx2
      obtain ⟨r0, r1, r2, r3, r4, q0, q1, q2, q3, q4⟩ := hbx3.res.five
      obtain ⟨f1, f2⟩ := hbx3.fin (.slice sa' r'.st.length sc') (.slice ka' r'.st.length kc') (.int .i64 r'.most) (.int .i64 r'.good) (.int .i64 r'.bad)
      have F1 := Lib.hid (hra3.keep f1); clear hra3 f1
      have F2 := Lib.hid f2; clear f2
      clear b3 hbx3
      go_wp2_with fail
      refine bodyPost_ret (v := .tuple #[.agg #[.slice sa' r'.st.length sc', .slice ka' r'.st.length kc', .int .i64 r'.most, .int .i64 r'.good, .int .i64 r'.bad], .int .i64 0]) (by simp [results, Try.results97, go_sem, r0, r1, r2, r3, r4]) rfl ⟨sa', sc', ka', kc', rfl, F1.out, F2.out⟩
    · have e1 : r.moveErr t fr = 60 := by unfold RS.moveErr; rw [if_neg h0, if_neg hf]
      have e2 : r.move t fr to ky = r := by unfold RS.move; rw [e1]; rfl
      rw [e1, e2]
      have hfb : (r.at_ t != fr) = true := by simpa using hf
      generalize r.at_ t = x at HS1 H2 hfb hb0
      clear e1 e2 h0 hf
      go_enter Try.func97, Try.ntmps97
      go_wp2_with fail
      refine HS1.out.mono ?_
      rintro e w1 ⟨rfl, b1⟩
      have hbx := BX0.out.below b1
      obtain ⟨c0, c1, c2, c3, c4, _⟩ := hbx.box.five
      have hra := HR0.out.keep (NumKeep.below b1)
      have HS2 := Lib.hid (H2.out _ _ _ _ _ hra)
      clear b1
      go_wp2_with fail
      refine HS2.out.mono ?_
      rintro e w2 ⟨rfl, b2⟩
      have hbx2 := hbx.below b2
      clear c0 c1 c2 c3 c4 hbx
      obtain ⟨c0, c1, c2, c3, c4, _⟩ := hbx2.box.five
      obtain ⟨r0, r1, r2, r3, r4, q0, q1, q2, q3, q4⟩ := hbx2.res.five
      have hra2 := hra.keep (NumKeep.below b2)
      obtain ⟨f1, f2⟩ := hbx2.fin (.slice sa r.st.length sc) (.slice ka r.st.length kc) (.int .i64 r.most) (.int .i64 r.good) (.int .i64 r.bad)
      have F1 := Lib.hid (hra2.keep f1); clear hra2 f1 hra
      have F2 := Lib.hid f2; clear f2
      clear b2 hbx2
      go_wp2_with fail
      refine bodyPost_ret (v := .tuple #[.agg #[.slice sa r.st.length sc, .slice ka r.st.length kc, .int .i64 r.most, .int .i64 r.good, .int .i64 r.bad], .int .i64 60]) (by simp [results, Try.results97, go_sem, r0, r1, r2, r3, r4]) rfl ⟨sa, sc, ka, kc, rfl, F1.out, F2.out⟩

/-! ### Ready -/
def readyR (st : List Int) : Nat → List Int
  | 0 => []
  | m + 1 => readyR st m ++ if st.getD m 0 = 1 then [(m : Int) + 1] else []
theorem readyR_le (st : List Int) (m : Nat) : (readyR st m).length ≤ m := by
  induction m with
  | zero => simp [readyR]
  | succ m ih => simp only [readyR, List.length_append]; split <;> simp <;> omega

set_option maxRecDepth 100000 in
set_option maxHeartbeats 2000000 in
theorem rready_any {w : World} {sa ka : Option Addr} {sc kc : Nat} {r : RS} (h : RAt w sa sc ka kc r) (hn : r.st.length ≤ 8796093022208) :
    Calls Try.prog 48 #[rv sa sc ka kc r] w fun e w' => ∃ u, e = .returned u ∧ Below w.heap.size w w' ∧ w'.ownsRow (w.heap.size + 1) 3 1 u (readyR r.st r.st.length).length ((readyR r.st r.st.length).map (Value.int .i64)) := by
  obtain ⟨i0, hi0, hz0, hz1, hz2⟩ := info_parts info3
  have I1 := Lib.hid h.ints1
  have HS : Hid (∀ m, readyR r.st (m + 1) = readyR r.st m ++ if r.st.getD m 0 = 1 then [(m : Int) + 1] else []) := Lib.hid (fun m => rfl)
  have HL := Lib.hid (readyR_le r.st)
  have hown0 : ((w.alloc (Obj.cells (rc sa sc ka kc r) 82)).alloc (Obj.cells #[] 3)).ownsRow (w.heap.size + 1) 3 1 (.slice (some ⟨w.heap.size + 1, 0, none⟩) 0 0) 0 [] := by
    have := World.ownsRow_made (base := w.heap.size + 1) (e := 3) (size := 1) (w.alloc (Obj.cells (rc sa sc ka kc r) 82)) #[] 0 (by simp) (by unfold maxLen; omega) rfl
    simpa using this
  have hbx0 : Blk ((w.alloc (Obj.cells (rc sa sc ka kc r) 82)).alloc (Obj.cells #[] 3)) w.heap.size 82 (rc sa sc ka kc r) := (Blk.new w _ _).alloc _
  have hb0 : Below w.heap.size w ((w.alloc (Obj.cells (rc sa sc ka kc r) 82)).alloc (Obj.cells #[] 3)) := ((Below.refl _ _).alloc (Nat.le_refl _) _).alloc (by simp) _
  have HO := Lib.hid hown0; clear hown0
  have HX := Lib.hid hbx0; clear hbx0
  have HB := Lib.hid hb0; clear hb0
  clear h
  unfold rc at HO HX HB
  unfold rv
  generalize r.most = x2 at *
  generalize r.good = x3 at *
  generalize r.bad = x4 at *
  generalize r.st = st at *
  go_enter Try.func48, Try.ntmps48
  go_wp2_with fail
  go_loopw [3, 4] (fun u j wr => ∃ m : Nat, m ≤ st.length ∧ j = .int .i64 m ∧ Below w.heap.size w wr ∧ Blk wr w.heap.size 82 #[.slice sa st.length sc, .slice ka st.length kc, .int .i64 x2, .int .i64 x3, .int .i64 x4] ∧ wr.ownsRow (w.heap.size + 1) 3 1 u (readyR st m).length ((readyR st m).map (Value.int .i64))) (fun _ j _ => st.length - (intOf j).toNat)
  case atStart => exact ⟨0, by omega, rfl, HB.out, HX.out, HO.out⟩
  case round =>
    clear HO HX HB
    obtain ⟨m, hm, rfl, hb, hx, hown⟩ := hrel
    obtain ⟨c0, c1, c2, c3, c4, _⟩ := hx.five
    have zs := hx.lt
    have HB := Lib.hid hb; clear hb
    have HX := Lib.hid hx; clear hx
    have HOWN := Lib.hid hown; clear hown
    by_cases hlt : m < st.length
    · have hs := HS.out m
      have hl := HL.out m
      obtain ⟨b1, f1, rfl, hlb1, d1⟩ := (I1.out.below HB.out) m hlt
      generalize st.getD m 0 = y at d1 hs
      by_cases hy : y = 1
      · subst hy
        rw [if_pos rfl] at hs
        have HS1 := Lib.hid hs; clear hs
        go_wp2_with (at_builtin; refine wpList_append_own _ rfl _ _ 30 rfl (w.heap.size + 1) 3 i0 (.int .i64 0) 1 8 Try.underlying30 hi0 hz0 hz1 hz2 rfl (by decide) _ _ _ rfl (HOWN.out.alloc _) ⟨wr.heap.size, 0, none⟩ 1 1 [.int .i64 ((m : Int) + 1)] rfl rfl (cell_one_new wr (.int .i64 ((m : Int) + 1)) 3) (ints_oneCell .i64 [(m : Int) + 1]) (by unfold maxLen; omega) (by omega) (by simp; omega) ?_)
        intro v' w' hown' hgrow _
        have hk : Keep (fun k => k < w.heap.size + 1) (wr.alloc (Obj.cells #[Value.int .i64 ((m : Int) + 1)] 3)) w' := Keep.ofGrown hgrow (fun g e hx => by have := (HOWN.out.lt g e).1; omega)
        have hbn : Below w.heap.size w w' := (HB.out.alloc (by omega) _).trans (hk.toBelow (fun k hk => by omega) (by simp; omega))
        have hxn := (HX.out.alloc (Obj.cells #[Value.int .i64 ((m : Int) + 1)] 3)).keep hk (by omega)
        have HBN := Lib.hid hbn; clear hbn
        have HXN := Lib.hid hxn; clear hxn
        have HOW2 : Hid (w'.ownsRow (w.heap.size + 1) 3 1 v' (readyR st (m + 1)).length ((readyR st (m + 1)).map (Value.int .i64))) := by
          refine Lib.hid ?_; rw [HS1.out]; simpa using hown'
        clear hown' hgrow hk
        go_wp2_with fail
        go_roundw
        case rel => exact ⟨m + 1, by omega, by go_num, HBN.out, HXN.out, HOW2.out⟩
        case measure => simp [intOf]; omega
      · rw [if_neg hy] at hs
        have hyb : (y == 1) = false := by simpa using hy
        have HS1 := Lib.hid hs; clear hs
        clear hy
        go_wp2_with fail
        go_roundw
        case rel => exact ⟨m + 1, by omega, by go_num, HB.out, HX.out, by rw [HS1.out]; simpa using HOWN.out⟩
        case measure => simp [intOf]; omega
    · obtain rfl : m = st.length := by omega
      go_wp2_with fail
      go_ret
      exact ⟨_, rfl, HB.out, HOWN.out⟩
end Go.Proofs.Ytlmgojnhmdppnaa
