/-
  The contract of the document's own Spawn. Conditions: fewer than 2^43 threads.
-/
import Derived.Test.YtlmgojnhmdppnaaSc13
namespace Go.Proofs.Ytlmgojnhmdppnaa
open Go.RowKit Go.Maps
set_option linter.unusedVariables false

def cntR (st : List Int) : Nat → Nat
  | 0 => 0
  | m + 1 => cntR st m + if st.getD m 0 = 0 then 0 else 1
theorem cntR_le (st : List Int) (m : Nat) : cntR st m ≤ m := by
  induction m with
  | zero => exact Nat.le_refl _
  | succ m ih => simp only [cntR]; split <;> omega
def RS.more (r : RS) : Bool := decide ((cntR r.st r.st.length : Int) < r.most)
def RS.spawn (r : RS) : RS := if r.more = true then { r with st := r.st ++ [1], keys := r.keys ++ [0] } else r
def RS.spawnNo (r : RS) : Int := if r.more = true then (r.st.length : Int) + 1 else 0
def RS.spawnErr (r : RS) : Int := if r.more = true then 0 else 3

theorem NumKeep.drew (w : World) : NumKeep w w.drew := ⟨Nat.le_refl _, fun _ _ h => h⟩
theorem Two.set_ {w : World} {B n1 n2 g i : Nat} {v1 v2 : Value} {l1 l2 : List Int} {t : TypeId} {cs : Array Value} (h : Two w B v1 v2 n1 n2 l1 l2) (hb : Blk w g t cs) (ht : t ≠ 3) (u : Value) : Two (w.setCell ⟨g, i, none⟩ u) B v1 v2 n1 n2 l1 l2 :=
  have nk := (NumKeep.refl w).set_ (p := ⟨g, i, none⟩) hb ht u
  ⟨num_own h.o1 nk, num_own h.o2 nk, h.ne⟩
theorem take_snoc (l : List Int) (k : Nat) (hk : k < l.length) : l.take (k + 1) = l.take k ++ [l.getD k 0] := by
  rw [List.take_succ_eq_append_getElem hk]; simp [List.getD, hk]

set_option maxRecDepth 1000000 in
set_option maxHeartbeats 4000000 in
theorem rspawn_any {w : World} {sa ka : Option Addr} {sc kc : Nat} {r : RS} (h : RAt w sa sc ka kc r) (hn : r.st.length ≤ 8796093022208) :
    Calls Try.prog 96 #[rv sa sc ka kc r] w fun e w' => ∃ sa' sc' ka' kc', e = .returned (.tuple #[rv sa' sc' ka' kc' r.spawn, .int .i64 r.spawnNo, .int .i64 r.spawnErr]) ∧ RAt w' sa' sc' ka' kc' r.spawn ∧ Below w.heap.size w w' := by
  obtain ⟨i0, hi0, hz0, hz1, hz2⟩ := info_parts info3
  have BX0 := Lib.hid (Bx.laid (sa := sa) (sc := sc) (ka := ka) (kc := kc) (r := r) w)
  have h0 := h.keep (((NumKeep.below ((Below.refl _ _).alloc (Nat.le_refl _) (.cells (rc sa sc ka kc r) 82))).trans (NumKeep.below ((Below.refl _ _).alloc (Nat.le_refl _) (.cells #[.slice none 0 0, .slice none 0 0, .int .i64 0, .int .i64 0, .int .i64 0] 82)))))
  have HKL := Lib.hid h.len
  have I1 := Lib.hid h.ints1
  have I2 := Lib.hid h.ints2
  have HR0 := Lib.hid h0; clear h0 h
  have HC := Lib.hid (cntR_le r.st)
  have HCS : Hid (∀ m, cntR r.st (m + 1) = cntR r.st m + if r.st.getD m 0 = 0 then 0 else 1) := Lib.hid (fun m => rfl)
  have HT1 := Lib.hid (take_snoc r.st)
  have HT2 := Lib.hid (take_snoc r.keys)
  unfold rv
  unfold rc at BX0 HR0
  go_enter Try.func96, Try.ntmps96
  go_wp2_with fail
  generalize ((w.alloc (.cells #[.slice sa r.st.length sc, .slice ka r.st.length kc, .int .i64 r.most, .int .i64 r.good, .int .i64 r.bad] 82)).alloc (.cells #[.slice none 0 0, .slice none 0 0, .int .i64 0, .int .i64 0, .int .i64 0] 82)) = W0 at BX0 HR0 ⊢
  obtain ⟨c0, c1, c2, c3, c4, _⟩ := BX0.out.box.five
  have zs := BX0.out.siz
  have hzero : cntR r.st 0 = 0 := rfl
  go_loopw [5, 6] (fun c j wq => ∃ m : Nat, m ≤ r.st.length ∧ j = .int .i64 m ∧ c = .int .i64 (cntR r.st m) ∧ wq = W0) (fun _ j _ => r.st.length - (intOf j).toNat)
  case atStart => exact ⟨0, by omega, rfl, by rw [hzero]; rfl, rfl⟩
  case round =>
    obtain ⟨m, hm, rfl, rfl, hwq⟩ := hrel
    subst hwq
    have hc := HC.out m
    by_cases hlt : m < r.st.length
    · have hs := HCS.out m
      obtain ⟨b1, o1, rfl, hlb1, d1⟩ := (I1.out.below BX0.out.bel) m hlt
      generalize r.st.getD m 0 = y at d1 hs
      generalize cntR r.st m = g at hc hs ⊢
      by_cases hy : y = 0
      · rw [if_pos hy] at hs
        have hyb : (y != 0) = false := by simpa using hy
        have HS := Lib.hid hs; clear hs hy
        go_wp2_with fail
        go_roundw
        case rel => exact ⟨m + 1, by omega, by go_num, by rw [HS.out]; rfl, trivial⟩
        case measure => simp [intOf]; omega
      · rw [if_neg hy] at hs
        have hyb : (y != 0) = true := by simpa using hy
        have HS := Lib.hid hs; clear hs hy
        go_wp2_with fail
        go_roundw
        case rel => exact ⟨m + 1, by omega, by go_num, by rw [HS.out]; go_num, trivial⟩
        case measure => simp [intOf]; omega
    · have hmm : m = r.st.length := by omega
      have hcm : cntR r.st m = cntR r.st r.st.length := by rw [hmm]
      by_cases hmo : r.more = true
      · have hlm : ¬ r.most ≤ (cntR r.st m : Int) := by rw [hcm]; unfold RS.more at hmo; simp at hmo; omega
        have hfin : Hid (r.spawnNo = (r.st.length : Int) + 1 ∧ r.spawnErr = 0 ∧ r.spawn = ⟨r.st ++ [1], r.keys ++ [0], r.most, r.good, r.bad⟩) := Lib.hid ⟨by unfold RS.spawnNo; rw [if_pos hmo], by unfold RS.spawnErr; rw [if_pos hmo], by unfold RS.spawn; rw [if_pos hmo]⟩
        have TW0 := Lib.hid (Two.start (B := w.heap.size + 2) wr zs)
        have BX1 := Lib.hid ((BX0.out.alloc (Obj.cells #[] 3)).alloc (Obj.cells #[] 3))
        generalize cntR r.st m = g at hc hlm hcm ⊢
        clear hmm hcm hmo hzero
        go_wp2_with fail
        go_loopw [7, 8, 9] (fun v1 v2 j wr => ∃ k : Nat, k ≤ r.st.length ∧ j = .int .i64 k ∧ Two wr (w.heap.size + 2) v1 v2 k k (r.st.take k) (r.keys.take k) ∧ Bx w sa sc ka kc r wr) (fun _ _ j _ => r.st.length - (intOf j).toNat)
        case atStart => exact ⟨0, by omega, rfl, TW0.out, BX1.out⟩
        case round =>
          clear TW0 BX1
          obtain ⟨k, hk, rfl, htw, hbx⟩ := hrel
          clear c0 c1 c2 c3 c4
          obtain ⟨c0, c1, c2, c3, c4, p0, p1, p2, p3, p4⟩ := hbx.box.five
          have zr := hbx.siz
          by_cases hkl : k < r.st.length
          · have hs1 := HT1.out k hkl
            have hs2 := HT2.out k (by rw [HKL.out]; exact hkl)
            obtain ⟨b1, f1, rfl, hlb1, d1⟩ := (I1.out.below hbx.bel) k hkl
            obtain ⟨b2, f2, rfl, hlb2, d2⟩ := I2.out k (by rw [HKL.out]; exact hkl)
            generalize r.st.take k = L1 at htw hs1
            generalize r.keys.take k = L2 at htw hs2
            generalize r.st.getD k 0 = y1 at d1 hs1
            generalize r.keys.getD k 0 = y2 at d2 hs2
            have HS1 := Lib.hid hs1; clear hs1
            have HS2 := Lib.hid hs2; clear hs2
            have TW := Lib.hid htw; clear htw
            have BX := Lib.hid hbx; clear hbx
            go_wp2_with (at_builtin; refine wpList_append_lies _ rfl _ _ 30 rfl (w.heap.size + 2) 3 i0 (.int .i64 0) 1 8 Try.underlying30 hi0 hz0 hz1 hz2 rfl (by decide) _ k _ rfl (TW.out.alloc _).o1 ⟨wr.heap.size, 0, none⟩ 1 1 [.int .i64 y1] rfl rfl (cell_one_new wr (.int .i64 y1) 3) (ints_oneCell .i64 [y1]) (by decide) (by unfold maxLen; omega) (by omega) (by simp; omega) (wr.heap.size + 1) (by simp) ?_)
            intro g1 capg1 w1 hown hgr hat hltg1
            have TW1 := Lib.hid ((TW.out.alloc _).push hown hgr (by simpa using hat))
            have BX1 := Lib.hid ((BX.out.alloc _).grown hgr (TW.out.alloc _).o1)
            clear hown hgr hat
            have zw1 := BX1.out.siz
            rw [← BX1.out.bel.cell (p := ⟨b2, f2 + k, none⟩) hlb2] at d2
            obtain ⟨e0, e1, e2, e3, e4, _⟩ := BX1.out.box.five
            have hlb3 : b2 < w1.heap.size := Nat.lt_of_lt_of_le hlb2 BX1.out.bel.size
            clear c0 c1 c2 c3 c4 d1
            go_wp2_with (at_builtin; refine wpList_append_lies _ rfl _ _ 30 rfl (w.heap.size + 2) 3 i0 (.int .i64 0) 1 8 Try.underlying30 hi0 hz0 hz1 hz2 rfl (by decide) _ k _ rfl (TW1.out.alloc _).o2 ⟨w1.heap.size, 0, none⟩ 1 1 [.int .i64 y2] rfl rfl (cell_one_new w1 (.int .i64 y2) 3) (ints_oneCell .i64 [y2]) (by decide) (by unfold maxLen; omega) (by omega) (by simp; omega) (w1.heap.size + 1) (by simp) ?_)
            intro g2 capg2 w2 hown hgr hat hltg2
            have TW2 := Lib.hid ((TW1.out.alloc _).swap.push hown hgr (by simpa using hat)).swap
            have BX2 := Lib.hid ((BX1.out.alloc _).grown hgr (TW1.out.alloc _).o2)
            clear hown hgr hat
            have zw2 := BX2.out.siz
            go_wp2_with fail
            go_roundw
            case rel => exact ⟨k + 1, by omega, by go_num, by rw [HS1.out, HS2.out]; exact TW2.out, BX2.out⟩
            case measure => simp [intOf]; omega
          · obtain rfl : k = r.st.length := by omega
            have TW := Lib.hid htw; clear htw
            have BX := Lib.hid hbx; clear hbx
            have hpost : Hid (∀ v1' v2' W a1 cc1 a2 cc2, v1' = Value.slice a1 (r.st.length + 1) cc1 → v2' = Value.slice a2 (r.st.length + 1) cc2 → Two W (w.heap.size + 2) v1' v2' (r.st.length + 1) (r.st.length + 1) (r.st ++ [1]) (r.keys ++ [0]) → RAt W a1 cc1 a2 cc2 ⟨r.st ++ [1], r.keys ++ [0], r.most, r.good, r.bad⟩) := Lib.hid (by
              intro v1' v2' W a1 cc1 a2 cc2 e1 e2 ht
              subst e1 e2
              refine ⟨?_, ?_⟩
              · show W.ownsRow 0 3 1 (.slice a1 (r.st ++ [1]).length cc1) (r.st ++ [1]).length ((r.st ++ [1]).map _)
                rw [show (r.st ++ [(1 : Int)]).length = r.st.length + 1 from by simp]
                exact ⟨ht.o1.1, by rcases ht.o1.2 with x | ⟨g, cap, cur, x1, x2, x3⟩
                                   · exact .inl x
                                   · exact .inr ⟨g, cap, cur, x1, Nat.zero_le _, x3⟩⟩
              · show W.ownsRow 0 3 1 (.slice a2 (r.st ++ [1]).length cc2) (r.st ++ [1]).length ((r.keys ++ [0]).map _)
                rw [show (r.st ++ [(1 : Int)]).length = r.st.length + 1 from by simp]
                exact ⟨ht.o2.1, by rcases ht.o2.2 with x | ⟨g, cap, cur, x1, x2, x3⟩
                                   · exact .inl x
                                   · exact .inr ⟨g, cap, cur, x1, Nat.zero_le _, x3⟩⟩)
            have hL1 : r.st.take r.st.length = r.st := List.take_length
            have hL2 : r.keys.take r.st.length = r.keys := by rw [← HKL.out]; exact List.take_length
            rw [hL1, hL2] at TW
            clear hL1 hL2
            go_wp2_with (at_builtin; refine wpList_append_lies _ rfl _ _ 30 rfl (w.heap.size + 2) 3 i0 (.int .i64 0) 1 8 Try.underlying30 hi0 hz0 hz1 hz2 rfl (by decide) _ r.st.length _ rfl (TW.out.alloc _).o1 ⟨wr.heap.size, 0, none⟩ 1 1 [.int .i64 1] rfl rfl (cell_one_new wr (.int .i64 1) 3) (ints_oneCell .i64 [1]) (by decide) (by unfold maxLen; omega) (by omega) (by simp; omega) (wr.heap.size + 1) (by simp) ?_)
            intro g1 capg1 w1 hown hgr hat hltg1
            have TW1 := Lib.hid ((TW.out.alloc _).push hown hgr (by simpa using hat))
            have BX1 := Lib.hid ((BX.out.alloc _).grown hgr (TW.out.alloc _).o1)
            clear hown hgr hat
            have zw1 := BX1.out.siz
            have hb1 := BX1.out.box
            have hr1 := BX1.out.res
            obtain ⟨e0, e1, e2, e3, e4, q0, q1, q2, q3, q4⟩ := hb1.five
            have hz4 : w.heap.size < w1.heap.size := by omega
            have T1s := Lib.hid (TW1.out.set_ (i := 0) hb1 (by decide) (.slice (some ⟨g1, 0, none⟩) (r.st.length + 1) capg1))
            have hb2 := hb1.set_ 0 (.slice (some ⟨g1, 0, none⟩) (r.st.length + 1) capg1)
            have hr2 := hr1.far (p := ⟨w.heap.size, 0, none⟩) (by show w.heap.size + 1 ≠ w.heap.size; omega) (.slice (some ⟨g1, 0, none⟩) (r.st.length + 1) capg1)
            have hB2 : Below w.heap.size w (w1.setCell ⟨w.heap.size, 0, none⟩ (.slice (some ⟨g1, 0, none⟩) (r.st.length + 1) capg1)) := below_set BX1.out.bel (Nat.le_refl _)
            have hs2 : w.heap.size + 2 ≤ (w1.setCell ⟨w.heap.size, 0, none⟩ (.slice (some ⟨g1, 0, none⟩) (r.st.length + 1) capg1)).heap.size := by simpa [World.setCell] using zw1
            have HB2 := Lib.hid hb2; clear hb2
            have HR2 := Lib.hid hr2; clear hr2
            have HBB := Lib.hid hB2; clear hB2
            clear hb1 hr1 TW1 BX1 BX c0 c1 c2 c3 c4
            have hsz1 : (w1.setCell ⟨w.heap.size, 0, none⟩ (.slice (some ⟨g1, 0, none⟩) (r.st.length + 1) capg1)).heap.size = w1.heap.size := by simp [World.setCell]
            have hnew := cell_one_new (w1.setCell ⟨w.heap.size, 0, none⟩ (.slice (some ⟨g1, 0, none⟩) (r.st.length + 1) capg1)) (.int .i64 0) 3
            rw [hsz1] at hnew
            have HNEW := Lib.hid hnew; clear hnew
            have HSZ1 := Lib.hid hsz1; clear hsz1
            go_wp2_with (at_builtin; refine wpList_append_lies _ rfl _ _ 30 rfl (w.heap.size + 2) 3 i0 (.int .i64 0) 1 8 Try.underlying30 hi0 hz0 hz1 hz2 rfl (by decide) _ r.st.length _ rfl (T1s.out.alloc _).o2 ⟨w1.heap.size, 0, none⟩ 1 1 [.int .i64 0] rfl rfl HNEW.out (ints_oneCell .i64 [0]) (by decide) (by unfold maxLen; omega) (by omega) (by simp [World.setCell]; omega) (w1.heap.size + 1) (by simp [World.setCell]) ?_)
            intro g2 capg2 w2 hown hgr hat hqg2
            have TW2 := Lib.hid ((T1s.out.alloc _).swap.push hown hgr (by simpa [World.setCell] using hat)).swap
            have hk2 : Keep (fun k => k < w.heap.size + 2) ((w1.setCell ⟨w.heap.size, 0, none⟩ (.slice (some ⟨g1, 0, none⟩) (r.st.length + 1) capg1)).alloc (Obj.cells #[Value.int .i64 0] 3)) w2 := Keep.ofGrown hgr (fun g e hx => by have := ((T1s.out.alloc (Obj.cells #[Value.int .i64 0] 3)).o2.lt g e).1; omega)
            have hb3 := (HB2.out.alloc (Obj.cells #[Value.int .i64 0] 3)).keep hk2 (by omega)
            have hr3 := (HR2.out.alloc (Obj.cells #[Value.int .i64 0] 3)).keep hk2 (by omega)
            have hB3 : Below w.heap.size w w2 := (HBB.out.alloc (by omega) _).trans (hk2.toBelow (fun k hk => by omega) (by simp; omega))
            have hz6 : w.heap.size + 2 ≤ w2.heap.size := by have := hk2.size; simp at this; omega
            clear hown hgr hat hk2 e0 e1 e2 e3 e4 q0 q1 q2 q3 q4
            obtain ⟨e0, e1, e2, e3, e4, q0, q1, q2, q3, q4⟩ := hb3.five
            have hr4 := hr3.far (p := ⟨w.heap.size, 1, none⟩) (by show w.heap.size + 1 ≠ w.heap.size; omega) (.slice (some ⟨g2, 0, none⟩) (r.st.length + 1) capg2)
            have hb4 := hb3.set_ 1 (.slice (some ⟨g2, 0, none⟩) (r.st.length + 1) capg2)
            have T2s := Lib.hid (TW2.out.set_ (i := 1) hb3 (by decide) (.slice (some ⟨g2, 0, none⟩) (r.st.length + 1) capg2))
            have hB4 : Below w.heap.size w (w2.setCell ⟨w.heap.size, 1, none⟩ (.slice (some ⟨g2, 0, none⟩) (r.st.length + 1) capg2)) := below_set hB3 (Nat.le_refl _)
            have hra := hpost.out _ _ _ _ _ _ _ rfl rfl T2s.out
            obtain ⟨s0, s1, s2, s3, s4, u0, u1, u2, u3, u4⟩ := hr3.five
            have t1 := set5_num hr4 (by decide) (.slice (some ⟨g1, 0, none⟩) (r.st.length + 1) capg1) (.slice (some ⟨g2, 0, none⟩) (r.st.length + 1) capg2) (.int .i64 r.most) (.int .i64 r.good) (.int .i64 r.bad)
            have hz7 : w.heap.size < w2.heap.size := by omega
            have hz8 : w.heap.size + 1 < w2.heap.size := by omega
            have F1 := Lib.hid ((hra.keep t1).keep (NumKeep.drew _)); clear t1
            have F2 := Lib.hid (set5_below hB4 (by omega : w.heap.size ≤ w.heap.size + 1) (.slice (some ⟨g1, 0, none⟩) (r.st.length + 1) capg1) (.slice (some ⟨g2, 0, none⟩) (r.st.length + 1) capg2) (.int .i64 r.most) (.int .i64 r.good) (.int .i64 r.bad)); clear hB4
            unfold set5 at F1 F2
            clear hra hb4 hr4 hb3 hr3 hB3 T2s TW2 HB2 HR2 HBB
            go_wp2_with fail
            go_region
            all_goals
              go_wp2_with fail
              refine bodyPost_ret (v := .tuple #[.agg #[.slice (some ⟨g1, 0, none⟩) (r.st.length + 1) capg1, .slice (some ⟨g2, 0, none⟩) (r.st.length + 1) capg2, .int .i64 r.most, .int .i64 r.good, .int .i64 r.bad], .int .i64 ((r.st.length : Int) + 1), .int .i64 0]) (by simp [results, Try.results96, go_sem, s0, s1, s2, s3, s4]) rfl ⟨some ⟨g1, 0, none⟩, capg1, some ⟨g2, 0, none⟩, capg2, ?_, ?_, ?_⟩
              · rw [hfin.out.1, hfin.out.2.1, hfin.out.2.2]; simp
              · rw [hfin.out.2.2]; exact F1.out
              · exact F2.out.drew
      · have h1 : r.spawn = r := by unfold RS.spawn; rw [if_neg hmo]
        have h2 : r.spawnNo = 0 := by unfold RS.spawnNo; rw [if_neg hmo]
        have h3 : r.spawnErr = 3 := by unfold RS.spawnErr; rw [if_neg hmo]
        have H1 := Lib.hid h1
        have H2 := Lib.hid h2
        have H3 := Lib.hid h3
        have hge : r.most ≤ (cntR r.st m : Int) := by rw [hcm]; unfold RS.more at hmo; simp at hmo; omega
        generalize cntR r.st m = g at hc hge ⊢
        obtain ⟨r0, r1, r2, r3, r4, q0, q1, q2, q3, q4⟩ := BX0.out.res.five
        obtain ⟨t1, t2⟩ := BX0.out.fin (.slice sa r.st.length sc) (.slice ka r.st.length kc) (.int .i64 r.most) (.int .i64 r.good) (.int .i64 r.bad)
        have F1 := Lib.hid (HR0.out.keep t1); clear t1
        have F2 := Lib.hid t2; clear t2
        clear h1 h2 h3 hcm hmm hmo
        go_wp2_with fail
        refine bodyPost_ret (v := .tuple #[.agg #[.slice sa r.st.length sc, .slice ka r.st.length kc, .int .i64 r.most, .int .i64 r.good, .int .i64 r.bad], .int .i64 0, .int .i64 3]) (by simp [results, Try.results96, go_sem, r0, r1, r2, r3, r4]) rfl ⟨sa, sc, ka, kc, by rw [H1.out, H2.out, H3.out], by rw [H1.out]; exact F1.out, F2.out⟩
end Go.Proofs.Ytlmgojnhmdppnaa
