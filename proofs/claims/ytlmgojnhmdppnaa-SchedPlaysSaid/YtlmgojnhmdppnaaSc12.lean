/-
  The contract of the document's own put. Conditions: fewer than 2^43 threads.
-/
import Derived.Test.YtlmgojnhmdppnaaSc11
import Derived.Deep.AppendLies
namespace Go.Proofs.Ytlmgojnhmdppnaa
open Go.RowKit Go.Maps
set_option linter.unusedVariables false

def RS.put (r : RS) (i : Nat) (s k : Int) : RS := { r with st := r.st.set i s, keys := r.keys.set i k }
theorem set_take_succ (l : List Int) (i k : Nat) (x : Int) (hk : k < l.length) : (l.set i x).take (k + 1) = (l.set i x).take k ++ [if k = i then x else l.getD k 0] := by
  have hk' : k < (l.set i x).length := by simpa using hk
  rw [List.take_succ_eq_append_getElem hk', List.getElem_set]
  congr 2
  by_cases h : i = k
  · subst h; simp
  · rw [if_neg h, if_neg (fun e => h e.symm)]; simp [List.getD, hk]

/-- The boxes of a call: the scheduler that was handed over, and the one that is answered. -/
structure Bx (w : World) (sa : Option Addr) (sc : Nat) (ka : Option Addr) (kc : Nat) (r : RS) (wr : World) : Prop where
  box : Blk wr w.heap.size 82 (rc sa sc ka kc r)
  res : Blk wr (w.heap.size + 1) 82 #[.slice none 0 0, .slice none 0 0, .int .i64 0, .int .i64 0, .int .i64 0]
  bel : Below w.heap.size w wr
  siz : w.heap.size + 2 ≤ wr.heap.size
section
variable {w wr w' : World} {sa ka : Option Addr} {sc kc : Nat} {r : RS}
theorem Bx.alloc (h : Bx w sa sc ka kc r wr) (o : Obj) : Bx w sa sc ka kc r (wr.alloc o) :=
  ⟨h.box.alloc o, h.res.alloc o, h.bel.alloc (by have := h.siz; omega) o, by have := h.siz; simp; omega⟩
theorem Bx.keep (h : Bx w sa sc ka kc r wr) (hk : Keep (fun k => k < w.heap.size + 2) wr w') : Bx w sa sc ka kc r w' :=
  ⟨h.box.keep hk (by omega), h.res.keep hk (by omega), h.bel.trans (hk.toBelow (fun k hk => by omega) (by have := h.siz; omega)), by have := h.siz; have := hk.size; omega⟩
theorem Bx.below (h : Bx w sa sc ka kc r wr) (hb : Below wr.heap.size wr w') : Bx w sa sc ka kc r w' := h.keep (Keep.ofBelow0 hb)
theorem Bx.grown (h : Bx w sa sc ka kc r wr) {v : Value} {n1 : Nat} {l1 : List Value} (hg : wr.grownBy w' v.ownBlock) (ho : wr.ownsRow (w.heap.size + 2) 3 1 v n1 l1) : Bx w sa sc ka kc r w' :=
  h.keep (Keep.ofGrown hg (fun g e hx => by have := (ho.lt g e).1; omega))
theorem Bx.laid (w : World) : Bx w sa sc ka kc r ((w.alloc (.cells (rc sa sc ka kc r) 82)).alloc (.cells #[.slice none 0 0, .slice none 0 0, .int .i64 0, .int .i64 0, .int .i64 0] 82)) :=
  ⟨(Blk.new w _ _).alloc _, by simpa using Blk.new (w.alloc (.cells (rc sa sc ka kc r) 82)) 82 #[.slice none 0 0, .slice none 0 0, .int .i64 0, .int .i64 0, .int .i64 0],
   ((Below.refl _ _).alloc (Nat.le_refl _) _).alloc (by simp) _, by simp⟩
theorem Two.start {B : Nat} (W : World) (hB : B ≤ W.heap.size) : Two ((W.alloc (Obj.cells #[] 3)).alloc (Obj.cells #[] 3)) B (.slice (some ⟨W.heap.size, 0, none⟩) 0 0) (.slice (some ⟨W.heap.size + 1, 0, none⟩) 0 0) 0 0 [] [] := by
  refine ⟨(World.ownsRow_made W #[] 0 hB (by unfold maxLen; omega) rfl).alloc _, ?_, ?_⟩
  · have := World.ownsRow_made (base := B) (e := 3) (size := 1) (W.alloc (Obj.cells #[] 3)) #[] 0 (by simp; omega) (by unfold maxLen; omega) rfl
    simpa using this
  · intro g h1 h2
    simp only [Value.ownBlock, Option.some.injEq] at h1 h2
    omega
end

set_option maxRecDepth 1000000 in
set_option maxHeartbeats 4000000 in
theorem rput_any {w : World} {sa ka : Option Addr} {sc kc : Nat} {r : RS} (h : RAt w sa sc ka kc r) (hn : r.st.length ≤ 8796093022208) {i : Nat} (hi : i < r.st.length) (s ky : Int) :
    Calls Try.prog 121 #[rv sa sc ka kc r, .int .i64 ((i : Int) + 1), .int .i64 s, .int .i64 ky] w fun e w' => ∃ sa' sc' ka' kc', e = .returned (rv sa' sc' ka' kc' (r.put i s ky)) ∧ RAt w' sa' sc' ka' kc' (r.put i s ky) ∧ Below w.heap.size w w' := by
  obtain ⟨i0, hi0, hz0, hz1, hz2⟩ := info_parts info3
  have hkl := h.len
  have I1 := Lib.hid h.ints1
  have I2 := Lib.hid h.ints2
  have hsub : wrap64 (i : Int) = (i : Int) := by have := IntKind.wrap_i64 (n := (i : Int)); unfold wrap64; omega
  have S1 := Lib.hid (fun m => set_take_succ r.st i m s)
  have S2 := Lib.hid (fun m => set_take_succ r.keys i m ky)
  have hl1 : Hid ((r.st.set i s).length = r.st.length) := Lib.hid (by simp)
  have hl2 : Hid ((r.keys.set i ky).length = r.st.length) := Lib.hid (by simp [hkl])
  have HKL := Lib.hid hkl; clear hkl
  have BX0 := Lib.hid (((Bx.laid (sa := sa) (sc := sc) (ka := ka) (kc := kc) (r := r) w).alloc (Obj.cells #[] 3)).alloc (Obj.cells #[] 3))
  have htw := Two.start (B := w.heap.size + 2) ((w.alloc (.cells (rc sa sc ka kc r) 82)).alloc (.cells #[.slice none 0 0, .slice none 0 0, .int .i64 0, .int .i64 0, .int .i64 0] 82)) (by simp)
  simp only [World.size_alloc] at htw
  have TW0 := Lib.hid htw; clear htw
  have hFIN : Hid (∀ v1 v2 wr, Two wr (w.heap.size + 2) v1 v2 r.st.length r.st.length (r.st.set i s) (r.keys.set i ky) → ∃ sa' sc' ka' kc', v1 = .slice sa' r.st.length sc' ∧ v2 = .slice ka' r.st.length kc' ∧ RAt wr sa' sc' ka' kc' (r.put i s ky)) := Lib.hid (by
    intro v1 v2 wr ht
    have e1 : (r.st.set i s).length = r.st.length := by simp
    have o1 := ht.o1; have o2 := ht.o2
    have e2 := hl2.out
    rw [← e1] at o1
    rw [← e2] at o2
    obtain ⟨a, c, rfl, _⟩ := own_ints o1
    obtain ⟨a', c', rfl, _⟩ := own_ints o2
    rw [e1] at o1
    rw [e2] at o2
    rw [e1, e2]
    refine ⟨a, c, a', c', rfl, rfl, ?_, ?_⟩
    · show wr.ownsRow 0 3 1 (.slice a (r.st.set i s).length c) (r.st.set i s).length ((r.st.set i s).map _)
      rw [e1]
      exact ⟨o1.1, by rcases o1.2 with x | ⟨g, cap, cur, x1, x2, x3⟩
                      · exact .inl x
                      · exact .inr ⟨g, cap, cur, x1, Nat.zero_le _, x3⟩⟩
    · show wr.ownsRow 0 3 1 (.slice a' (r.st.set i s).length c') (r.st.set i s).length ((r.keys.set i ky).map _)
      rw [e1]
      exact ⟨o2.1, by rcases o2.2 with x | ⟨g, cap, cur, x1, x2, x3⟩
                      · exact .inl x
                      · exact .inr ⟨g, cap, cur, x1, Nat.zero_le _, x3⟩⟩)
  clear h
  have hrp : Hid (∀ sa' sc' ka' kc', rv sa' sc' ka' kc' (r.put i s ky) = .agg #[.slice sa' r.st.length sc', .slice ka' r.st.length kc', .int .i64 r.most, .int .i64 r.good, .int .i64 r.bad]) := Lib.hid (by
    intro sa' sc' ka' kc'; unfold rv RS.put; simp)
  unfold rc at BX0 TW0
  unfold rv
  go_enter Try.func121, Try.ntmps121
  go_wp2_with fail
  go_loopw [9, 10, 11] (fun v1 v2 j wr => ∃ m : Nat, m ≤ r.st.length ∧ j = .int .i64 m ∧ Two wr (w.heap.size + 2) v1 v2 m m ((r.st.set i s).take m) ((r.keys.set i ky).take m) ∧ Bx w sa sc ka kc r wr) (fun _ _ j _ => r.st.length - (intOf j).toNat)
  case atStart => exact ⟨0, by omega, rfl, TW0.out, BX0.out⟩
  case round =>
    clear TW0 BX0
    obtain ⟨m, hm, rfl, htw, hbx⟩ := hrel
    obtain ⟨c0, c1, c2, c3, c4, _⟩ := hbx.box.five
    have zs := hbx.siz
    by_cases hlt : m < r.st.length
    · have hs1 := S1.out m hlt
      have hs2 := S2.out m (by rw [HKL.out]; exact hlt)
      generalize (r.st.set i s).take m = L1 at htw hs1
      generalize (r.keys.set i ky).take m = L2 at htw hs2
      have TW := Lib.hid htw; clear htw
      have BX := Lib.hid hbx; clear hbx
      by_cases hmi : m = i
      · rw [if_pos hmi] at hs1 hs2
        have hb1 : ((m : Int) == (i : Int)) = true := by simp [hmi]
        have HS1 := Lib.hid hs1; clear hs1
        have HS2 := Lib.hid hs2; clear hs2
        clear hmi hi
        go_wp2_with (at_builtin; refine wpList_append_lies _ rfl _ _ 30 rfl (w.heap.size + 2) 3 i0 (.int .i64 0) 1 8 Try.underlying30 hi0 hz0 hz1 hz2 rfl (by decide) _ m _ rfl (TW.out.alloc _).o1 ⟨wr.heap.size, 0, none⟩ 1 1 [.int .i64 s] rfl rfl (cell_one_new wr (.int .i64 s) 3) (ints_oneCell .i64 [s]) (by decide) (by unfold maxLen; omega) (by omega) (by simp; omega) (wr.heap.size + 1) (by simp) ?_)
        intro g1 capg1 w1 hown hgr hat hltg1
        have TW1 := Lib.hid ((TW.out.alloc _).push hown hgr (by simpa using hat))
        have BX1 := Lib.hid ((BX.out.alloc _).grown hgr (TW.out.alloc _).o1)
        clear hown hgr hat
        have zw1 := BX1.out.siz
        go_wp2_with (at_builtin; refine wpList_append_lies _ rfl _ _ 30 rfl (w.heap.size + 2) 3 i0 (.int .i64 0) 1 8 Try.underlying30 hi0 hz0 hz1 hz2 rfl (by decide) _ m _ rfl (TW1.out.alloc _).o2 ⟨w1.heap.size, 0, none⟩ 1 1 [.int .i64 ky] rfl rfl (cell_one_new w1 (.int .i64 ky) 3) (ints_oneCell .i64 [ky]) (by decide) (by unfold maxLen; omega) (by omega) (by simp; omega) (w1.heap.size + 1) (by simp) ?_)
        intro g2 capg2 w2 hown hgr hat hltg2
        have TW2 := Lib.hid ((TW1.out.alloc _).swap.push hown hgr (by simpa using hat)).swap
        have BX2 := Lib.hid ((BX1.out.alloc _).grown hgr (TW1.out.alloc _).o2)
        clear hown hgr hat
        have zw2 := BX2.out.siz
        go_wp2_with fail
        go_roundw
        case rel => exact ⟨m + 1, by omega, by go_num, by rw [HS1.out, HS2.out]; exact TW2.out, BX2.out⟩
        case measure => simp [intOf]; omega
      · rw [if_neg hmi] at hs1 hs2
        have hb1 : ((m : Int) == (i : Int)) = false := by simp; omega
        have HS1 := Lib.hid hs1; clear hs1
        have HS2 := Lib.hid hs2; clear hs2
        obtain ⟨b1, f1, rfl, hlb1, d1⟩ := (I1.out.below BX.out.bel) m hlt
        obtain ⟨b2, f2, rfl, hlb2, d2⟩ := I2.out m (by rw [HKL.out]; exact hlt)
        generalize r.st.getD m 0 = y1 at d1 HS1
        generalize r.keys.getD m 0 = y2 at d2 HS2
        clear hmi hi
        go_wp2_with (at_builtin; refine wpList_append_lies _ rfl _ _ 30 rfl (w.heap.size + 2) 3 i0 (.int .i64 0) 1 8 Try.underlying30 hi0 hz0 hz1 hz2 rfl (by decide) _ m _ rfl (TW.out.alloc _).o1 ⟨wr.heap.size, 0, none⟩ 1 1 [.int .i64 y1] rfl rfl (cell_one_new wr (.int .i64 y1) 3) (ints_oneCell .i64 [y1]) (by decide) (by unfold maxLen; omega) (by omega) (by simp; omega) (wr.heap.size + 1) (by simp) ?_)
        intro g1 capg1 w1 hown hgr hat hltg1
        have TW1 := Lib.hid ((TW.out.alloc _).push hown hgr (by simpa using hat))
        have BX1 := Lib.hid ((BX.out.alloc _).grown hgr (TW.out.alloc _).o1)
        clear hown hgr hat
        have zw1 := BX1.out.siz
        rw [← BX1.out.bel.cell (p := ⟨b2, f2 + m, none⟩) hlb2] at d2
        obtain ⟨e0, e1, e2, e3, e4, _⟩ := BX1.out.box.five
        have hlb3 : b2 < w1.heap.size := Nat.lt_of_lt_of_le hlb2 BX1.out.bel.size
        clear c0 c1 c2 c3 c4 d1
        go_wp2_with (at_builtin; refine wpList_append_lies _ rfl _ _ 30 rfl (w.heap.size + 2) 3 i0 (.int .i64 0) 1 8 Try.underlying30 hi0 hz0 hz1 hz2 rfl (by decide) _ m _ rfl (TW1.out.alloc _).o2 ⟨w1.heap.size, 0, none⟩ 1 1 [.int .i64 y2] rfl rfl (cell_one_new w1 (.int .i64 y2) 3) (ints_oneCell .i64 [y2]) (by decide) (by unfold maxLen; omega) (by omega) (by simp; omega) (w1.heap.size + 1) (by simp) ?_)
        intro g2 capg2 w2 hown hgr hat hltg2
        have TW2 := Lib.hid ((TW1.out.alloc _).swap.push hown hgr (by simpa using hat)).swap
        have BX2 := Lib.hid ((BX1.out.alloc _).grown hgr (TW1.out.alloc _).o2)
        clear hown hgr hat
        have zw2 := BX2.out.siz
        go_wp2_with fail
        go_roundw
        case rel => exact ⟨m + 1, by omega, by go_num, by rw [HS1.out, HS2.out]; exact TW2.out, BX2.out⟩
        case measure => simp [intOf]; omega
    · obtain rfl : m = r.st.length := by omega
      rw [List.take_of_length_le (by rw [hl1.out]; exact Nat.le_refl _), List.take_of_length_le (by rw [hl2.out]; exact Nat.le_refl _)] at htw
      obtain ⟨sa', sc', ka', kc', rfl, rfl, hra⟩ := hFIN.out _ _ _ htw
      obtain ⟨r0, r1, r2, r3, r4, q0, q1, q2, q3, q4⟩ := hbx.res.five
      obtain ⟨_, _, _, _, _, p0, p1, _⟩ := hbx.box.five
      have hne : wr.heap.size = wr.heap.size := rfl
      have hz1 : w.heap.size < wr.heap.size := by omega
      have hz2 : w.heap.size + 1 < wr.heap.size := by omega
      have hb1 := ((hbx.box.set_ 0 (.slice sa' r.st.length sc')).set_ 1 (.slice ka' r.st.length kc'))
      have BX := Lib.hid hbx; clear hbx
      have RA := Lib.hid hra; clear hra htw
      clear hne hb1
      go_wp2_with fail
      refine bodyPost_ret (v := .agg #[.slice sa' r.st.length sc', .slice ka' r.st.length kc', .int .i64 r.most, .int .i64 r.good, .int .i64 r.bad]) (by simp [results, Try.results121, go_sem, r0, r1, r2, r3, r4]) rfl ⟨sa', sc', ka', kc', ?_, ?_, ?_⟩
      · simp [RS.put]
      · have nk : NumKeep wr ((wr.setCell ⟨w.heap.size, 0, none⟩ (.slice sa' r.st.length sc')).setCell ⟨w.heap.size, 1, none⟩ (.slice ka' r.st.length kc')) :=
          ((NumKeep.refl wr).set_ (p := ⟨w.heap.size, 0, none⟩) BX.out.box (by decide) _).set_ (p := ⟨w.heap.size, 1, none⟩) (BX.out.box.set_ 0 _) (by decide) _
        have hr1 := (BX.out.res.far (p := ⟨w.heap.size, 0, none⟩) (by show w.heap.size + 1 ≠ w.heap.size; omega) (.slice sa' r.st.length sc')).far (p := ⟨w.heap.size, 1, none⟩) (by show w.heap.size + 1 ≠ w.heap.size; omega) (.slice ka' r.st.length kc')
        have n2 := (((((nk.set_ (p := ⟨w.heap.size + 1, 0, none⟩) hr1 (by decide) (.slice sa' r.st.length sc')).set_ (p := ⟨w.heap.size + 1, 1, none⟩) (hr1.set_ 0 _) (by decide) (.slice ka' r.st.length kc')).set_ (p := ⟨w.heap.size + 1, 2, none⟩) ((hr1.set_ 0 _).set_ 1 _) (by decide) (.int .i64 r.most)).set_ (p := ⟨w.heap.size + 1, 3, none⟩) (((hr1.set_ 0 _).set_ 1 _).set_ 2 _) (by decide) (.int .i64 r.good)).set_ (p := ⟨w.heap.size + 1, 4, none⟩) ((((hr1.set_ 0 _).set_ 1 _).set_ 2 _).set_ 3 _) (by decide) (.int .i64 r.bad))
        exact RA.out.keep n2
      · refine below_set (below_set (below_set (below_set (below_set (below_set (below_set BX.out.bel ?_) ?_) ?_) ?_) ?_) ?_) ?_ <;> omega
end Go.Proofs.Ytlmgojnhmdppnaa
