/-
  One call of a cell against the document, where there is such a cell and nothing is written. Condition: fewer than 2^42 blocks were made.
-/
import Derived.Test.YtbgbknbfleiakaaPlay1
import Derived.BigRegion
namespace Go.Proofs.Ytbgbknbfleiakaa
open Go.RowKit Go.Maps

/-- The cell of the document's list, step by step. -/
theorem RowsAt.deep {w : World} {Y : Nat → Prop} {A : Option Addr} {vals : List Value} {bl : List (List Int)} (h : RowsAt w Y A vals bl) {j k : Nat} {cs : List Int} (hj : j < bl.length) (hcs : bl.getD j [] = cs) (hk : k < cs.length) :
    ∃ g gj cj, A = some ⟨g, 0, none⟩ ∧ w.cell? ⟨g, j, none⟩ = some (.slice (some ⟨gj, 0, none⟩) cs.length cj) ∧ w.cell? ⟨gj, k, none⟩ = some (.int .i64 (cs.getD k 0)) := by
  obtain ⟨g, rfl, _, _, hc⟩ := h.row (by omega)
  obtain ⟨Aj, cj, hv, hrow⟩ := h.ints j hj
  rw [hcs] at hv hrow
  obtain ⟨gj, rfl, _, _, hcc⟩ := hrow (by omega)
  exact ⟨g, gj, cj, rfl, by rw [hc j hj, hv], hcc k hk⟩

set_option maxHeartbeats 2000000 in
set_option maxRecDepth 100000 in
theorem cellM_load_ok {w : World} {X Y : Nat → Prop} {pa : Nat} {S : AS} (h : Arena w X pa S) (hX : ∀ q, X q → q < w.heap.size) (hY : ∀ q, Y q → X q) {A : Option Addr} {vals : List Value} {bl : List (List Int)} (hr : RowsAt w Y A vals bl) (hm : Match S bl) (c : Nat) (hlen : bl.length ≤ 4398046511103) {j k : Nat} (hj : j < bl.length) {cs : List Int} (hl : look S.bl ((j : Int) + 1) = some cs) (hcs : bl.getD j [] = cs) (hk : k < cs.length) (hwb : (ik ((j : Int) + 1)).wf = true) (v x : Int) :
    Calls Try.prog 26 #[.pointer (some ⟨pa, 0, none⟩), .agg #[.slice A bl.length c, .int .i64 S.most, .int .i64 S.faults], .agg #[.int .i64 3, .int .i64 ((j : Int) + 1), .int .i64 k, .int .i64 v, .int .i64 x]] w (Plays w X Y pa S) := by
  have hszs := h.ok.size hl
  have hb3 := below3 (w := w) #[.slice A bl.length c, .int .i64 S.most, .int .i64 S.faults] #[.int .i64 3, .int .i64 ((j : Int) + 1), .int .i64 k, .int .i64 v, .int .i64 x] #[.slice none 0 0, .int .i64 0, .int .i64 0]
  have hrch := reach_yes (hr.below hb3) c S.most S.faults hj (by rw [hcs]; omega) (by rw [hcs]; omega) (k : Int) (by omega)
  have hre : reachErr (bl.getD j []).length k = 0 := by unfold reachErr; rw [hcs]; exact if_pos ⟨by omega, by omega⟩
  rw [hre] at hrch
  have hE : ∀ (w1 : World) (n : Nat), Arena w1 (fun q => X q ∨ (w.heap.size ≤ q ∧ q < n)) pa S → Calls Try.prog 17 #[.pointer (some ⟨pa, 0, none⟩), .int .i64 ((j : Int) + 1), .int .i64 k] w1 fun e w' => e = .returned (.tuple #[.int .i64 (cs.getD k 0), .int .i64 0]) ∧ Arena w' (fun q => X q ∨ (w.heap.size ≤ q ∧ q < n)) pa S ∧ Keep (fun q => X q ∨ (w.heap.size ≤ q ∧ q < n)) w1 w' := fun w1 n ha => (load_hit ha hwb hl hk).mono fun e w' hh => by
    obtain ⟨h1, rfl⟩ := hh
    exact ⟨h1, ha, Keep.refl _ _⟩
  have hdeep : ∀ W, RowsAt W Y A vals bl → ∃ g gj cj, A = some ⟨g, 0, none⟩ ∧ W.cell? ⟨g, j, none⟩ = some (.slice (some ⟨gj, 0, none⟩) cs.length cj) ∧ W.cell? ⟨gj, k, none⟩ = some (.int .i64 (cs.getD k 0)) := fun W hW => hW.deep hj hcs hk
  have HX := Lib.hid hX; clear hX
  have HY := Lib.hid hY; clear hY
  have HA := Lib.hid h; clear h
  have HR := Lib.hid hr; clear hr
  have HM := Lib.hid hm; clear hm
  have hkc : (k : Int) < cs.length := by omega
  have hjl : (j : Int) < bl.length := by omega
  clear hb3 hre hl hcs hwb 
  generalize cs.getD k 0 = old at *
  have HE := Lib.hid hE; clear hE
  have HC := Lib.hid hrch; clear hrch
  have HD := Lib.hid hdeep; clear hdeep
  go_enter Try.func26, Try.ntmps26
  go_wp2_with fail
  refine HC.out.mono ?_
  rintro e w1 ⟨rfl, b1⟩
  obtain ⟨hM, hO, hR, n1, hb1⟩ := box3 b1
  have hM2 := hM.alloc (.cells #[.slice A bl.length c, .int .i64 S.most, .int .i64 S.faults] 28)
  have hO2 := hO.alloc (.cells #[.slice A bl.length c, .int .i64 S.most, .int .i64 S.faults] 28)
  have hR2 := hR.alloc (.cells #[.slice A bl.length c, .int .i64 S.most, .int .i64 S.faults] 28)
  have hN2 := Blk.new w1 28 #[.slice A bl.length c, .int .i64 S.most, .int .i64 S.faults]
  have hb2 := hb1.alloc (by omega) (.cells #[.slice A bl.length c, .int .i64 S.most, .int .i64 S.faults] 28)
  have hA2 := ((HA.out.more (w1.heap.size + 1)).below hb2).drew
  have hcall := HE.out _ _ hA2
  obtain ⟨o0, o1, o2, o3, o4⟩ := hO2.five
  obtain ⟨m0, m1, m2, _⟩ := hM2.three
  obtain ⟨g, gj, cj, rfl, d1, d2⟩ := HD.out _ (HR.out.below hb2)
  have HB2 := Lib.hid hb2
  have HCALL := Lib.hid hcall; clear hcall
  have HR2 := Lib.hid hR2; clear hR2
  have HN2 := Lib.hid hN2; clear hN2
  have HO2 := Lib.hid hO2; clear hO2
  have HN1 := Lib.hid n1; clear n1
  clear hM hM2 hO hR hb1 hb2 b1 hA2
  go_wp2_with fail
  go_region
  go_wp2_with fail
  refine HCALL.out.mono ?_
  rintro e w3 ⟨rfl, a3, k3⟩
  have n1 := HN1.out
  have hR3 := HR2.out.drew.keep k3 (.inr ⟨by omega, by omega⟩)
  have hN3 := HN2.out.drew.keep k3 (.inr ⟨by omega, by omega⟩)
  have hO3 := HO2.out.drew.keep k3 (.inr ⟨by omega, by omega⟩)
  obtain ⟨p0, p1, p2, p3, p4⟩ := hO3.five
  obtain ⟨c0, c1, c2, _⟩ := hN3.three
  obtain ⟨r0, r1, r2, g0, g1, g2⟩ := hR3.three
  have hF := ((hR3.set_ 0 (.slice (some ⟨g, 0, none⟩) bl.length c)).set_ 1 (.int .i64 S.most)).set_ 2 (.int .i64 S.faults)
  obtain ⟨q0, q1, q2, _⟩ := hF.three
  have HA3 := Lib.hid a3; clear a3
  have HK3 := Lib.hid k3; clear k3
  clear hR3 hN3 hO3 hF n1
  go_wp2_with fail
  refine bodyPost_ret (by simp [results, Try.results26, go_sem, q0, q1, q2]; rfl) rfl ?_
  have n1 := HN1.out
  have hx : ¬ X (w.heap.size + 1 + 1) := fun hh => by have := HX.out _ hh; omega
  have hkF : Keep X w w3 := kept_ (fun q hq hh => by have := HX.out _ hh; omega) HB2.out.drew HK3.out
  have hkG := keep_set (keep_set (keep_set hkF hx (o := 0) (u := .slice (some ⟨g, 0, none⟩) bl.length c)) hx (o := 1) (u := .int .i64 S.most)) hx (o := 2) (u := .int .i64 S.faults)
  refine ⟨some ⟨g, 0, none⟩, c, vals, bl, fun _ => False, rfl, ?_, (HR.out.keep (Z := Y) (hkG.less HY.out) (fun q hq => hq)).wide (fun q hq => .inl hq), HM.out, fun q hq => hq.elim, hkG⟩
  refine Arena.less (X := fun q => X q ∨ (w.heap.size ≤ q ∧ q < w1.heap.size + 1)) ?_ (fun q _ hq => by rcases hq with hq | hq; exact .inl hq; exact hq.elim)
  refine arena_set (arena_set (arena_set HA3.out ?_) ?_) ?_
  all_goals exact .inr ⟨by omega, by omega⟩

set_option maxHeartbeats 2000000 in
set_option maxRecDepth 100000 in
theorem cellM_swap_ne {w : World} {X Y : Nat → Prop} {pa : Nat} {S : AS} (h : Arena w X pa S) (hX : ∀ q, X q → q < w.heap.size) (hY : ∀ q, Y q → X q) {A : Option Addr} {vals : List Value} {bl : List (List Int)} (hr : RowsAt w Y A vals bl) (hm : Match S bl) (c : Nat) (hlen : bl.length ≤ 4398046511103) {j k : Nat} (hj : j < bl.length) {cs : List Int} (hl : look S.bl ((j : Int) + 1) = some cs) (hcs : bl.getD j [] = cs) (hk : k < cs.length) (hwb : (ik ((j : Int) + 1)).wf = true) (v x : Int) (hne : cs.getD k 0 ≠ v) :
    Calls Try.prog 26 #[.pointer (some ⟨pa, 0, none⟩), .agg #[.slice A bl.length c, .int .i64 S.most, .int .i64 S.faults], .agg #[.int .i64 5, .int .i64 ((j : Int) + 1), .int .i64 k, .int .i64 v, .int .i64 x]] w (Plays w X Y pa S) := by
  have hszs := h.ok.size hl
  have hb3 := below3 (w := w) #[.slice A bl.length c, .int .i64 S.most, .int .i64 S.faults] #[.int .i64 5, .int .i64 ((j : Int) + 1), .int .i64 k, .int .i64 v, .int .i64 x] #[.slice none 0 0, .int .i64 0, .int .i64 0]
  have hrch := reach_yes (hr.below hb3) c S.most S.faults hj (by rw [hcs]; omega) (by rw [hcs]; omega) (k : Int) (by omega)
  have hre : reachErr (bl.getD j []).length k = 0 := by unfold reachErr; rw [hcs]; exact if_pos ⟨by omega, by omega⟩
  rw [hre] at hrch
  have hE : ∀ (w1 : World) (n : Nat), Arena w1 (fun q => X q ∨ (w.heap.size ≤ q ∧ q < n)) pa S → Calls Try.prog 21 #[.pointer (some ⟨pa, 0, none⟩), .int .i64 ((j : Int) + 1), .int .i64 k, .int .i64 v, .int .i64 x] w1 fun e w' => e = .returned (.tuple #[.bool false, .int .i64 0]) ∧ Arena w' (fun q => X q ∨ (w.heap.size ≤ q ∧ q < n)) pa S ∧ Keep (fun q => X q ∨ (w.heap.size ≤ q ∧ q < n)) w1 w' := fun w1 n ha => by
    have hcall := swap_any ha hwb (k : Int) v x
    have e1 : S.err ((j : Int) + 1) k = 0 := by unfold AS.err; rw [hl]; exact if_pos ⟨by omega, by omega⟩
    have e2 : S.swapAt ((j : Int) + 1) k v x = S := by unfold AS.swapAt; rw [hl]; exact if_neg (fun hh => hne (by simpa using hh.2.2))
    have e3 : S.swapOk ((j : Int) + 1) k v = false := by unfold AS.swapOk; rw [hl]; exact decide_eq_false (fun hh => hne (by simpa using hh.2.2))
    rw [e1, e2, e3] at hcall
    exact hcall
  have hdeep : ∀ W, RowsAt W Y A vals bl → ∃ g gj cj, A = some ⟨g, 0, none⟩ ∧ W.cell? ⟨g, j, none⟩ = some (.slice (some ⟨gj, 0, none⟩) cs.length cj) ∧ W.cell? ⟨gj, k, none⟩ = some (.int .i64 (cs.getD k 0)) := fun W hW => hW.deep hj hcs hk
  have hneb : (cs.getD k 0 == v) = false := by simpa using hne
  have HX := Lib.hid hX; clear hX
  have HY := Lib.hid hY; clear hY
  have HA := Lib.hid h; clear h
  have HR := Lib.hid hr; clear hr
  have HM := Lib.hid hm; clear hm
  have hkc : (k : Int) < cs.length := by omega
  have hjl : (j : Int) < bl.length := by omega
  clear hb3 hre hl hcs hwb hne
  generalize cs.getD k 0 = old at *
  have HE := Lib.hid hE; clear hE
  have HC := Lib.hid hrch; clear hrch
  have HD := Lib.hid hdeep; clear hdeep
  go_enter Try.func26, Try.ntmps26
  go_wp2_with fail
  refine HC.out.mono ?_
  rintro e w1 ⟨rfl, b1⟩
  obtain ⟨hM, hO, hR, n1, hb1⟩ := box3 b1
  have hM2 := hM.alloc (.cells #[.slice A bl.length c, .int .i64 S.most, .int .i64 S.faults] 28)
  have hO2 := hO.alloc (.cells #[.slice A bl.length c, .int .i64 S.most, .int .i64 S.faults] 28)
  have hR2 := hR.alloc (.cells #[.slice A bl.length c, .int .i64 S.most, .int .i64 S.faults] 28)
  have hN2 := Blk.new w1 28 #[.slice A bl.length c, .int .i64 S.most, .int .i64 S.faults]
  have hb2 := hb1.alloc (by omega) (.cells #[.slice A bl.length c, .int .i64 S.most, .int .i64 S.faults] 28)
  have hA2 := ((HA.out.more (w1.heap.size + 1)).below hb2).drew
  have hcall := HE.out _ _ hA2
  obtain ⟨o0, o1, o2, o3, o4⟩ := hO2.five
  obtain ⟨m0, m1, m2, _⟩ := hM2.three
  obtain ⟨g, gj, cj, rfl, d1, d2⟩ := HD.out _ (HR.out.below hb2)
  have HB2 := Lib.hid hb2
  have HCALL := Lib.hid hcall; clear hcall
  have HR2 := Lib.hid hR2; clear hR2
  have HN2 := Lib.hid hN2; clear hN2
  have HO2 := Lib.hid hO2; clear hO2
  have HN1 := Lib.hid n1; clear n1
  clear hM hM2 hO hR hb1 hb2 b1 hA2
  go_wp2_with fail
  go_region
  go_wp2_with fail
  refine HCALL.out.mono ?_
  rintro e w3 ⟨rfl, a3, k3⟩
  have n1 := HN1.out
  have hR3 := HR2.out.drew.keep k3 (.inr ⟨by omega, by omega⟩)
  have hN3 := HN2.out.drew.keep k3 (.inr ⟨by omega, by omega⟩)
  have hO3 := HO2.out.drew.keep k3 (.inr ⟨by omega, by omega⟩)
  obtain ⟨p0, p1, p2, p3, p4⟩ := hO3.five
  obtain ⟨c0, c1, c2, _⟩ := hN3.three
  obtain ⟨r0, r1, r2, g0, g1, g2⟩ := hR3.three
  have hF := ((hR3.set_ 0 (.slice (some ⟨g, 0, none⟩) bl.length c)).set_ 1 (.int .i64 S.most)).set_ 2 (.int .i64 S.faults)
  obtain ⟨q0, q1, q2, _⟩ := hF.three
  have HA3 := Lib.hid a3; clear a3
  have HK3 := Lib.hid k3; clear k3
  clear hR3 hN3 hO3 hF n1
  go_wp2_with fail
  refine bodyPost_ret (by simp [results, Try.results26, go_sem, q0, q1, q2]; rfl) rfl ?_
  have n1 := HN1.out
  have hx : ¬ X (w.heap.size + 1 + 1) := fun hh => by have := HX.out _ hh; omega
  have hkF : Keep X w w3 := kept_ (fun q hq hh => by have := HX.out _ hh; omega) HB2.out.drew HK3.out
  have hkG := keep_set (keep_set (keep_set hkF hx (o := 0) (u := .slice (some ⟨g, 0, none⟩) bl.length c)) hx (o := 1) (u := .int .i64 S.most)) hx (o := 2) (u := .int .i64 S.faults)
  refine ⟨some ⟨g, 0, none⟩, c, vals, bl, fun _ => False, rfl, ?_, (HR.out.keep (Z := Y) (hkG.less HY.out) (fun q hq => hq)).wide (fun q hq => .inl hq), HM.out, fun q hq => hq.elim, hkG⟩
  refine Arena.less (X := fun q => X q ∨ (w.heap.size ≤ q ∧ q < w1.heap.size + 1)) ?_ (fun q _ hq => by rcases hq with hq | hq; exact .inl hq; exact hq.elim)
  refine arena_set (arena_set (arena_set HA3.out ?_) ?_) ?_
  all_goals exact .inr ⟨by omega, by omega⟩

end Go.Proofs.Ytbgbknbfleiakaa
