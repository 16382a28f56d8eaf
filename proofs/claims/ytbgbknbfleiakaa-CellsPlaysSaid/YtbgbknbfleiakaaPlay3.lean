/-
  One call of a cell against the document, where there is such a cell and it is written. Condition: fewer than 2^42 blocks were made.
-/
import Derived.Test.YtbgbknbfleiakaaPlay2
import Derived.Deep.RegionHeld3
import Derived.Deep.RegionWith
namespace Go.Proofs.Ytbgbknbfleiakaa
open Go.RowKit Go.Maps

set_option maxHeartbeats 2000000 in
set_option maxRecDepth 100000 in
theorem cellM_store_ok {w : World} {X Y : Nat → Prop} {pa : Nat} {S : AS} (h : Arena w X pa S) (hX : ∀ q, X q → q < w.heap.size) (hY : ∀ q, Y q → X q) {A : Option Addr} {vals : List Value} {bl : List (List Int)} (hr : RowsAt w Y A vals bl) (hm : Match S bl) (c : Nat) (hlen : bl.length ≤ 4398046511103) {j k : Nat} (hj : j < bl.length) {cs : List Int} (hl : look S.bl ((j : Int) + 1) = some cs) (hcs : bl.getD j [] = cs) (hk : k < cs.length) (hwb : (ik ((j : Int) + 1)).wf = true) (v x : Int) :
    Calls Try.prog 26 #[.pointer (some ⟨pa, 0, none⟩), .agg #[.slice A bl.length c, .int .i64 S.most, .int .i64 S.faults], .agg #[.int .i64 4, .int .i64 ((j : Int) + 1), .int .i64 k, .int .i64 v, .int .i64 x]] w (Plays w X Y pa (S.set ((j : Int) + 1) (cs.set k v))) := by
  have hszs := h.ok.size hl
  have hb3 := below3 (w := w) #[.slice A bl.length c, .int .i64 S.most, .int .i64 S.faults] #[.int .i64 4, .int .i64 ((j : Int) + 1), .int .i64 k, .int .i64 v, .int .i64 x] #[.slice none 0 0, .int .i64 0, .int .i64 0]
  have hrch := reach_yes (hr.below hb3) c S.most S.faults hj (by rw [hcs]; omega) (by rw [hcs]; omega) (k : Int) (by omega)
  have hre : reachErr (bl.getD j []).length k = 0 := by unfold reachErr; rw [hcs]; exact if_pos ⟨by omega, by omega⟩
  rw [hre] at hrch
  have hE : ∀ (w1 : World) (n : Nat), Arena w1 (fun q => X q ∨ (w.heap.size ≤ q ∧ q < n)) pa S → Calls Try.prog 20 #[.pointer (some ⟨pa, 0, none⟩), .int .i64 ((j : Int) + 1), .int .i64 k, .int .i64 v] w1 fun e w' => e = .returned (.int .i64 0) ∧ Arena w' (fun q => X q ∨ (w.heap.size ≤ q ∧ q < n)) pa (S.set ((j : Int) + 1) (cs.set k v)) ∧ Keep (fun q => X q ∨ (w.heap.size ≤ q ∧ q < n)) w1 w' := fun w1 n ha => by
    have hcall := store_any ha hwb (k : Int) v
    have e1 : S.err ((j : Int) + 1) k = 0 := by unfold AS.err; rw [hl]; exact if_pos ⟨by omega, by omega⟩
    have e2 : S.storeAt ((j : Int) + 1) k v = S.set ((j : Int) + 1) (cs.set k v) := by unfold AS.storeAt; rw [hl]; exact if_pos ⟨by omega, by omega⟩
    rw [e1, e2] at hcall
    exact hcall
  have hdeep : ∀ W, RowsAt W Y A vals bl → ∃ g gj cj, A = some ⟨g, 0, none⟩ ∧ W.cell? ⟨g, j, none⟩ = some (.slice (some ⟨gj, 0, none⟩) cs.length cj) ∧ W.cell? ⟨gj, k, none⟩ = some (.int .i64 (cs.getD k 0)) := fun W hW => hW.deep hj hcs hk
  have hset : ∀ (W : World) (A' : Option Addr), RowsAt W Y A' vals bl → (∀ q, Y q → q < W.heap.size) → ∀ u : Int, Calls Try.prog 31 #[.agg #[.slice A' bl.length c, .int .i64 S.most, .int .i64 S.faults], .int .i64 ((j : Int) + 1), .int .i64 k, .int .i64 u] W fun e w' =>
      ∃ A2 c2 vals2, e = .returned (.agg #[.slice A2 bl.length c2, .int .i64 S.most, .int .i64 S.faults]) ∧ RowsAt w' (plus Y W w') A2 vals2 (bl.set j (cs.set k u)) ∧ Below W.heap.size W w' := fun W A' hW hq u => by
    have := set_any hW hq c S.most S.faults hj (by omega) (k := k) (by rw [hcs]; exact hk) (by rw [hcs]; omega) u
    rw [hcs] at this
    exact this
  have hmat : ∀ u : Int, Match (S.set ((j : Int) + 1) (cs.set k u)) (bl.set j (cs.set k u)) := fun u => hm.set h.ok hj hl (by simp)
  have HX := Lib.hid hX; clear hX
  have HY := Lib.hid hY; clear hY
  have HA := Lib.hid h; clear h
  have HR := Lib.hid hr; clear hr
  have hkc : (k : Int) < cs.length := by omega
  have hjl : (j : Int) < bl.length := by omega
  clear hb3 hre hl hcs hwb hm
  generalize cs.getD k 0 = old at *
  have HE := Lib.hid hE; clear hE
  have HC := Lib.hid hrch; clear hrch
  have HD := Lib.hid hdeep; clear hdeep
  have HS := Lib.hid hset; clear hset
  have HMAT := Lib.hid hmat; clear hmat
  go_enter Try.func26, Try.ntmps26
  go_wp2_with fail
  refine HC.out.mono ?_
  rintro e w1 ⟨rfl, b1⟩
  obtain ⟨hM, hO, hR, n1, hb1⟩ := box3 b1
  have hM2 := hM.alloc (.cells #[.slice A bl.length c, .int .i64 S.most, .int .i64 S.faults] 28)
  have hO2 := hO.alloc (.cells #[.slice A bl.length c, .int .i64 S.most, .int .i64 S.faults] 28)
  have hR2 := hR.alloc (.cells #[.slice A bl.length c, .int .i64 S.most, .int .i64 S.faults] 28)
  have hN2 := Blk.new w1 28 #[.slice A bl.length c, .int .i64 S.most, .int .i64 S.faults]
  have hb2 := hb1.alloc (by omega) (.cells #[.slice A bl.length c, .int .i64 S.most, .int .i64 S.faults] 28)
  have hA2 := ((HA.out.more (w1.heap.size + 1)).below hb2).drew
  have hcall := HE.out _ _ hA2
  obtain ⟨o0, o1, o2, o3, o4⟩ := hO2.five
  obtain ⟨m0, m1, m2, _⟩ := hM2.three
  obtain ⟨g, gj, cj, rfl, d1, d2⟩ := HD.out _ (HR.out.below hb2)
  have HB2 := Lib.hid hb2
  have HCALL := Lib.hid hcall; clear hcall
  have HR2 := Lib.hid hR2; clear hR2
  have HN2 := Lib.hid hN2; clear hN2
  have HO2 := Lib.hid hO2; clear hO2
  have HN1 := Lib.hid n1; clear n1
  clear hM hM2 hO hR hb1 hb2 b1 hA2
  go_wp2_with fail
  go_region
  go_wp2_with fail
  refine HCALL.out.mono ?_
  rintro e w3 ⟨rfl, a3, k3⟩
  have n1 := HN1.out
  have hR3 := HR2.out.drew.keep k3 (.inr ⟨by omega, by omega⟩)
  have hN3 := HN2.out.drew.keep k3 (.inr ⟨by omega, by omega⟩)
  have hO3 := HO2.out.drew.keep k3 (.inr ⟨by omega, by omega⟩)
  obtain ⟨p0, p1, p2, p3, p4⟩ := hO3.five
  obtain ⟨c0, c1, c2, _⟩ := hN3.three
  have hkF : Keep X w w3 := kept_ (fun q hq hh => by have := HX.out _ hh; omega) HB2.out.drew k3
  have hsz3 : w1.heap.size + 1 ≤ w3.heap.size := by have := k3.size; simpa using this
  have hst := HS.out w3 _ (HR.out.keep (Z := Y) (hkF.less HY.out) (fun q hq => hq)) (fun q hq => by have := HX.out _ (HY.out _ hq); omega) v
  have HSET := Lib.hid hst; clear hst
  have HKF := Lib.hid hkF; clear hkF
  have HSZ3 := Lib.hid hsz3; clear hsz3
  have HR3 := Lib.hid hR3; clear hR3
  have HA3 := Lib.hid a3; clear a3
  clear hN3 hO3 n1 k3
  go_wp2_with fail
  refine HSET.out.mono ?_
  rintro e w4 ⟨A4, c4, vals4, rfl, hrows4, b4⟩
  have n1 := HN1.out
  have n3 := HSZ3.out
  have n4 := b4.size
  have hR4 := HR3.out.below b4 (by omega)
  obtain ⟨r0, r1, r2, g0, g1, g2⟩ := hR4.three
  have hF := ((hR4.set_ 0 (.slice A4 bl.length c4)).set_ 1 (.int .i64 S.most)).set_ 2 (.int .i64 S.faults)
  obtain ⟨q0, q1, q2, _⟩ := hF.three
  have HB4 := Lib.hid b4; clear b4
  have HROWS := Lib.hid hrows4; clear hrows4
  clear hR4 hF n1 n3 n4
  go_wp2_with fail
  refine bodyPost_ret (by simp [results, Try.results26, go_sem, q0, q1, q2]; rfl) rfl ?_
  have n1 := HN1.out
  have n3 := HSZ3.out
  have n4 := HB4.out.size
  have hx0 : ¬ X (w.heap.size + 1 + 1) := fun hh => by have := HX.out _ hh; omega
  have hx : ¬ plus Y w3 w4 (w.heap.size + 1 + 1) := by
    rintro (hh | hh)
    · exact hx0 (HY.out _ hh)
    · omega
  have hkF : Keep X w w4 := HKF.out.trans (keepOf HB4.out X)
  have hkG := keep_set (keep_set (keep_set hkF hx0 (o := 0) (u := .slice A4 bl.length c4)) hx0 (o := 1) (u := .int .i64 S.most)) hx0 (o := 2) (u := .int .i64 S.faults)
  have hkH := keep_set (keep_set (keep_set (Keep.refl (plus Y w3 w4) w4) hx (o := 0) (u := .slice A4 bl.length c4)) hx (o := 1) (u := .int .i64 S.most)) hx (o := 2) (u := .int .i64 S.faults)
  have hlen4 : (bl.set j (cs.set k v)).length = bl.length := List.length_set
  refine ⟨A4, c4, vals4, bl.set j (cs.set k v), fun q => w3.heap.size ≤ q ∧ q < w4.heap.size, by rw [hlen4]; rfl, ?_, HROWS.out.keep hkH (fun q hq => hq), HMAT.out _, fun q hq => ⟨by omega, by have := hkH.size; omega⟩, hkG⟩
  refine Arena.less (X := fun q => (X q ∨ (w.heap.size ≤ q ∧ q < w1.heap.size + 1)) ∨ (w3.heap.size ≤ q ∧ q < w4.heap.size)) ?_ (fun q _ hq => by rcases hq with hq | hq; exact .inl (.inl hq); exact .inr hq)
  refine arena_set (arena_set (arena_set ((HA3.out.more w4.heap.size).below HB4.out) ?_) ?_) ?_
  all_goals exact .inl (.inr ⟨by omega, by omega⟩)

set_option maxHeartbeats 2000000 in
set_option maxRecDepth 100000 in
theorem cellM_swap_eq {w : World} {X Y : Nat → Prop} {pa : Nat} {S : AS} (h : Arena w X pa S) (hX : ∀ q, X q → q < w.heap.size) (hY : ∀ q, Y q → X q) {A : Option Addr} {vals : List Value} {bl : List (List Int)} (hr : RowsAt w Y A vals bl) (hm : Match S bl) (c : Nat) (hlen : bl.length ≤ 4398046511103) {j k : Nat} (hj : j < bl.length) {cs : List Int} (hl : look S.bl ((j : Int) + 1) = some cs) (hcs : bl.getD j [] = cs) (hk : k < cs.length) (hwb : (ik ((j : Int) + 1)).wf = true) (v x : Int) (heq : cs.getD k 0 = v) :
    Calls Try.prog 26 #[.pointer (some ⟨pa, 0, none⟩), .agg #[.slice A bl.length c, .int .i64 S.most, .int .i64 S.faults], .agg #[.int .i64 5, .int .i64 ((j : Int) + 1), .int .i64 k, .int .i64 v, .int .i64 x]] w (Plays w X Y pa (S.set ((j : Int) + 1) (cs.set k x))) := by
  have hszs := h.ok.size hl
  have hb3 := below3 (w := w) #[.slice A bl.length c, .int .i64 S.most, .int .i64 S.faults] #[.int .i64 5, .int .i64 ((j : Int) + 1), .int .i64 k, .int .i64 v, .int .i64 x] #[.slice none 0 0, .int .i64 0, .int .i64 0]
  have hrch := reach_yes (hr.below hb3) c S.most S.faults hj (by rw [hcs]; omega) (by rw [hcs]; omega) (k : Int) (by omega)
  have hre : reachErr (bl.getD j []).length k = 0 := by unfold reachErr; rw [hcs]; exact if_pos ⟨by omega, by omega⟩
  rw [hre] at hrch
  have hE : ∀ (w1 : World) (n : Nat), Arena w1 (fun q => X q ∨ (w.heap.size ≤ q ∧ q < n)) pa S → Calls Try.prog 21 #[.pointer (some ⟨pa, 0, none⟩), .int .i64 ((j : Int) + 1), .int .i64 k, .int .i64 v, .int .i64 x] w1 fun e w' => e = .returned (.tuple #[.bool true, .int .i64 0]) ∧ Arena w' (fun q => X q ∨ (w.heap.size ≤ q ∧ q < n)) pa (S.set ((j : Int) + 1) (cs.set k x)) ∧ Keep (fun q => X q ∨ (w.heap.size ≤ q ∧ q < n)) w1 w' := fun w1 n ha => by
    have hcall := swap_any ha hwb (k : Int) v x
    have e1 : S.err ((j : Int) + 1) k = 0 := by unfold AS.err; rw [hl]; exact if_pos ⟨by omega, by omega⟩
    have e2 : S.swapAt ((j : Int) + 1) k v x = S.set ((j : Int) + 1) (cs.set k x) := by unfold AS.swapAt; rw [hl]; exact if_pos ⟨by omega, by omega, by simpa using heq⟩
    have e3 : S.swapOk ((j : Int) + 1) k v = true := by unfold AS.swapOk; rw [hl]; exact decide_eq_true ⟨by omega, by omega, by simpa using heq⟩
    rw [e1, e2, e3] at hcall
    exact hcall
  have hdeep : ∀ W, RowsAt W Y A vals bl → ∃ g gj cj, A = some ⟨g, 0, none⟩ ∧ W.cell? ⟨g, j, none⟩ = some (.slice (some ⟨gj, 0, none⟩) cs.length cj) ∧ W.cell? ⟨gj, k, none⟩ = some (.int .i64 (cs.getD k 0)) := fun W hW => hW.deep hj hcs hk
  have hset : ∀ (W : World) (A' : Option Addr), RowsAt W Y A' vals bl → (∀ q, Y q → q < W.heap.size) → ∀ u : Int, Calls Try.prog 31 #[.agg #[.slice A' bl.length c, .int .i64 S.most, .int .i64 S.faults], .int .i64 ((j : Int) + 1), .int .i64 k, .int .i64 u] W fun e w' =>
      ∃ A2 c2 vals2, e = .returned (.agg #[.slice A2 bl.length c2, .int .i64 S.most, .int .i64 S.faults]) ∧ RowsAt w' (plus Y W w') A2 vals2 (bl.set j (cs.set k u)) ∧ Below W.heap.size W w' := fun W A' hW hq u => by
    have := set_any hW hq c S.most S.faults hj (by omega) (k := k) (by rw [hcs]; exact hk) (by rw [hcs]; omega) u
    rw [hcs] at this
    exact this
  have hmat : ∀ u : Int, Match (S.set ((j : Int) + 1) (cs.set k u)) (bl.set j (cs.set k u)) := fun u => hm.set h.ok hj hl (by simp)
  have HX := Lib.hid hX; clear hX
  have HY := Lib.hid hY; clear hY
  have HA := Lib.hid h; clear h
  have HR := Lib.hid hr; clear hr
  have hkc : (k : Int) < cs.length := by omega
  have hjl : (j : Int) < bl.length := by omega
  clear hb3 hre hl hcs hwb hm
  generalize cs.getD k 0 = old at *
  subst heq
  have HE := Lib.hid hE; clear hE
  have HC := Lib.hid hrch; clear hrch
  have HD := Lib.hid hdeep; clear hdeep
  have HS := Lib.hid hset; clear hset
  have HMAT := Lib.hid hmat; clear hmat
  go_enter Try.func26, Try.ntmps26
  go_wp2_with fail
  refine HC.out.mono ?_
  rintro e w1 ⟨rfl, b1⟩
  obtain ⟨hM, hO, hR, n1, hb1⟩ := box3 b1
  have hM2 := hM.alloc (.cells #[.slice A bl.length c, .int .i64 S.most, .int .i64 S.faults] 28)
  have hO2 := hO.alloc (.cells #[.slice A bl.length c, .int .i64 S.most, .int .i64 S.faults] 28)
  have hR2 := hR.alloc (.cells #[.slice A bl.length c, .int .i64 S.most, .int .i64 S.faults] 28)
  have hN2 := Blk.new w1 28 #[.slice A bl.length c, .int .i64 S.most, .int .i64 S.faults]
  have hb2 := hb1.alloc (by omega) (.cells #[.slice A bl.length c, .int .i64 S.most, .int .i64 S.faults] 28)
  have hA2 := ((HA.out.more (w1.heap.size + 1)).below hb2).drew
  have hcall := HE.out _ _ hA2
  obtain ⟨o0, o1, o2, o3, o4⟩ := hO2.five
  obtain ⟨m0, m1, m2, _⟩ := hM2.three
  obtain ⟨g, gj, cj, rfl, d1, d2⟩ := HD.out _ (HR.out.below hb2)
  have HB2 := Lib.hid hb2
  have HCALL := Lib.hid hcall; clear hcall
  have HR2 := Lib.hid hR2; clear hR2
  have HN2 := Lib.hid hN2; clear hN2
  have HO2 := Lib.hid hO2; clear hO2
  have HN1 := Lib.hid n1; clear n1
  clear hM hM2 hO hR hb1 hb2 b1 hA2
  go_wp2_with fail
  go_region
  go_wp2_with fail
  refine HCALL.out.mono ?_
  rintro e w3 ⟨rfl, a3, k3⟩
  have n1 := HN1.out
  have hR3 := HR2.out.drew.keep k3 (.inr ⟨by omega, by omega⟩)
  have hN3 := HN2.out.drew.keep k3 (.inr ⟨by omega, by omega⟩)
  have hO3 := HO2.out.drew.keep k3 (.inr ⟨by omega, by omega⟩)
  obtain ⟨p0, p1, p2, p3, p4⟩ := hO3.five
  obtain ⟨c0, c1, c2, _⟩ := hN3.three
  have hkF : Keep X w w3 := kept_ (fun q hq hh => by have := HX.out _ hh; omega) HB2.out.drew k3
  have hsz3 : w1.heap.size + 1 ≤ w3.heap.size := by have := k3.size; simpa using this
  have hst := HS.out w3 _ (HR.out.keep (Z := Y) (hkF.less HY.out) (fun q hq => hq)) (fun q hq => by have := HX.out _ (HY.out _ hq); omega) x
  have HSET := Lib.hid hst; clear hst
  have HKF := Lib.hid hkF; clear hkF
  have HSZ3 := Lib.hid hsz3; clear hsz3
  have HR3 := Lib.hid hR3; clear hR3
  have HA3 := Lib.hid a3; clear a3
  clear hN3 hO3 n1 k3
  go_wp2_with fail
  refine HSET.out.mono ?_
  rintro e w4 ⟨A4, c4, vals4, rfl, hrows4, b4⟩
  have n1 := HN1.out
  have n3 := HSZ3.out
  have n4 := b4.size
  have hR4 := HR3.out.below b4 (by omega)
  obtain ⟨r0, r1, r2, g0, g1, g2⟩ := hR4.three
  have hF := ((hR4.set_ 0 (.slice A4 bl.length c4)).set_ 1 (.int .i64 S.most)).set_ 2 (.int .i64 S.faults)
  obtain ⟨q0, q1, q2, _⟩ := hF.three
  have HB4 := Lib.hid b4; clear b4
  have HROWS := Lib.hid hrows4; clear hrows4
  clear hR4 hF n1 n3 n4
  go_wp2_with fail
  refine bodyPost_ret (by simp [results, Try.results26, go_sem, q0, q1, q2]; rfl) rfl ?_
  have n1 := HN1.out
  have n3 := HSZ3.out
  have n4 := HB4.out.size
  have hx0 : ¬ X (w.heap.size + 1 + 1) := fun hh => by have := HX.out _ hh; omega
  have hx : ¬ plus Y w3 w4 (w.heap.size + 1 + 1) := by
    rintro (hh | hh)
    · exact hx0 (HY.out _ hh)
    · omega
  have hkF : Keep X w w4 := HKF.out.trans (keepOf HB4.out X)
  have hkG := keep_set (keep_set (keep_set hkF hx0 (o := 0) (u := .slice A4 bl.length c4)) hx0 (o := 1) (u := .int .i64 S.most)) hx0 (o := 2) (u := .int .i64 S.faults)
  have hkH := keep_set (keep_set (keep_set (Keep.refl (plus Y w3 w4) w4) hx (o := 0) (u := .slice A4 bl.length c4)) hx (o := 1) (u := .int .i64 S.most)) hx (o := 2) (u := .int .i64 S.faults)
  have hlen4 : (bl.set j (cs.set k x)).length = bl.length := List.length_set
  refine ⟨A4, c4, vals4, bl.set j (cs.set k x), fun q => w3.heap.size ≤ q ∧ q < w4.heap.size, by rw [hlen4]; rfl, ?_, HROWS.out.keep hkH (fun q hq => hq), HMAT.out _, fun q hq => ⟨by omega, by have := hkH.size; omega⟩, hkG⟩
  refine Arena.less (X := fun q => (X q ∨ (w.heap.size ≤ q ∧ q < w1.heap.size + 1)) ∨ (w3.heap.size ≤ q ∧ q < w4.heap.size)) ?_ (fun q _ hq => by rcases hq with hq | hq; exact .inl (.inl hq); exact .inr hq)
  refine arena_set (arena_set (arena_set ((HA3.out.more w4.heap.size).below HB4.out) ?_) ?_) ?_
  all_goals exact .inl (.inr ⟨by omega, by omega⟩)

end Go.Proofs.Ytbgbknbfleiakaa
