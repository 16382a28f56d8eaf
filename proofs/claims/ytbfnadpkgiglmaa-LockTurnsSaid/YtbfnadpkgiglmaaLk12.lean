/-
  The layer's example. No condition.
-/
import Derived.Test.YtbfnadpkgiglmaaLk9
namespace Go.Proofs.Ytbfnadpkgiglmaa
open Go.RowKit Go.Maps
set_option linter.unusedVariables false
set_option linter.unusedSimpArgs false

theorem KeepL.bel {w W W' : World} {pa mb : Nat} (h : Below w.heap.size w W) (hk : KeepL pa mb W W') (h1 : w.heap.size ≤ pa) (h2 : w.heap.size ≤ mb) : Below w.heap.size w W' :=
  h.trans (hk.toBelow (fun k hk => ⟨by omega, by omega⟩) h.size)

set_option maxRecDepth 1000000 in
set_option maxHeartbeats 4000000 in
theorem alive_any (w : World) : Calls Try.prog 8 #[] w fun e w' => e = .returned (.bool true) ∧ Below w.heap.size w w' := by
  have wf1 : (ik 1).wf = true := by decide
  obtain ⟨xs, hxs⟩ : ∃ xs : List Int, xs = [1] := ⟨_, rfl⟩
  have hx1 : (((xs.length : Nat) : Int) == 1) = true := by rw [hxs]; rfl
  have hx0 : 0 < xs.length := by rw [hxs]; simp
  have hxb : xs.length ≤ 8 := by rw [hxs]; simp
  go_enter Try.func8, Try.ntmps8
  go_wp2_with fail
  refine (new_any w).mono ?_
  rintro e w1 ⟨pa, mb, rfl, h, hpa, hmb, hb⟩
  have hc := make_any h (by decide)
  have HB := Lib.hid hb; clear hb h
  change Calls _ _ _ _ (fun e w' => e = .returned (.tuple #[.int .i64 1, .int .i64 0]) ∧ LkAt w' pa mb [⟨true, 0, 0⟩] 0 ∧ KeepL pa mb w1 w') at hc
  go_wp2_with fail
  refine hc.mono ?_
  rintro e w2 ⟨rfl, h, hk⟩
  have hb := KeepL.bel HB.out hk hpa hmb
  have hc2 := take_any h (by decide) (by decide) wf1 5
  clear hc hk HB
  have HB := Lib.hid hb; clear hb h
  change Calls _ _ _ _ (fun e w' => e = .returned (.int .i64 0) ∧ LkAt w' pa mb [⟨true, 5, 1⟩] 1 ∧ KeepL pa mb w2 w') at hc2
  go_wp2_with fail
  refine hc2.mono ?_
  rintro e w3 ⟨rfl, h, hk⟩
  have hb := KeepL.bel HB.out hk hpa hmb
  have hc3 := take_any h (by decide) (by decide) wf1 5
  clear hc2 hk HB
  have HB := Lib.hid hb; clear hb h
  change Calls _ _ _ _ (fun e w' => e = .returned (.int .i64 0) ∧ LkAt w' pa mb [⟨true, 5, 2⟩] 2 ∧ KeepL pa mb w3 w') at hc3
  go_wp2_with fail
  refine hc3.mono ?_
  rintro e w4 ⟨rfl, h, hk⟩
  have hb := KeepL.bel HB.out hk hpa hmb
  have hc4 := take_any h (by decide) (by decide) wf1 6
  clear hc3 hk HB
  have HB := Lib.hid hb; clear hb h
  change Calls _ _ _ _ (fun e w' => e = .returned (.int .i64 141) ∧ LkAt w' pa mb [⟨true, 5, 2⟩] 3 ∧ KeepL pa mb w4 w') at hc4
  go_wp2_with fail
  refine hc4.mono ?_
  rintro e w5 ⟨rfl, h, hk⟩
  have hb := KeepL.bel HB.out hk hpa hmb
  have hc5 := give_any h (by decide) (by decide) wf1 5
  clear hc4 hk HB
  have HB := Lib.hid hb; clear hb h
  change Calls _ _ _ _ (fun e w' => e = .returned (.int .i64 0) ∧ LkAt w' pa mb [⟨true, 5, 1⟩] 3 ∧ KeepL pa mb w5 w') at hc5
  go_wp2_with fail
  refine hc5.mono ?_
  rintro e w6 ⟨rfl, h, hk⟩
  have hb := KeepL.bel HB.out hk hpa hmb
  have hc6 := owner_any h wf1
  have HH := Lib.hid h
  clear hc5 hk HB
  have HB := Lib.hid hb; clear hb h
  change Calls _ _ _ _ (fun e w' => e = .returned (.tuple #[.int .i64 5, .int .i64 1]) ∧ Below w6.heap.size w6 w') at hc6
  go_wp2_with fail
  refine hc6.mono ?_
  rintro e w7 ⟨rfl, hk⟩
  have hz7 := HB.out.size
  have hb := HB.out.trans (hk.mono hz7)
  have h := HH.out.below hk
  have hc7 := leave_any h (by decide) (by decide) 5
  clear hc6 hk HB HH
  have HB := Lib.hid hb; clear hb h
  change Calls _ _ _ _ (fun e w' => ∃ v, e = .returned v ∧ w'.ownsRow w7.heap.size 3 1 v ([1] : List Int).length (([1] : List Int).map (Value.int .i64)) ∧ LkAt w' pa mb [⟨true, 0, 0⟩] 3 ∧ KeepL pa mb w7 w') at hc7
  rw [← hxs] at hc7
  go_wp2_with fail
  refine hc7.mono ?_
  rintro e w8 ⟨v, rfl, hrow, h, hk⟩
  have hb := KeepL.bel HB.out hk hpa hmb
  obtain ⟨a, ca, rfl, hi⟩ := own_ints hrow
  have hI := hi
  obtain ⟨g, off, rfl, hg, hcell⟩ := hi 0 hx0
  have hc8 := take_any h (by decide) (by decide) wf1 6
  have hnb := h
  clear hc7 hk HB
  have hrw : ∀ W, KeepL pa mb w8 W → W.ownsRow w7.heap.size 3 1 (.slice (some ⟨g, off, none⟩) xs.length ca) xs.length (xs.map (Value.int .i64)) := fun W hW => own_locks hrow hnb hW (by decide)
  have HRW := Lib.hid hrw; clear hrw hnb hrow hi hI
  have HB := Lib.hid hb; clear hb h hcell
  change Calls _ _ _ _ (fun e w' => e = .returned (.int .i64 0) ∧ LkAt w' pa mb [⟨true, 6, 1⟩] 4 ∧ KeepL pa mb w8 w') at hc8
  go_wp2_with fail
  refine hc8.mono ?_
  rintro e w9 ⟨rfl, h, hk⟩
  have hb := KeepL.bel HB.out hk hpa hmb
  have hz9 := hb.size
  obtain ⟨a9, c9, hv9, hi9⟩ := own_ints (HRW.out w9 hk)
  injection hv9 with hq1 _ hq3
  subst hq1 hq3
  obtain ⟨g', off', hgg, hg9, hcell⟩ := hi9 0 hx0
  injection hgg with hgg
  injection hgg with hq2 hq4
  subst hq2 hq4
  have e0 : xs.getD 0 0 = 1 := by rw [hxs]; rfl
  rw [e0] at hcell
  simp at hcell
  clear e0
  have hc9 := all_any h
  have HH := Lib.hid h; clear h hk HB hc8 HRW hi9
  have HB := Lib.hid hb; clear hb
  change Calls _ _ _ _ (fun e w' => ∃ v, e = .returned v ∧ w'.ownsRow w9.heap.size 3 1 v ([1] : List Int).length (([1] : List Int).map (Value.int .i64)) ∧ Below w9.heap.size w9 w') at hc9
  rw [← hxs] at hc9
  clear hxs
  go_wp2_with fail
  refine hc9.mono ?_
  rintro e w10 ⟨v, rfl, hrow, hk⟩
  obtain ⟨a10, c10, rfl, _⟩ := own_ints hrow
  have hb := HB.out.trans (hk.mono hz9)
  have hc10 := drop_any (HH.out.below hk) wf1
  clear hrow hk HH HB hc9
  have HB := Lib.hid hb; clear hb
  change Calls _ _ _ _ (fun e w' => e = .returned (.int .i64 150) ∧ LkAt w' pa mb [⟨true, 6, 1⟩] 4 ∧ KeepL pa mb w10 w') at hc10
  go_wp2_with fail
  refine hc10.mono ?_
  rintro e w11 ⟨rfl, h, hk⟩
  have HB2 := Lib.hid (KeepL.bel HB.out hk hpa hmb); clear h hk HB hc10
  go_wp2_with fail
  go_ret
  exact ⟨rfl, HB2.out⟩
end Go.Proofs.Ytbfnadpkgiglmaa
