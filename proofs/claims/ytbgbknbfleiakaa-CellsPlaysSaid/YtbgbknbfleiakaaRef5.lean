/-
  The document's own arena: the contracts of Free and Reach. Conditions: lengths below 2^42, as the reach has it.
-/
import Derived.Test.YtbgbknbfleiakaaRef4
namespace Go.Proofs.Ytbgbknbfleiakaa
open Go.RowKit Go.Maps

/-- Is, where it says no: out of range, or an empty place. -/
def NotIn (bl : List (List Int)) (b : Int) : Prop := (b < 1 ∨ (bl.length : Int) < b) ∨ ∃ i : Nat, i < bl.length ∧ b = (i : Int) + 1 ∧ (bl.getD i []).length = 0
theorem is_no {w : World} {Y : Nat → Prop} {A : Option Addr} {vals : List Value} {bl : List (List Int)} (h : RowsAt w Y A vals bl) (c : Nat) (most fl : Int) {b : Int} (hb : NotIn bl b) (hlen : bl.length ≤ 4398046511104) :
    Calls Try.prog 29 #[.agg #[.slice A bl.length c, .int .i64 most, .int .i64 fl], .int .i64 b] w fun e w' => e = .returned (.bool false) ∧ Below w.heap.size w w' := by
  rcases hb with hb | ⟨i, hi, rfl, h0⟩
  · exact is_out c most fl b hb hlen
  · exact is_in h c most fl hi hlen (by rw [h0]; rfl)
theorem is_yes {w : World} {Y : Nat → Prop} {A : Option Addr} {vals : List Value} {bl : List (List Int)} (h : RowsAt w Y A vals bl) (c : Nat) (most fl : Int) {i : Nat} (hi : i < bl.length) (h0 : 0 < (bl.getD i []).length) (hlen : bl.length ≤ 4398046511104) :
    Calls Try.prog 29 #[.agg #[.slice A bl.length c, .int .i64 most, .int .i64 fl], .int .i64 ((i : Int) + 1)] w fun e w' => e = .returned (.bool true) ∧ Below w.heap.size w w' :=
  is_in h c most fl hi hlen (decide_eq_true h0)

set_option maxHeartbeats 1000000 in
theorem free_no {w : World} {Y : Nat → Prop} {A : Option Addr} {vals : List Value} {bl : List (List Int)} (h : RowsAt w Y A vals bl) (c : Nat) (most fl : Int) {b : Int} (hb : NotIn bl b) (hlen : bl.length ≤ 4398046511104) :
    Calls Try.prog 24 #[.agg #[.slice A bl.length c, .int .i64 most, .int .i64 fl], .int .i64 b] w fun e w' =>
      e = .returned (.tuple #[.agg #[.slice A bl.length c, .int .i64 most, .int .i64 (wrap64 (fl + 1))], .int .i64 20]) ∧ Below w.heap.size w w' := by
  have hb2 := below2 (w := w) #[.slice A bl.length c, .int .i64 most, .int .i64 fl] #[.slice none 0 0, .int .i64 0, .int .i64 0]
  have hcall := is_no (h.below hb2) c most fl hb hlen
  have HC := Lib.hid hcall; clear hcall
  clear h hb hb2
  go_enter Try.func24, Try.ntmps24
  go_wp2_with fail
  refine HC.out.mono ?_
  rintro e w1 ⟨rfl, b1⟩
  obtain ⟨hM, hR, n1, hb1⟩ := box2 b1
  obtain ⟨c0, c1, c2, f0, f1, f2⟩ := hM.three
  have hM2 := hM.set_ 2 (.int .i64 (wrap64 (fl + 1)))
  obtain ⟨d0, d1, d2, _⟩ := hM2.three
  have hR2 := hR.far (p := ⟨w.heap.size, 2, none⟩) (by simp) (.int .i64 (wrap64 (fl + 1)))
  obtain ⟨r0, r1, r2, g0, g1, g2⟩ := hR2.three
  have hF := ((hR2.set_ 0 (.slice A bl.length c)).set_ 1 (.int .i64 most)).set_ 2 (.int .i64 (wrap64 (fl + 1)))
  obtain ⟨q0, q1, q2, _⟩ := hF.three
  have HB1 := Lib.hid hb1; clear hb1
  clear b1 hM hR hM2 hR2 hF n1
  go_wp2_with fail
  refine bodyPost_ret (by simp [results, Try.results24, go_sem, q0, q1, q2]; rfl) rfl ?_
  exact ⟨rfl, below_set (below_set (below_set (below_set HB1.out (by omega)) (by omega)) (by omega)) (by omega)⟩

set_option maxHeartbeats 1000000 in
theorem free_yes {w : World} {Y : Nat → Prop} {A : Option Addr} {vals : List Value} {bl : List (List Int)} (h : RowsAt w Y A vals bl) (hY : ∀ k, Y k → k < w.heap.size) (c : Nat) (most fl : Int) {i : Nat} (hi : i < bl.length) (h0 : 0 < (bl.getD i []).length) (hlen : bl.length ≤ 4398046511104) :
    Calls Try.prog 24 #[.agg #[.slice A bl.length c, .int .i64 most, .int .i64 fl], .int .i64 ((i : Int) + 1)] w fun e w' =>
      ∃ A' c' vals', e = .returned (.tuple #[.agg #[.slice A' bl.length c', .int .i64 most, .int .i64 fl], .int .i64 0]) ∧ RowsAt w' (plus Y w w') A' vals' (bl.set i []) ∧ Below w.heap.size w w' := by
  have hb2 := below2 (w := w) #[.slice A bl.length c, .int .i64 most, .int .i64 fl] #[.slice none 0 0, .int .i64 0, .int .i64 0]
  have hcall := is_yes (h.below hb2) c most fl hi h0 hlen
  have HC := Lib.hid hcall; clear hcall
  have H := Lib.hid h; clear h
  clear hb2 h0
  go_enter Try.func24, Try.ntmps24
  go_wp2_with fail
  refine HC.out.mono ?_
  rintro e w1 ⟨rfl, b1⟩
  obtain ⟨hM, hR, n1, hb1⟩ := box2 b1
  obtain ⟨c0, c1, c2, f0, f1, f2⟩ := hM.three
  have hput := put_any (H.out.below hb1) c most fl hi hlen (Ax := none) (cx := 0) (xs := []) (Ints.nil_ (w := w1) (Y := Y))
  simp only [List.length_nil] at hput
  have HP := Lib.hid hput; clear hput
  have HR1 := Lib.hid hR; clear hR
  have HB1 := Lib.hid hb1; clear hb1
  have HN1 := Lib.hid n1; clear n1
  clear b1 hM
  go_wp2_with fail
  refine HP.out.mono ?_
  rintro e w3 ⟨A3, c3, rfl, hrows3, b3⟩
  have hR3 := HR1.out.below b3 (by have := HN1.out; omega)
  obtain ⟨r0, r1, r2, k0, k1, k2⟩ := hR3.three
  have hF := ((hR3.set_ 0 (.slice A3 bl.length c3)).set_ 1 (.int .i64 most)).set_ 2 (.int .i64 fl)
  obtain ⟨q0, q1, q2, _⟩ := hF.three
  have HB3 := Lib.hid b3; clear b3
  have HROWS := Lib.hid hrows3; clear hrows3
  clear hR3 hF
  go_wp2_with fail
  refine bodyPost_ret (by simp [results, Try.results24, go_sem, q0, q1, q2]; rfl) rfl ?_
  have n1 := HN1.out
  have n3 := HB3.out.size
  have hx : ¬ plus Y w1 w3 (w.heap.size + 1) := by
    rintro (hh | hh)
    · have := hY _ hh; omega
    · omega
  refine ⟨A3, c3, _, rfl, HROWS.out.keep (keep_set (keep_set (keep_set (Keep.refl _ _) hx) hx) hx) (fun q hq => hq) |>.wide (fun q hq => ?_), ?_⟩
  · rcases hq with hh | hh
    · exact .inl hh
    · exact .inr ⟨by omega, by simp [World.setCell]; omega⟩
  · exact below_set (below_set (below_set (HB1.out.trans (HB3.out.mono (by omega))) (by omega)) (by omega)) (by omega)

set_option maxHeartbeats 1000000 in
theorem reach_no {w : World} {Y : Nat → Prop} {A : Option Addr} {vals : List Value} {bl : List (List Int)} (h : RowsAt w Y A vals bl) (c : Nat) (most fl : Int) {b : Int} (hb : NotIn bl b) (i : Int) (hlen : bl.length ≤ 4398046511104) :
    Calls Try.prog 25 #[.agg #[.slice A bl.length c, .int .i64 most, .int .i64 fl], .int .i64 b, .int .i64 i] w fun e w' =>
      e = .returned (.tuple #[.agg #[.slice A bl.length c, .int .i64 most, .int .i64 (wrap64 (fl + 1))], .int .i64 20]) ∧ Below w.heap.size w w' := by
  have hb2 := below2 (w := w) #[.slice A bl.length c, .int .i64 most, .int .i64 fl] #[.slice none 0 0, .int .i64 0, .int .i64 0]
  have hcall := is_no (h.below hb2) c most fl hb hlen
  have HC := Lib.hid hcall; clear hcall
  clear h hb hb2
  go_enter Try.func25, Try.ntmps25
  go_wp2_with fail
  refine HC.out.mono ?_
  rintro e w1 ⟨rfl, b1⟩
  obtain ⟨hM, hR, n1, hb1⟩ := box2 b1
  obtain ⟨c0, c1, c2, f0, f1, f2⟩ := hM.three
  have hM2 := hM.set_ 2 (.int .i64 (wrap64 (fl + 1)))
  obtain ⟨d0, d1, d2, _⟩ := hM2.three
  have hR2 := hR.far (p := ⟨w.heap.size, 2, none⟩) (by simp) (.int .i64 (wrap64 (fl + 1)))
  obtain ⟨r0, r1, r2, g0, g1, g2⟩ := hR2.three
  have hF := ((hR2.set_ 0 (.slice A bl.length c)).set_ 1 (.int .i64 most)).set_ 2 (.int .i64 (wrap64 (fl + 1)))
  obtain ⟨q0, q1, q2, _⟩ := hF.three
  have HB1 := Lib.hid hb1; clear hb1
  clear b1 hM hR hM2 hR2 hF n1
  go_wp2_with fail
  refine bodyPost_ret (by simp [results, Try.results25, go_sem, q0, q1, q2]; rfl) rfl ?_
  exact ⟨rfl, below_set (below_set (below_set (below_set HB1.out (by omega)) (by omega)) (by omega)) (by omega)⟩

def reachErr (n : Nat) (i : Int) : Int := if 0 ≤ i ∧ i < n then 0 else 1
set_option maxHeartbeats 1000000 in
theorem reach_yes {w : World} {Y : Nat → Prop} {A : Option Addr} {vals : List Value} {bl : List (List Int)} (h : RowsAt w Y A vals bl) (c : Nat) (most fl : Int) {j : Nat} (hj : j < bl.length) (h0 : 0 < (bl.getD j []).length) (hn : (bl.getD j []).length ≤ 65536) (i : Int) (hlen : bl.length ≤ 4398046511104) :
    Calls Try.prog 25 #[.agg #[.slice A bl.length c, .int .i64 most, .int .i64 fl], .int .i64 ((j : Int) + 1), .int .i64 i] w fun e w' =>
      e = .returned (.tuple #[.agg #[.slice A bl.length c, .int .i64 most, .int .i64 fl], .int .i64 (reachErr (bl.getD j []).length i)]) ∧ Below w.heap.size w w' := by
  have hb2 := below2 (w := w) #[.slice A bl.length c, .int .i64 most, .int .i64 fl] #[.slice none 0 0, .int .i64 0, .int .i64 0]
  have hcall := is_yes (h.below hb2) c most fl hj h0 hlen
  obtain ⟨g, rfl, _, hlt, hc⟩ := h.row (by omega)
  obtain ⟨Aj, cj, hv, _⟩ := h.ints j hj
  have hcell := hc j hj
  rw [hv] at hcell
  have HC := Lib.hid hcall; clear hcall
  clear h hb2 hc hv h0
  unfold reachErr
  generalize (bl.getD j []).length = n at hcell hn ⊢
  have hcases : (i < 0 ∧ ¬ (0 ≤ i ∧ i < n)) ∨ ((n : Int) ≤ i ∧ 0 ≤ i ∧ ¬ (0 ≤ i ∧ i < n)) ∨ (0 ≤ i ∧ i < n ∧ (0 ≤ i ∧ i < n)) := by omega
  rcases hcases with ⟨t1, t2⟩ | ⟨t1, t3, t2⟩ | ⟨t1, t3, t2⟩
  all_goals
    first | rw [if_neg t2] | rw [if_pos t2]
    clear t2
    go_enter Try.func25, Try.ntmps25
    go_wp2_with fail
    refine HC.out.mono ?_
    rintro e w1 ⟨rfl, b1⟩
    obtain ⟨hM, hR, n1, hb1⟩ := box2 b1
    obtain ⟨c0, c1, c2, f0, f1, f2⟩ := hM.three
    obtain ⟨r0, r1, r2, g0, g1, g2⟩ := hR.three
    have hF := ((hR.set_ 0 (.slice (some ⟨g, 0, none⟩) bl.length c)).set_ 1 (.int .i64 most)).set_ 2 (.int .i64 fl)
    obtain ⟨q0, q1, q2, _⟩ := hF.three
    have hcell1 : w1.cell? ⟨g, j, none⟩ = some (.slice Aj n cj) := (hb1.cell (p := ⟨g, j, none⟩) hlt).trans hcell
    have HB1 := Lib.hid hb1; clear hb1
    clear b1 hM hR hF n1
    go_wp2_with fail
    refine bodyPost_ret (by simp [results, Try.results25, go_sem, q0, q1, q2]; rfl) rfl ?_
    exact ⟨rfl, below_set (below_set (below_set HB1.out (by omega)) (by omega)) (by omega)⟩

end Go.Proofs.Ytbgbknbfleiakaa
