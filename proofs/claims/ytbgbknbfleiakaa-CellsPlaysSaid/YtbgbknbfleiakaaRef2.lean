/-
  The document's own arena: the contracts of Is, Live and put. Conditions: lengths below 2^42, as the reach has it.
-/
import Derived.Test.YtbgbknbfleiakaaRef1
namespace Go.Proofs.Ytbgbknbfleiakaa
open Go.RowKit Go.Maps

section
variable {w : World} {Y : Nat → Prop} {A : Option Addr} {vals : List Value} {bl : List (List Int)}
theorem is_out (c : Nat) (most fl b : Int) (hb : b < 1 ∨ (bl.length : Int) < b) (_hlen : bl.length ≤ 4398046511104) :
    Calls Try.prog 29 #[.agg #[.slice A bl.length c, .int .i64 most, .int .i64 fl], .int .i64 b] w fun e w' => e = .returned (.bool false) ∧ Below w.heap.size w w' := by
  by_cases h1 : b < 1
  all_goals
    go_enter Try.func29, Try.ntmps29
    go_wp2
    go_ret
    exact ⟨rfl, (Below.refl _ _).alloc (Nat.le_refl _) _⟩
theorem is_in (h : RowsAt w Y A vals bl) (c : Nat) (most fl : Int) {i : Nat} (hi : i < bl.length) (hlen : bl.length ≤ 4398046511104) {ok : Bool} (hok : decide (0 < (bl.getD i []).length) = ok) :
    Calls Try.prog 29 #[.agg #[.slice A bl.length c, .int .i64 most, .int .i64 fl], .int .i64 ((i : Int) + 1)] w fun e w' => e = .returned (.bool ok) ∧ Below w.heap.size w w' := by
  obtain ⟨g, rfl, _, hlt, hc⟩ := h.row (by omega)
  obtain ⟨Ai, ci, hv, _⟩ := h.ints i hi
  have hcell := hc i hi
  rw [hv] at hcell
  have hcell' : (w.alloc (.cells #[.slice (some ⟨g, 0, none⟩) bl.length c, .int .i64 most, .int .i64 fl] 28)).cell? ⟨g, i, none⟩ = some (.slice Ai (bl.getD i []).length ci) := by
    rw [World.cell?_alloc_lt _ _ ⟨g, i, none⟩ hlt]; exact hcell
  clear hc hv h
  generalize (bl.getD i []).length = n at *
  have HOK := Lib.hid hok; clear hok
  go_enter Try.func29, Try.ntmps29
  go_wp2
  go_ret
  refine ⟨?_, (Below.refl _ _).alloc (Nat.le_refl _) _⟩
  show Ending.returned (.bool (decide (0 < n))) = _
  rw [HOK.out]
end

def cnt (bl : List (List Int)) : Nat := (bl.filter (fun l => decide (0 < l.length))).length
def tot (bl : List (List Int)) : Nat := (bl.map (·.length)).sum
theorem cnt_snoc (bl : List (List Int)) (x : List Int) : cnt (bl ++ [x]) = cnt bl + if 0 < x.length then 1 else 0 := by
  unfold cnt; rw [List.filter_append]; by_cases h : 0 < x.length <;> simp [h]
theorem tot_snoc (bl : List (List Int)) (x : List Int) : tot (bl ++ [x]) = tot bl + x.length := by
  unfold tot; simp
theorem cnt_le (bl : List (List Int)) : cnt bl ≤ bl.length := List.length_filter_le _ _
theorem take_snoc' {bl : List (List Int)} {j : Nat} (h : j < bl.length) : bl.take (j + 1) = bl.take j ++ [bl.getD j []] := by
  rw [List.take_succ_eq_append_getElem h]; simp [List.getD, h]
theorem tot_take_le (bl : List (List Int)) (j : Nat) : tot (bl.take j) ≤ tot bl := by
  have : tot bl = tot (bl.take j) + tot (bl.drop j) := by
    unfold tot; rw [← List.sum_append, ← List.map_append, List.take_append_drop]
  omega

set_option maxHeartbeats 1000000 in
theorem refLive_any {w : World} {Y : Nat → Prop} {A : Option Addr} {vals : List Value} {bl : List (List Int)} (h : RowsAt w Y A vals bl) (c : Nat) (most fl : Int) (hlen : bl.length ≤ 4398046511104) (ht : tot bl ≤ 65536) :
    Calls Try.prog 13 #[.agg #[.slice A bl.length c, .int .i64 most, .int .i64 fl]] w fun e w' => e = .returned (.tuple #[.int .i64 (cnt bl), .int .i64 (tot bl)]) ∧ Below w.heap.size w w' := by
  have hR := h.below ((Below.refl w.heap.size w).alloc (Nat.le_refl _) (.cells #[.slice A bl.length c, .int .i64 most, .int .i64 fl] 28))
  have hB := Blk.new w 28 #[.slice A bl.length c, .int .i64 most, .int .i64 fl]
  obtain ⟨c0, _⟩ := hB.three
  have hbel := (Below.refl w.heap.size w).alloc (Nat.le_refl _) (.cells #[.slice A bl.length c, .int .i64 most, .int .i64 fl] 28)
  have HR := Lib.hid hR; clear hR
  have HBEL := Lib.hid hbel; clear hbel
  clear h hB
  go_enter Try.func13, Try.ntmps13
  go_wp2_with fail
  generalize w.alloc (.cells #[.slice A bl.length c, .int .i64 most, .int .i64 fl] 28) = W at c0 HR HBEL ⊢
  go_loop [4, 5, 6] (fun n m i => ∃ j : Nat, j ≤ bl.length ∧ i = .int .i64 j ∧ n = .int .i64 (cnt (bl.take j)) ∧ m = .int .i64 (tot (bl.take j))) (fun _ _ i => bl.length - (intOf i).toNat)
  case atStart => exact ⟨0, by omega, rfl, rfl, rfl⟩
  case round =>
    obtain ⟨j, hj, rfl, rfl, rfl⟩ := hrel
    by_cases hjl : j < bl.length
    · obtain ⟨g, rfl, _, hlt, hc⟩ := HR.out.row (by omega)
      obtain ⟨Ai, ci, hv, _⟩ := HR.out.ints j hjl
      have hcell := hc j hjl
      rw [hv] at hcell
      have hcs := cnt_snoc (bl.take j) (bl.getD j [])
      have hts := tot_snoc (bl.take j) (bl.getD j [])
      rw [← take_snoc' hjl] at hcs hts
      have hb1 := tot_take_le bl (j + 1)
      have hb2 := cnt_le (bl.take j)
      rw [List.length_take] at hb2
      clear hc hv
      generalize (bl.getD j []).length = n at hcell hcs hts
      generalize cnt (bl.take j) = cj at hcs hb2 ⊢
      generalize tot (bl.take j) = tj at hts ⊢
      by_cases hn : 0 < n
      · rw [if_pos hn] at hcs
        have HCS := Lib.hid hcs; clear hcs
        have hle : tj + n ≤ 65536 := by omega
        have HTS := Lib.hid hts; clear hts
        have hcl : cj ≤ 4398046511104 := by omega
        have hn' : (0 : Int) < (n : Int) := by omega
        clear hb1 hb2
        go_wp2_with fail
        go_round
        case rel => exact ⟨j + 1, by omega, by go_num, by rw [HCS.out]; go_num, by rw [HTS.out]; go_num⟩
        case measure => simp [intOf]; omega
      · obtain rfl : n = 0 := by omega
        rw [if_neg hn] at hcs
        have HCS := Lib.hid hcs; clear hcs
        have HTS := Lib.hid hts; clear hts
        clear hb1 hb2
        go_wp2_with fail
        go_round
        case rel => exact ⟨j + 1, by omega, by go_num, by rw [HCS.out]; rfl, by rw [HTS.out]; rfl⟩
        case measure => simp [intOf]; omega
    · obtain rfl : j = bl.length := by omega
      rw [List.take_of_length_le (Nat.le_refl _)]
      go_wp2_with fail
      go_ret2
      exact ⟨rfl, HBEL.out⟩

end Go.Proofs.Ytbgbknbfleiakaa
