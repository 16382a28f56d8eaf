/-
  Lists of operators that stand in memory: the reference's comparison of two. No condition.
-/
import Derived.Test.YtbjnbfoedicelaaDoorOp23
import Derived.StillTactics
import Derived.StillTailTactics
namespace Go.Proofs.YtbjnbfoedicelaaDoor
open Go.RowKit Go.Shelf Go.Maps
set_option linter.unusedVariables false
set_option linter.unusedSimpArgs false

set_option maxRecDepth 1000000 in
set_option maxHeartbeats 8000000 in
theorem same_any {w : World} {base base' : Nat} {v v' : Value} {xs : Tab} (h : OpsSl w base v xs) (h' : OpsSl w base' v' xs) (hl : xs.length ≤ 200) : Calls Tryd.prog 12 #[v, v'] w fun e w' => e = .returned (.bool true) ∧ Keep (fun _ => True) w w' := by
  obtain ⟨a, c, rfl, hc⟩ := h
  obtain ⟨a', c', rfl, hc'⟩ := h'
  have HC := Lib.hid hc
  have HC' := Lib.hid hc'
  clear hc hc'
  go_enter Tryd.func12, Tryd.ntmps12
  go_wp2_with fail
  go_loopw [5] (fun i wr => ∃ k : Nat, k ≤ xs.length ∧ i = .int .i64 k ∧ Keep (fun _ => True) w wr) (fun i _ => xs.length - (intOf i).toNat)
  case atStart => exact ⟨0, by omega, rfl, Keep.refl _ _⟩
  case round =>
    obtain ⟨k, hk, rfl, hL⟩ := hrel
    by_cases hlt : k < xs.length
    · obtain ⟨x, hxk⟩ : ∃ x, xs[k]? = some x := ⟨_, List.getElem?_eq_getElem hlt⟩
      obtain ⟨g, rfl, _, hg, c0, c1, c2⟩ := HC.out k x hxk
      obtain ⟨g', rfl, _, hg', c0', c1', c2'⟩ := HC'.out k x hxk
      have e : ∀ b j, b < w.heap.size → wr.cell? ⟨b, j, none⟩ = w.cell? ⟨b, j, none⟩ := fun b j hb => World.cell?_of_block (hL.block b hb trivial)
      rw [← e g _ hg] at c0 c1 c2
      rw [← e g' _ hg'] at c0' c1' c2'
      have hs := hL.size
      have HL := Lib.hid hL
      clear hL e
      go_wp2_with fail
      refine wp_region_still_lit (by kernel_rfl) (by kernel_rfl) ?_
      repeat still_step
      refine wpStill_nil ?_
      have hw : ({ wr with drawn := wr.drawn + 1 } : World) = wr.drew := rfl
      rw [hw]
      clear hw
      have HL2 := Lib.hid HL.out.drew
      go_wp2_with fail
      go_roundw
      case rel => exact ⟨k + 1, by omega, by go_num, HL2.out⟩
      case measure => simp [intOf]; omega
    · have hke : k = xs.length := by omega
      subst hke
      have HL := Lib.hid hL
      clear hL
      go_wp2_with fail
      go_ret
      exact ⟨rfl, HL.out⟩
end Go.Proofs.YtbjnbfoedicelaaDoor
