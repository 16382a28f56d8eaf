/-
  The contract of package sched's Ready. Conditions: the scheduler stands for a plain state.
-/
import Derived.Test.YtlmgojnhmdppnaaSc2
namespace Go.Proofs.Ytlmgojnhmdppnaa
open Go.RowKit Go.Maps
set_option linter.unusedVariables false

/-! ### Ready -/
theorem readyT_succ (l : List Th) (k : Nat) (hk : k < l.length) : readyT (l.take (k + 1)) = readyT (l.take k) ++ if l[k].st == 1 then [l[k].no] else [] := by
  unfold readyT
  rw [List.take_succ_eq_append_getElem hk, List.filter_append, List.map_append]
  congr 1
  cases h : (l[k].st == 1) <;> simp [h]
theorem readyT_le (l : List Th) (k : Nat) : (readyT (l.take k)).length ≤ k := by
  unfold readyT; rw [List.length_map]; exact Nat.le_trans (List.length_filter_le _ _) (List.length_take_le _ _)

set_option maxRecDepth 100000 in
set_option maxHeartbeats 1000000 in
theorem ready_any {w : World} {X : Nat → Prop} {ps : Nat} {Z : ZS} (h : Zd w X ps Z) :
    Calls Try.prog 44 #[.pointer (some ⟨ps, 0, none⟩)] w fun e w' => ∃ u, e = .returned u ∧ Below w.heap.size w w' ∧ w'.ownsRow w.heap.size 3 1 u (readyT Z.ths).length ((readyT Z.ths).map (Value.int .i64)) := by
  obtain ⟨v, h⟩ := h
  obtain ⟨i0, hi0, hz0, hz1, hz2⟩ := info_parts info3
  obtain ⟨a, cap, hv, hcap, hmax, hr⟩ := row_ths h.row
  have c2 := h.cells.2.2.1
  rw [hv] at c2
  have hlt := h.head.lt
  have h8 := h.ok.eight
  clear h hv
  generalize Z.ths = L at *
  have HR := Lib.hid hr; clear hr
  have HS := Lib.hid (readyT_succ L)
  have HL := Lib.hid (readyT_le L)
  go_enter Try.func44, Try.ntmps44
  go_wp2
  go_loopw [3, 11] (fun u i wr => ∃ k : Nat, k ≤ L.length ∧ i = .int .i64 k ∧ Below w.heap.size w wr ∧ wr.ownsRow w.heap.size 3 1 u (readyT (L.take k)).length ((readyT (L.take k)).map (Value.int .i64))) (fun _ i _ => L.length - (intOf i).toNat)
  case atStart => exact ⟨0, by omega, rfl, Below.refl _ _, World.ownsRow_nil _ _ _ _⟩
  case round =>
    obtain ⟨k, hk, rfl, hb, hown⟩ := hrel
    have hz := hb.size
    by_cases hkl : k < L.length
    · obtain ⟨g, rfl, hg, d0, d1, d2⟩ := (HR.out.below hb) k hkl
      have hs := HS.out k hkl
      have hl := HL.out k
      generalize L[k].no = x0 at d0 hs
      generalize L[k].st = x1 at d1 hs
      generalize L[k].key = x2 at d2
      have HB := Lib.hid hb; clear hb
      have HOWN := Lib.hid hown; clear hown
      have hg' := hg
      cases hx : (x1 == 1) with
      | false =>
        rw [hx] at hs
        have HS' := Lib.hid hs; clear hs
        go_wp2
        go_roundw
        case rel => exact ⟨k + 1, by omega, by go_num, HB.out.alloc hz _, by rw [HS'.out]; simpa using HOWN.out.alloc _⟩
        case measure => simp [intOf]; omega
      | true =>
        rw [hx] at hs
        have HS' := Lib.hid hs; clear hs
        go_wp2_with (at_builtin; refine wpList_append_own _ rfl _ _ 30 rfl w.heap.size 3 i0 (.int .i64 0) 1 8 Try.underlying30 hi0 hz0 hz1 hz2 rfl (by decide) _ _ _ rfl ((HOWN.out.alloc _).alloc _) ⟨wr.heap.size + 1, 0, none⟩ 1 1 [.int .i64 x0] rfl rfl ?c1 ?c2 ?c3 ?c4 ?c5 ?_)
        case c2 => rfl
        case c3 => unfold maxLen; omega
        case c4 => omega
        case c5 => omega
        intro v' w' hown' hgrow _
        have HOW2 : Hid (w'.ownsRow w.heap.size 3 1 v' (readyT (L.take (k + 1))).length ((readyT (L.take (k + 1))).map (Value.int .i64))) := by
          refine Lib.hid ?_; rw [HS'.out]; simpa using hown'
        have HBN := Lib.hid (((HB.out.alloc hz _).alloc (by simp; omega) _).grown hgrow (by simp; omega) (fun g hg => (HOWN.out.lt g hg).1))
        clear hown' hgrow
        go_wp2_with fail
        go_roundw
        case rel => exact ⟨k + 1, by omega, by go_num, HBN.out, HOW2.out⟩
        case measure => simp [intOf]; omega
    · obtain rfl : k = L.length := by omega
      rw [List.take_length] at hown
      have HB := Lib.hid hb; clear hb
      have HOWN := Lib.hid hown; clear hown
      go_wp2
      go_ret
      exact ⟨_, rfl, HB.out, HOWN.out⟩

end Go.Proofs.Ytlmgojnhmdppnaa
