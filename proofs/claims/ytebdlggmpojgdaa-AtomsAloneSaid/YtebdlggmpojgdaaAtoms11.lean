/-
  Package atoms in memory: Over, Answer, Len. Conditions: for Len, the table's block is live.
-/
import Derived.Test.YtebdlggmpojgdaaAtoms10
namespace Go.Proofs.Ytebdlggmpojgdaa
open Go.RowKit Go.Maps
set_option linter.unusedVariables false

section
variable {w : World} {X : Nat → Prop} {pa po pt bm : Nat} {o : OS} {s : ByteArray} {T : TS} {S : AS}
theorem over_any (h : OHead w po pt o s) : Calls Try.prog 14 #[.pointer (some ⟨po, 0, none⟩)] w fun e w' => e = .returned (.bool (decide (o.next = 10))) ∧ w = w' := by
  have c1 := h.cell 1
  simp only [ocells, List.getElem?_toArray, List.getElem?_cons_zero, List.getElem?_cons_succ] at c1
  clear h
  by_cases hn : o.next = 10
  · rw [hn] at c1 ⊢
    have c1' : w.cell? ⟨po, 1, none⟩ = some (.int .i64 10) := c1
    clear c1 hn
    go_enter Try.func14, Try.ntmps14
    go_wp2_with fail
    go_ret
    exact ⟨rfl, rfl⟩
  · rw [decide_eq_false hn]
    have hne : ((o.next : Int) == 10) = false := by
      have : ¬ (o.next : Int) = 10 := by omega
      simpa using this
    clear hn
    generalize (o.next : Int) = n at c1 hne
    go_enter Try.func14, Try.ntmps14
    go_wp2_with fail
    go_ret
    exact ⟨by rw [← hne]; rfl, rfl⟩
theorem answer_any (h : OHead w po pt o s) : Calls Try.prog 13 #[.pointer (some ⟨po, 0, none⟩)] w fun e w' => e = .returned (.tuple (if o.next = 10 then #[.int .i64 o.id, .int .i64 o.err] else #[.int .i64 0, .int .i64 0])) ∧ Keep (fun _ => True) w w' := by
  have hv := over_any h
  have c11 := h.drew.cell 11
  have c12 := h.drew.cell 12
  simp only [ocells, List.getElem?_toArray, List.getElem?_cons_zero, List.getElem?_cons_succ] at c11 c12
  clear h
  by_cases hn : o.next = 10
  · rw [if_pos hn]
    rw [decide_eq_true hn] at hv
    have HV := Lib.hid hv; clear hv hn
    go_enter Try.func13, Try.ntmps13
    go_wp2_with (go_at_call 14; refine HV.out.mono ?_; rintro e w' ⟨rfl, rfl⟩)
    go_region_with fail
    all_goals
      go_wp2_with fail
      go_ret2
      exact ⟨rfl, (Keep.refl _ w).drew⟩
  · rw [if_neg hn]
    rw [decide_eq_false hn] at hv
    have HV := Lib.hid hv; clear hv hn
    go_enter Try.func13, Try.ntmps13
    go_wp2_with (go_at_call 14; refine HV.out.mono ?_; rintro e w' ⟨rfl, rfl⟩)
    go_ret2
    exact ⟨rfl, Keep.refl _ w⟩
theorem len_any (ht : THead w pt pa bm T) (hA : Arena w X pa S) (hwb : (ik T.first).wf = true) {cs : List Int} (hl : look S.bl T.first = some cs) (hi : 0 < cs.length) :
    Calls Try.prog 17 #[.pointer (some ⟨pt, 0, none⟩)] w fun e w' => e = .returned (.int .i64 (mCnt (cs.getD 0 0))) ∧ w' = w.drew := by
  have hm := mark_any hA ht hwb hl hi
  have hn := count_any (cs.getD 0 0)
  generalize cs.getD 0 0 = x at hm hn ⊢
  generalize w.drew = w1 at hm ⊢
  have HM := Lib.hid hm; clear hm
  have HN := Lib.hid hn; clear hn
  clear ht hA hwb hl hi
  go_enter Try.func17, Try.ntmps17
  go_wp2_with (first | (go_at_call 48; refine HM.out.mono ?_; rintro e w' ⟨rfl, rfl⟩) | (go_at_call 49; refine (HN.out _).mono ?_; rintro e w' ⟨rfl, rfl⟩))
  go_ret
  exact ⟨rfl, rfl⟩
end
end Go.Proofs.Ytebdlggmpojgdaa
