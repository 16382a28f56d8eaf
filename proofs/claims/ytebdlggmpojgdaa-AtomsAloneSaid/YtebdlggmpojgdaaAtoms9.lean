/-
  Package atoms in memory: decide, readMark. Conditions: the table's block is live; for readMark, the mark is no negative number.
-/
import Derived.Test.YtebdlggmpojgdaaAtoms8
namespace Go.Proofs.Ytebdlggmpojgdaa
open Go.RowKit Go.Maps
set_option linter.unusedVariables false

section
variable {w : World} {X : Nat → Prop} {pa po pt bm : Nat} {o : OS} {s : ByteArray} {T : TS} {S : AS}
theorem OHead.drew (h : OHead w po pt o s) : OHead w.drew po pt o s := ⟨h.blk.drew⟩
set_option maxHeartbeats 4000000 in
theorem decide_any (h : OHead w po pt o s) (ht : THead w pt pa bm T) :
    Calls Try.prog 78 #[.pointer (some ⟨po, 0, none⟩)] w fun e w' => e = .returned (.tuple #[]) ∧ OHead w' po pt (o.decide T) s ∧ Keep (· ≠ po) w w' := by
  have hc := count_any o.seen
  have h3 := end_any h.drew 0 3
  have h21 := end_any h.drew 0 21
  have c0 := h.drew.cell 0
  have c1 := h.drew.cell 1
  have c4 := h.drew.cell 4
  have c9 := h.drew.cell 9
  have c10 := h.drew.cell 10
  have z1 := h.drew.thaw 1
  have t3 := ht.drew.cell 3
  simp only [ocells, List.getElem?_toArray, List.getElem?_cons_zero, List.getElem?_cons_succ] at c0 c1 c4 c9 c10 t3
  have r6 := h.drew.put 1 (.int .i64 6) (o' := { o with next := 6 }) (by simp [ocells])
  have r7 := h.drew.put 1 (.int .i64 7) (o' := { o with next := 7 }) (by simp [ocells])
  have k6 : Keep (· ≠ po) w (w.drew.setCell ⟨po, 1, none⟩ (.int .i64 6)) := (Keep.refl _ w).drew.trans (okeep _ po 1 _)
  have k7 : Keep (· ≠ po) w (w.drew.setCell ⟨po, 1, none⟩ (.int .i64 7)) := (Keep.refl _ w).drew.trans (okeep _ po 1 _)
  have kd : Keep (· ≠ po) w w.drew := (Keep.refl _ w).drew
  have HC := Lib.hid hc; clear hc
  have H3 := Lib.hid h3; clear h3
  have H21 := Lib.hid h21; clear h21
  have R6 := Lib.hid r6; clear r6
  have R7 := Lib.hid r7; clear r7
  have K6 := Lib.hid k6; clear k6
  have K7 := Lib.hid k7; clear k7
  have KD := Lib.hid kd; clear kd
  clear h ht
  by_cases h1 : T.most ≤ mCnt o.seen
  · have e : o.decide T = o.fin 0 3 := by unfold OS.decide; rw [if_pos h1]
    rw [e]; clear e
    generalize mCnt o.seen = c at HC h1
    generalize T.most = m at t3 h1
    go_enter Try.func78, Try.ntmps78
    go_wp2_with fail
    go_region_with (go_at_call 49; refine (HC.out _).mono ?_; rintro e w' ⟨rfl, rfl⟩)
    all_goals
      go_wp2_with (go_at_call 37; refine H3.out.mono ?_; rintro e w' ⟨rfl, r, k⟩; have R := Lib.hid r; clear r; have K := Lib.hid k; clear k)
      exact bodyPost_end (results_none rfl _ _ _) rfl ⟨rfl, R.out, KD.out.trans K.out⟩
  · by_cases h2 : o.full = true
    · have e : o.decide T = o.fin 0 21 := by unfold OS.decide; rw [if_neg h1, if_pos h2]
      rw [e]; clear e
      rw [h2] at c10
      generalize mCnt o.seen = c at HC h1
      generalize T.most = m at t3 h1
      go_enter Try.func78, Try.ntmps78
      go_wp2_with fail
      go_region_with (go_at_call 49; refine (HC.out _).mono ?_; rintro e w' ⟨rfl, rfl⟩)
      all_goals
        go_wp2_with (go_at_call 37; refine H21.out.mono ?_; rintro e w' ⟨rfl, r, k⟩; have R := Lib.hid r; clear r; have K := Lib.hid k; clear k)
        exact bodyPost_end (results_none rfl _ _ _) rfl ⟨rfl, R.out, KD.out.trans K.out⟩
    · have h2' : o.full = false := by simpa using h2
      rw [h2'] at c10
      by_cases h3 : o.block = 0
      · have e : o.decide T = { o with next := 6 } := by unfold OS.decide; rw [if_neg h1, if_neg h2, if_pos h3]
        rw [e]; clear e
        rw [h3] at c9
        clear h2 h2' h3
        generalize mCnt o.seen = c at HC h1
        generalize T.most = m at t3 h1
        go_enter Try.func78, Try.ntmps78
        go_wp2_with fail
        go_region_with (go_at_call 49; refine (HC.out _).mono ?_; rintro e w' ⟨rfl, rfl⟩)
        all_goals
          go_wp2_with fail
          first
            | exact bodyPost_end (results_none rfl _ _ _) rfl ⟨rfl, R6.out, K6.out⟩
            | exact bodyPost_ret (results_none rfl _ _ _) rfl ⟨rfl, R6.out, K6.out⟩
      · have e : o.decide T = { o with next := 7 } := by unfold OS.decide; rw [if_neg h1, if_neg h2, if_neg h3]
        rw [e]; clear e
        have hne : (o.block == 0) = false := by simpa using h3
        clear h2 h2' h3
        generalize mCnt o.seen = c at HC h1
        generalize T.most = m at t3 h1
        go_enter Try.func78, Try.ntmps78
        go_wp2_with fail
        go_region_with (go_at_call 49; refine (HC.out _).mono ?_; rintro e w' ⟨rfl, rfl⟩)
        all_goals
          go_wp2_with fail
          first
            | exact bodyPost_end (results_none rfl _ _ _) rfl ⟨rfl, R7.out, K7.out⟩
            | exact bodyPost_ret (results_none rfl _ _ _) rfl ⟨rfl, R7.out, K7.out⟩
end
end Go.Proofs.Ytebdlggmpojgdaa
