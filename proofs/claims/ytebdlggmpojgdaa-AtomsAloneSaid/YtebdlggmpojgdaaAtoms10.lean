/-
  Package atoms in memory: readMark. Conditions: the table's block is live; the mark is no negative number.
-/
import Derived.Test.YtebdlggmpojgdaaAtoms9
namespace Go.Proofs.Ytebdlggmpojgdaa
open Go.RowKit Go.Maps
set_option linter.unusedVariables false

section
variable {w : World} {X : Nat → Prop} {pa po pt bm : Nat} {o : OS} {s : ByteArray} {T : TS} {S : AS}
theorem THead.drew (h : THead w pt pa bm T) : THead w.drew pt pa bm T := Blk.drew h
set_option maxHeartbeats 1000000 in
theorem readMark_any (h : OHead w po pt o s) (ht : THead w pt pa bm T) (hA : Arena w X pa S) (hwb : (ik T.first).wf = true) {cs : List Int} (hl : look S.bl T.first = some cs) (hi : 0 < cs.length)
    (m0 : 0 ≤ cs.getD 0 0) (m1 : cs.getD 0 0 < 9223372036854775808) :
    Calls Try.prog 38 #[.pointer (some ⟨po, 0, none⟩)] w fun e w' => e = .returned (.tuple #[]) ∧ OHead w' po pt { o with seen := cs.getD 0 0, next := if mNew (cs.getD 0 0) = 0 then 4 else 2 } s ∧ Keep (· ≠ po) w w' := by
  have hm := mark_any hA ht hwb hl hi
  have hn := newest_any (cs.getD 0 0) m0 m1
  generalize cs.getD 0 0 = x at hm hn ⊢
  have c0 := h.cell 0
  have d1 := h.drew.cell 1
  have d4 := h.drew.cell 4
  have z1 := h.drew.thaw 1
  have z4 := h.drew.thaw 4
  simp only [ocells, List.getElem?_toArray, List.getElem?_cons_zero, List.getElem?_cons_succ] at c0 d1 d4
  have r1 := h.drew.put 4 (.int .i64 x) (o' := { o with seen := x }) (by simp [ocells])
  have r2 := r1.put 1 (.int .i64 2) (o' := { o with seen := x, next := 2 }) (by simp [ocells])
  have r4 := r2.put 1 (.int .i64 4) (o' := { o with seen := x, next := 4 }) (by simp [ocells])
  have kd : Keep (· ≠ po) w w.drew := (Keep.refl _ w).drew
  have k2 := (kd.trans (okeep _ po 4 (.int .i64 x))).trans (okeep _ po 1 (.int .i64 2))
  have k4 := k2.trans (okeep _ po 1 (.int .i64 4))
  clear h
  generalize w.drew = w1 at hm d1 d4 z1 z4 r1 r2 r4 kd k2 k4
  have HM := Lib.hid hm; clear hm
  have HN := Lib.hid hn; clear hn
  have R2 := Lib.hid r2; have R4 := Lib.hid r4; have K2 := Lib.hid k2; have K4 := Lib.hid k4
  clear r1 r2 r4 kd k2 k4 ht hA hwb hl hi m0 m1
  by_cases h0 : mNew x = 0
  · rw [if_pos h0]
    rw [h0] at HN
    clear h0
    go_enter Try.func38, Try.ntmps38
    go_wp2_with (first | (go_at_call 48; refine HM.out.mono ?_; rintro e w' ⟨rfl, rfl⟩) | (go_at_call 40; refine (HN.out _).mono ?_; rintro e w' ⟨rfl, rfl⟩))
    exact bodyPost_end (results_none rfl _ _ _) rfl ⟨rfl, R4.out, K4.out⟩
  · rw [if_neg h0]
    have hne : (mNew x == 0) = false := by simpa using h0
    generalize mNew x = y at HN hne
    clear h0
    go_enter Try.func38, Try.ntmps38
    go_wp2_with (first | (go_at_call 48; refine HM.out.mono ?_; rintro e w' ⟨rfl, rfl⟩) | (go_at_call 40; refine (HN.out _).mono ?_; rintro e w' ⟨rfl, rfl⟩))
    exact bodyPost_end (results_none rfl _ _ _) rfl ⟨rfl, R2.out, K2.out⟩
end
end Go.Proofs.Ytebdlggmpojgdaa
