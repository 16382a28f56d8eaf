/-
  Package atoms in memory: the steps toFollow, toPut of an operation. Conditions: as for behind, put.
-/
import Derived.Test.YtebdlggmpojgdaaAtoms13
namespace Go.Proofs.Ytebdlggmpojgdaa
open Go.RowKit Go.Maps
set_option linter.unusedVariables false

section
variable {w w' : World} {X Y : Nat → Prop} {pa po pt bm : Nat} {o : OS} {s : ByteArray} {T : TS} {S : AS}
set_option maxHeartbeats 2000000 in
theorem step8_any (h : OHead w po pt o s) (hn : o.next = 8) (ht : THead w pt pa bm T) (hA : Arena w X pa S) (hXo : X po) (hXt : X pt) (hwb : (ik T.first).wf = true) {cs : List Int} (hl : look S.bl T.first = some cs) (hi : 0 < cs.length)
    (m0 : 0 ≤ o.seen) (m1 : mCnt o.seen < 32767) (b0 : 0 ≤ o.block) (b1 : o.block < 281474976710656) :
    Calls Try.prog 12 #[.pointer (some ⟨po, 0, none⟩)] w fun e w' => e = .returned (.bool (decide (cs.getD 0 0 = o.seen))) ∧ OHead w' po pt (if cs.getD 0 0 = o.seen then { o with id := o.block, next := 10 } else { o with next := 1 }) s ∧ Arena w' X pa (S.swapAt T.first 0 o.seen (mWith o.seen o.block)) ∧ Keep (fun k => X k ∧ k ≠ po) w w' := by
  have he := put_any h ht hA hXo hXt hwb hl hi m0 m1 b0 b1
  have c1 : w.cell? ⟨po, 1, none⟩ = some (.int .i64 8) := by have := h.next_; rw [hn] at this; exact this
  have hd : decide ((if cs.getD 0 0 = o.seen then ({ o with id := o.block, next := 10 } : OS) else { o with next := 1 }).next = 10) = decide (cs.getD 0 0 = o.seen) := by
    by_cases hv : cs.getD 0 0 = o.seen
    · rw [if_pos hv, decide_eq_true hv]; rfl
    · rw [if_neg hv, decide_eq_false hv]; rfl
  generalize (if cs.getD 0 0 = o.seen then ({ o with id := o.block, next := 10 } : OS) else { o with next := 1 }) = o2 at he hd ⊢
  generalize decide (cs.getD 0 0 = o.seen) = bb at hd ⊢
  generalize S.swapAt T.first 0 o.seen (mWith o.seen o.block) = S2 at he ⊢
  have hv : ∀ w1, OHead w1 po pt o2 s → Calls Try.prog 14 #[.pointer (some ⟨po, 0, none⟩)] w1 fun e w' => e = .returned (.bool bb) ∧ w1 = w' := fun w1 r => by have := over_any r; rw [hd] at this; exact this
  have HE := Lib.hid he; clear he
  have HV := Lib.hid hv; clear hv
  clear h hn ht hA hwb hl hi m0 m1 hd hXo hXt b0 b1
  go_enter Try.func12, Try.ntmps12
  go_wp2_with (first
    | (go_at_call 46; refine HE.out.mono ?_; rintro e w1 ⟨rfl, r, ar, k⟩; have R := Lib.hid r; clear r; have A := Lib.hid ar; clear ar; have K := Lib.hid k; clear k)
    | (go_at_call 14; refine (HV.out _ R.out).mono ?_; rintro e w2 ⟨rfl, rfl⟩))
  go_ret
  exact ⟨rfl, R.out, A.out, K.out⟩
set_option maxHeartbeats 2000000 in
theorem step2_any (h : OHead w po pt o s) (hn : o.next = 2) (ht : THead w pt pa bm T) (hA : Arena w X pa S) (m0 : 0 ≤ o.seen) (m1 : o.seen < 9223372036854775808) (hwb : (ik (mNew o.seen)).wf = true) {cs : List Int} (hl : look S.bl (mNew o.seen) = some cs) (hi : 0 < cs.length) :
    Calls Try.prog 12 #[.pointer (some ⟨po, 0, none⟩)] w fun e w' => e = .returned (.bool false) ∧ OHead w' po pt { o with behind := cs.getD 0 0, next := 3 } s ∧ Keep (· ≠ po) w w' := by
  have c1 : w.cell? ⟨po, 1, none⟩ = some (.int .i64 2) := by have := h.next_; rw [hn] at this; exact this
  have hN := newest_any o.seen m0 m1 w.drew
  have hB := behind_any hA.drew ht.drew hwb hl hi
  have y1 := h.thaw 1
  have y5 := h.thaw 5
  have e5 := h.cell 5
  have ho1 := h.drew
  have hk1 : Keep (· ≠ po) w w.drew := (Keep.refl _ w).drew
  generalize cs.getD 0 0 = x at hB ⊢
  have d0 := ho1.cell 0
  have d1 := ho1.cell 1
  have d4 := ho1.cell 4
  have d5 := ho1.cell 5
  have z1 := ho1.thaw 1
  have z5 := ho1.thaw 5
  simp only [ocells, List.getElem?_toArray, List.getElem?_cons_zero, List.getElem?_cons_succ] at d0 d1 d4 d5 e5
  have r3 := (ho1.put 5 (.int .i64 x) (o' := { o with behind := x }) (by simp [ocells])).put 1 (.int .i64 3) (o' := { o with behind := x, next := 3 }) (by simp [ocells])
  have k3 : Keep (· ≠ po) w _ := (hk1.trans (okeep _ po 5 (.int .i64 x))).trans (okeep _ po 1 (.int .i64 3))
  have hv : ∀ w1, OHead w1 po pt { o with behind := x, next := 3 } s → Calls Try.prog 14 #[.pointer (some ⟨po, 0, none⟩)] w1 fun e w' => e = .returned (.bool false) ∧ w1 = w' := fun w1 r => over_any r
  clear h ht hA ho1 hk1 hn
  have HN := Lib.hid hN; clear hN
  have HB := Lib.hid hB; clear hB
  have HV := Lib.hid hv; clear hv
  have R3 := Lib.hid r3; clear r3
  have K3 := Lib.hid k3; clear k3
  clear m0 m1 hwb hl hi
  go_enter Try.func12, Try.ntmps12
  go_wp2_with fail
  go_region_with (first
    | (go_at_call 40; refine HN.out.mono ?_; rintro e w1 ⟨rfl, rfl⟩)
    | (go_at_call 39; refine HB.out.mono ?_; rintro e w1 ⟨rfl, rfl⟩))
  all_goals
    go_wp2_with (go_at_call 14; refine (HV.out _ R3.out).mono ?_; rintro e w2 ⟨rfl, rfl⟩)
    go_ret
    exact ⟨rfl, R3.out, K3.out⟩
end
end Go.Proofs.Ytebdlggmpojgdaa
