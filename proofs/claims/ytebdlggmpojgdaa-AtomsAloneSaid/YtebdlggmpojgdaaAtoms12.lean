/-
  Package atoms in memory: put. Conditions: the table's block is live; neither the operation nor the table is the arena's memory.
-/
import Derived.Test.YtebdlggmpojgdaaAtoms11
import Derived.Deep.RegionHeld3
namespace Go.Proofs.Ytebdlggmpojgdaa
open Go.RowKit Go.Maps
set_option linter.unusedVariables false

section
variable {w w' : World} {X Y : Nat → Prop} {pa po pt bm : Nat} {o : OS} {s : ByteArray} {T : TS} {S : AS}
theorem OHead.keep (h : OHead w po pt o s) (hk : Keep Y w w') (hY : Y po) : OHead w' po pt o s := ⟨h.blk.keep hk hY⟩
theorem THead.keep (h : THead w pt pa bm T) (hk : Keep Y w w') (hY : Y pt) : THead w' pt pa bm T := Blk.keep h hk hY
theorem OHead.reads (h : OHead w po pt o s) : w.cell? ⟨po, 0, none⟩ = some (.pointer (some ⟨pt, 0, none⟩)) ∧ w.cell? ⟨po, 4, none⟩ = some (.int .i64 o.seen) ∧ w.cell? ⟨po, 9, none⟩ = some (.int .i64 o.block) :=
  ⟨h.cell 0, h.cell 4, h.cell 9⟩
theorem THead.reads (h : THead w pt pa bm T) : w.cell? ⟨pt, 0, none⟩ = some (.pointer (some ⟨pa, 0, none⟩)) ∧ w.cell? ⟨pt, 1, none⟩ = some (.int .i64 T.first) :=
  ⟨Blk.cell h 0, Blk.cell h 1⟩
set_option maxHeartbeats 2000000 in
theorem put_any (h : OHead w po pt o s) (ht : THead w pt pa bm T) (hA : Arena w X pa S) (hXo : X po) (hXt : X pt) (hwb : (ik T.first).wf = true) {cs : List Int} (hl : look S.bl T.first = some cs) (hi : 0 < cs.length)
    (m0 : 0 ≤ o.seen) (m1 : mCnt o.seen < 32767) (b0 : 0 ≤ o.block) (b1 : o.block < 281474976710656) :
    Calls Try.prog 46 #[.pointer (some ⟨po, 0, none⟩)] w fun e w' => e = .returned (.tuple #[]) ∧ OHead w' po pt (if cs.getD 0 0 = o.seen then { o with id := o.block, next := 10 } else { o with next := 1 }) s ∧ Arena w' X pa (S.swapAt T.first 0 o.seen (mWith o.seen o.block)) ∧ Keep (fun k => X k ∧ k ≠ po) w w' := by
  have hA1 : Arena w.drew X pa S := by obtain ⟨bm', D, row, a⟩ := hA; exact ⟨bm', D, row, a.keep ((Keep.refl (fun _ => True) w).drew) (fun _ _ => trivial)⟩
  have hkd : Keep (fun k => X k ∧ k ≠ po) w w.drew := (Keep.refl _ w).drew
  have ho1 := h.drew
  have ht1 := ht.drew
  clear h ht hA
  have hsw := swap_any hA1 hwb 0 o.seen (mWith o.seen o.block)
  have hw := with_any o.seen o.block m0 m1 b0 b1
  generalize mWith o.seen o.block = x at hsw hw ⊢
  have herr : S.err T.first 0 = 0 := by unfold AS.err; rw [hl]; simp only []; rw [if_pos ⟨by omega, by omega⟩]
  have hok : S.swapOk T.first 0 o.seen = decide (cs.getD 0 0 = o.seen) := by
    unfold AS.swapOk; rw [hl]
    simp only []
    by_cases hv : cs.getD 0 0 = o.seen
    · rw [decide_eq_true hv, decide_eq_true]; exact ⟨by omega, by omega, hv⟩
    · rw [decide_eq_false hv, decide_eq_false]; exact fun hh => hv hh.2.2
  rw [herr, hok] at hsw
  obtain ⟨c0, c4, c9⟩ := ho1.reads
  obtain ⟨t0, t1⟩ := ht1.reads
  have HW := Lib.hid hw; clear hw
  have HO := Lib.hid ho1; clear ho1
  have HT := Lib.hid ht1; clear ht1
  have HKD := Lib.hid hkd; clear hkd
  have HXO := Lib.hid hXo; clear hXo
  have HXT := Lib.hid hXt; clear hXt
  clear hA1 hl hi m0 m1 b0 b1 hwb herr hok
  by_cases hv : cs.getD 0 0 = o.seen
  · rw [if_pos hv]
    rw [decide_eq_true hv] at hsw
    clear hv
    have HSW := Lib.hid hsw; clear hsw
    go_enter Try.func46, Try.ntmps46
    go_wp2_with fail
    go_region_held3 (fun w' => w'.cell? ⟨po, 0, none⟩ = some (.pointer (some ⟨pt, 0, none⟩)) ∧ w'.cell? ⟨po, 4, none⟩ = some (.int .i64 o.seen) ∧ w'.cell? ⟨po, 9, none⟩ = some (.int .i64 o.block) ∧ w'.cell? ⟨pt, 0, none⟩ = some (.pointer (some ⟨pa, 0, none⟩)) ∧ w'.cell? ⟨pt, 1, none⟩ = some (.int .i64 T.first)) (simp [*])
      (first
        | (go_at_call 80; refine (HW.out _).mono ?_; rintro e w' ⟨rfl, rfl⟩)
        | (go_at_call 77; refine HSW.out.mono ?_; rintro e w7 ⟨rfl, a7, k7⟩; have o7 := HO.out.keep k7 HXO.out; have t7 := HT.out.keep k7 HXT.out; obtain ⟨q0, q4, q9⟩ := o7.reads; obtain ⟨r0, r1⟩ := t7.reads; have A7 := Lib.hid a7; clear a7; have K7 := Lib.hid k7; clear k7; have O7 := Lib.hid o7; clear o7; clear t7))
    all_goals
      have q1 := O7.out.cell 1
      have q11 := O7.out.cell 11
      have z1 := O7.out.thaw 1
      have z11 := O7.out.thaw 11
      simp only [ocells, List.getElem?_toArray, List.getElem?_cons_zero, List.getElem?_cons_succ] at q1 q11
      have r10 := (O7.out.put 11 (.int .i64 o.block) (o' := { o with id := o.block }) (by simp [ocells])).put 1 (.int .i64 10) (o' := { o with id := o.block, next := 10 }) (by simp [ocells])
      have R10 := Lib.hid r10; clear r10
      have rr := O7.out.put 1 (.int .i64 1) (o' := { o with next := 1 }) (by simp [ocells])
      have RR := Lib.hid rr; clear rr
      have kx : Keep (fun k => X k ∧ k ≠ po) w w7 := HKD.out.trans (K7.out.less (fun k hk => hk.1))
      have KX := Lib.hid kx; clear kx
      go_wp2_with fail
      exact bodyPost_end (results_none rfl _ _ _) rfl ⟨rfl, R10.out, (A7.out.setCell HXO.out _).setCell HXO.out _, (KX.out.setCell (fun hh => hh.2 rfl) _).setCell (fun hh => hh.2 rfl) _⟩
  · rw [if_neg hv]
    rw [decide_eq_false hv] at hsw
    clear hv
    have HSW := Lib.hid hsw; clear hsw
    go_enter Try.func46, Try.ntmps46
    go_wp2_with fail
    go_region_held3 (fun w' => w'.cell? ⟨po, 0, none⟩ = some (.pointer (some ⟨pt, 0, none⟩)) ∧ w'.cell? ⟨po, 4, none⟩ = some (.int .i64 o.seen) ∧ w'.cell? ⟨po, 9, none⟩ = some (.int .i64 o.block) ∧ w'.cell? ⟨pt, 0, none⟩ = some (.pointer (some ⟨pa, 0, none⟩)) ∧ w'.cell? ⟨pt, 1, none⟩ = some (.int .i64 T.first)) (simp [*])
      (first
        | (go_at_call 80; refine (HW.out _).mono ?_; rintro e w' ⟨rfl, rfl⟩)
        | (go_at_call 77; refine HSW.out.mono ?_; rintro e w7 ⟨rfl, a7, k7⟩; have o7 := HO.out.keep k7 HXO.out; have t7 := HT.out.keep k7 HXT.out; obtain ⟨q0, q4, q9⟩ := o7.reads; obtain ⟨r0, r1⟩ := t7.reads; have A7 := Lib.hid a7; clear a7; have K7 := Lib.hid k7; clear k7; have O7 := Lib.hid o7; clear o7; clear t7))
    all_goals
      have q1 := O7.out.cell 1
      have q11 := O7.out.cell 11
      have z1 := O7.out.thaw 1
      have z11 := O7.out.thaw 11
      simp only [ocells, List.getElem?_toArray, List.getElem?_cons_zero, List.getElem?_cons_succ] at q1 q11
      have r10 := (O7.out.put 11 (.int .i64 o.block) (o' := { o with id := o.block }) (by simp [ocells])).put 1 (.int .i64 10) (o' := { o with id := o.block, next := 10 }) (by simp [ocells])
      have R10 := Lib.hid r10; clear r10
      have rr := O7.out.put 1 (.int .i64 1) (o' := { o with next := 1 }) (by simp [ocells])
      have RR := Lib.hid rr; clear rr
      have kx : Keep (fun k => X k ∧ k ≠ po) w w7 := HKD.out.trans (K7.out.less (fun k hk => hk.1))
      have KX := Lib.hid kx; clear kx
      go_wp2_with fail
      exact bodyPost_end (results_none rfl _ _ _) rfl ⟨rfl, RR.out, A7.out.setCell HXO.out _, KX.out.setCell (fun hh => hh.2 rfl) _⟩
end
end Go.Proofs.Ytebdlggmpojgdaa
