/-
  Package atoms in memory: the steps toJoin, toDrop of an operation. Conditions: neither the operation nor the table is the arena's memory.
-/
import Derived.Test.YtebdlggmpojgdaaAtoms18
namespace Go.Proofs.Ytebdlggmpojgdaa
open Go.RowKit Go.Maps
set_option linter.unusedVariables false

section
variable {w w' : World} {X Y : Nat → Prop} {pa po pt nb : Nat} {o : OS} {s : ByteArray} {T : TS} {S : AS} {c : Int}
theorem OHead.reads7 (h : OHead w po pt o s) : w.cell? ⟨po, 0, none⟩ = some (.pointer (some ⟨pt, 0, none⟩)) ∧ w.cell? ⟨po, 9, none⟩ = some (.int .i64 o.block) ∧ w.cell? ⟨po, 6, none⟩ = some (.int .i64 o.head) :=
  ⟨h.cell 0, h.cell 9, h.cell 6⟩
set_option maxHeartbeats 4000000 in
theorem step7_any (h : OHead w po pt o s) (hn7 : o.next = 7) (ht : THead w pt pa nb T) (hA : Arena w X pa S) (hXo : X po) (hXt : X pt) (hwb : (ik o.block).wf = true) :
    Calls Try.prog 12 #[.pointer (some ⟨po, 0, none⟩)] w fun e w' => e = .returned (.bool false) ∧ OHead w' po pt { o with next := 8 } s ∧ Arena w' X pa (S.storeAt o.block 0 o.head) ∧ Keep (fun k => X k ∧ k ≠ po) w w' := by
  have c1 : w.cell? ⟨po, 1, none⟩ = some (.int .i64 7) := by have := h.next_; rw [hn7] at this; exact this
  have hst := store_any hA.drew hwb 0 o.head
  have hkd : Keep (fun k => X k ∧ k ≠ po) w w.drew := (Keep.refl _ w).drew
  have hv : ∀ w1, OHead w1 po pt { o with next := 8 } s → Calls Try.prog 14 #[.pointer (some ⟨po, 0, none⟩)] w1 fun e w' => e = .returned (.bool false) ∧ w1 = w' := fun w1 r => over_any r
  obtain ⟨d0, d9, d6⟩ := h.drew.reads7
  obtain ⟨t0, t1⟩ := ht.drew.reads
  have HO := Lib.hid h.drew
  have HT := Lib.hid ht.drew
  clear h ht hA hn7 hwb
  generalize S.storeAt o.block 0 o.head = S2 at hst ⊢
  have HST := Lib.hid hst; clear hst
  have HKD := Lib.hid hkd; clear hkd
  have HV := Lib.hid hv; clear hv
  have HXO := Lib.hid hXo; clear hXo
  have HXT := Lib.hid hXt; clear hXt
  go_enter Try.func12, Try.ntmps12
  go_wp2_with fail
  go_region_held3 (fun w' => w'.cell? ⟨po, 0, none⟩ = some (.pointer (some ⟨pt, 0, none⟩)) ∧ w'.cell? ⟨po, 9, none⟩ = some (.int .i64 o.block) ∧ w'.cell? ⟨po, 6, none⟩ = some (.int .i64 o.head) ∧ w'.cell? ⟨pt, 0, none⟩ = some (.pointer (some ⟨pa, 0, none⟩))) (simp [*])
    (first
      | (go_at_call 45; refine HST.out.mono ?_; rintro e w7 ⟨rfl, a7, k7⟩; have o7 := HO.out.keep k7 HXO.out; have t7 := HT.out.keep k7 HXT.out; obtain ⟨q0, q9, q6⟩ := o7.reads7; obtain ⟨r0, r1⟩ := t7.reads; have A7 := Lib.hid a7; clear a7; have K7 := Lib.hid k7; clear k7; have O7 := Lib.hid o7; clear o7; clear t7))
  all_goals
    have q1 := O7.out.cell 1
    have z1 := O7.out.thaw 1
    simp only [ocells, List.getElem?_toArray, List.getElem?_cons_zero, List.getElem?_cons_succ] at q1
    have rr := O7.out.put 1 (.int .i64 8) (o' := { o with next := 8 }) (by simp [ocells])
    have RR := Lib.hid rr; clear rr
    have kx : Keep (fun k => X k ∧ k ≠ po) w w7 := HKD.out.trans (K7.out.less (fun k hk => hk.1))
    have KX := Lib.hid kx; clear kx
    go_wp2_with (go_at_call 14; refine (HV.out _ RR.out).mono ?_; rintro e w2 ⟨rfl, rfl⟩)
    go_ret
    exact ⟨rfl, RR.out, A7.out.setCell HXO.out _, KX.out.setCell (fun hh => hh.2 rfl) _⟩
set_option maxHeartbeats 4000000 in
theorem step9_any (h : OHead w po pt o s) (hn9 : o.next = 9) (ht : THead w pt pa nb T) (hA : Arena w X pa S) (hn : NMap w nb c T) (hXo : X po) (hXt : X pt) (hXn : X nb) (hwb : (ik o.block).wf = true) :
    Calls Try.prog 12 #[.pointer (some ⟨po, 0, none⟩)] w fun e w' => e = .returned (.bool true) ∧ OHead w' po pt { o with next := 10 } s ∧ Arena w' X pa (S.freeAt o.block) ∧ NMap w' nb c { T with names := T.names.filter (fun e => !(e.1 == o.block)) } ∧ Keep (fun k => X k ∧ k ≠ po ∧ k ≠ nb) w w' := by
  have c1 : w.cell? ⟨po, 1, none⟩ = some (.int .i64 9) := by have := h.next_; rw [hn9] at this; exact this
  have hst := free_any hA.drew hwb
  have hkd : Keep (fun k => X k ∧ k ≠ po ∧ k ≠ nb) w w.drew := (Keep.refl _ w).drew
  have hv : ∀ w1, OHead w1 po pt { o with next := 10 } s → Calls Try.prog 14 #[.pointer (some ⟨po, 0, none⟩)] w1 fun e w' => e = .returned (.bool true) ∧ w1 = w' := fun w1 r => over_any r
  obtain ⟨d0, d9, _⟩ := h.drew.reads7
  obtain ⟨t0, t1⟩ := ht.drew.reads
  have hne := hn.ne_blk h.blk
  have HNE := Lib.hid hne; clear hne
  have HO := Lib.hid h.drew
  have HT := Lib.hid ht.drew
  have HN := Lib.hid hn.drew
  have HWB := Lib.hid hwb
  clear h ht hA hn hn9 hwb
  generalize S.freeAt o.block = S2 at hst ⊢
  have HST := Lib.hid hst; clear hst
  have HKD := Lib.hid hkd; clear hkd
  have HV := Lib.hid hv; clear hv
  have HXO := Lib.hid hXo; clear hXo
  have HXT := Lib.hid hXt; clear hXt
  have HXN := Lib.hid hXn; clear hXn
  go_enter Try.func12, Try.ntmps12
  go_wp2_with fail
  go_region_with (go_at_call 47; refine HST.out.mono ?_; rintro e w7 ⟨rfl, a7, k7⟩; have A7 := Lib.hid a7; clear a7; have K7 := Lib.hid k7; clear k7)
  all_goals
    have o7 := (HO.out.keep K7.out HXO.out).drew
    have t7 := (HT.out.keep K7.out HXT.out).drew
    have n7 := (HN.out.keep K7.out HXN.out).drew
    obtain ⟨g0, g9, _⟩ := o7.reads7
    have g4 := t7.reads4
    obtain ⟨w8, hrun, n8, hturn⟩ := n7.del HWB.out 0
    have o8 := o7.turned hturn HNE.out.symm
    have q1 := o8.cell 1
    have z1 := o8.thaw 1
    simp only [ocells, List.getElem?_toArray, List.getElem?_cons_zero, List.getElem?_cons_succ] at q1
    have rr := o8.put 1 (.int .i64 10) (o' := { o with next := 10 }) (by simp [ocells])
    have RR := Lib.hid rr; clear rr
    have nn := n8.setCell (p := ⟨po, 1, none⟩) HNE.out (.int .i64 10)
    have NN := Lib.hid nn; clear nn
    have aa := (A7.out.drew.turned_ hturn HXN.out).setCell (p := ⟨po, 1, none⟩) HXO.out (.int .i64 10)
    have AA := Lib.hid aa; clear aa
    have kk := (((HKD.out.trans (K7.out.less (fun k hk => hk.1))).drew).turned hturn (fun hh => hh.2.2 rfl)).setCell (p := ⟨po, 1, none⟩) (fun hh => hh.2.1 rfl) (.int .i64 10)
    have KK := Lib.hid kk; clear kk
    clear o7 t7 n7 n8 hturn o8 A7 K7
    go_wp2_with fail
    go_region
    all_goals
      go_wp2_with (go_at_call 14; refine (HV.out _ RR.out).mono ?_; rintro e w2 ⟨rfl, rfl⟩)
      go_ret
      exact ⟨rfl, RR.out, AA.out, NN.out, KK.out⟩
end
end Go.Proofs.Ytebdlggmpojgdaa
