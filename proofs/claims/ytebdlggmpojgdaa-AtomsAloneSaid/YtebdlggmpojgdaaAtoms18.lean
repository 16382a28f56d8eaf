/-
  Package atoms in memory: build, where there is room. Conditions: neither the operation nor the table is the arena's memory; there is room.
-/
import Derived.Test.YtebdlggmpojgdaaAtoms17
import Derived.BigRegion
namespace Go.Proofs.Ytebdlggmpojgdaa
open Go.RowKit Go.Maps
set_option linter.unusedVariables false

section
variable {w : World} {X : Nat → Prop} {pa po pt nb : Nat} {o : OS} {s : ByteArray} {T : TS} {c : Int} {S : AS}
theorem Arena.turned_ {w' : World} (h : Arena w X pa S) (hm : w.mapTurned w' nb) (hX : X nb) : Arena w' X pa S :=
  h.keep (Y := fun k => ¬ X k) ((Keep.refl _ w).turned hm (fun hh => hh hX)) (fun _ hh => hh)
theorem OHead.turned {w' : World} (h : OHead w po pt o s) (hm : w.mapTurned w' nb) (hne : po ≠ nb) : OHead w' po pt o s := ⟨h.blk.turned hm hne⟩
set_option maxHeartbeats 4000000 in
theorem build_any (h : OHead w po pt o (str o.name)) (ht : THead w pt pa nb T) (hA : Arena w X pa S) (hn : NMap w nb S.made T) (hXo : X po) (hXt : X pt) (hXn : X nb) (hX : ∀ k, w.heap.size ≤ k → ¬ X k)
    (hr : S.allocErr 1 = 0) (hm : S.made < 281474976710655) :
    Calls Try.prog 44 #[.pointer (some ⟨po, 0, none⟩)] w fun e w' => e = .returned (.tuple #[]) ∧ OHead w' po pt { o with block := S.allocNo 1, next := 7 } (str o.name) ∧ Arena w' X pa (S.allocAt 1) ∧ NMap w' nb (S.allocAt 1).made { T with names := (S.allocNo 1, o.name) :: T.names } ∧ Keep (fun k => X k ∧ k ≠ po ∧ k ≠ nb) w w' := by
  have hal := alloc_any hA 1 (by omega) hX
  have hm0 := hA.ok.made0
  have hno : S.allocNo 1 = S.made + 1 := by unfold AS.allocNo; rw [if_pos hr]
  have hmd : (S.allocAt 1).made = S.made + 1 := by unfold AS.allocAt; rw [if_pos hr]; rfl
  rw [hno, hr] at hal
  rw [hno, hmd]
  have hwf : (ik (S.made + 1)).wf = true := WalkArith.wf_i64 (by omega)
  have hne := hn.ne_blk h.blk
  have c0 := h.cell 0
  obtain ⟨t0, t1⟩ := ht.reads
  simp only [ocells, List.getElem?_toArray, List.getElem?_cons_zero] at c0
  clear hno hmd hr hX
  have HO := Lib.hid h; clear h
  have HT := Lib.hid ht; clear ht
  have HN := Lib.hid hn; clear hn
  have HAL := Lib.hid hal; clear hal
  have HXO := Lib.hid hXo; clear hXo
  have HXT := Lib.hid hXt; clear hXt
  have HXN := Lib.hid hXn; clear hXn
  have HNE := Lib.hid hne; clear hne
  have HWF := Lib.hid hwf; clear hwf
  clear hA
  generalize S.allocAt 1 = S1 at HAL ⊢
  have HM := Lib.hid hm; clear hm
  have hb : 0 ≤ S.made + 1 := by omega
  clear hm0
  go_enter Try.func44, Try.ntmps44
  go_wp2_with (go_at_call 34; refine HAL.out.mono ?_; rintro e w1 ⟨rfl, a1, k1⟩; have A1 := Lib.hid a1; clear a1; have K1 := Lib.hid k1; clear k1)
  have o1 := HO.out.keep K1.out HXO.out
  have t1 := HT.out.keep K1.out HXT.out
  have n1 := HN.out.keep K1.out HXN.out
  have g0 := o1.drew.cell 0
  have g2 := o1.drew.cell 2
  have g4 := t1.drew.reads4
  simp only [ocells, List.getElem?_toArray, List.getElem?_cons_zero, List.getElem?_cons_succ] at g0 g2
  obtain ⟨w2, hrun, n2, hturn⟩ := n1.drew.put (by have := HM.out; omega) HWF.out o.name
  have o2 := o1.drew.turned hturn HNE.out.symm
  have q1 := o2.cell 1
  have q9 := o2.cell 9
  have z1 := o2.thaw 1
  have z9 := o2.thaw 9
  simp only [ocells, List.getElem?_toArray, List.getElem?_cons_zero, List.getElem?_cons_succ] at q1 q9
  have r7 := (o2.put 9 (.int .i64 (S.made + 1)) (o' := { o with block := S.made + 1 }) (by simp [ocells])).put 1 (.int .i64 7) (o' := { o with block := S.made + 1, next := 7 }) (by simp [ocells])
  have n7 := (n2.setCell (p := ⟨po, 9, none⟩) HNE.out (.int .i64 (S.made + 1))).setCell (p := ⟨po, 1, none⟩) HNE.out (.int .i64 7)
  have ka : Keep (fun k => X k ∧ k ≠ po ∧ k ≠ nb) w w2 := ((K1.out.less (fun k hk => hk.1)).drew).turned hturn (fun hh => hh.2.2 rfl)
  have k7 := (ka.setCell (p := ⟨po, 9, none⟩) (fun hh => hh.2.1 rfl) (.int .i64 (S.made + 1))).setCell (p := ⟨po, 1, none⟩) (fun hh => hh.2.1 rfl) (.int .i64 7)
  have a7 := ((A1.out.drew.turned_ hturn HXN.out).setCell (p := ⟨po, 9, none⟩) HXO.out (.int .i64 (S.made + 1))).setCell (p := ⟨po, 1, none⟩) HXO.out (.int .i64 7)
  have R7 := Lib.hid r7; clear r7
  have N7 := Lib.hid n7; clear n7
  have K7 := Lib.hid k7; clear k7
  have A7 := Lib.hid a7; clear a7
  clear o1 t1 n1 n2 hturn o2 ka
  go_wp2_with fail
  go_region
  all_goals
    go_wp2_with fail
    exact bodyPost_end (results_none rfl _ _ _) rfl ⟨rfl, R7.out, A7.out, N7.out, K7.out⟩
end
end Go.Proofs.Ytebdlggmpojgdaa
