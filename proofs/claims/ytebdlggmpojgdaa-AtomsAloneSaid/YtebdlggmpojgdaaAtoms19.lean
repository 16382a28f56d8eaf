/-
  Package atoms in memory: the steps toHang, toHead, toWalk, toMake of an operation. Conditions: as for hang, head, behind, look, build.
-/
import Derived.Test.YtebdlggmpojgdaaAtoms18
namespace Go.Proofs.Ytebdlggmpojgdaa
open Go.RowKit Go.Maps
set_option linter.unusedVariables false

section
variable {w w' : World} {X Y : Nat → Prop} {pa po pt nb : Nat} {o : OS} {s : ByteArray} {T : TS} {S : AS} {c : Int}
set_option maxHeartbeats 2000000 in
theorem step3_any (h : OHead w po pt o s) (hn3 : o.next = 3) (ht : THead w pt pa nb T) (hA : Arena w X pa S) (hn : NMap w nb c T) (hXo : X po) (hXt : X pt) (hXn : X nb) (hwb : (ik T.first).wf = true)
    (hl : 1 ≤ T.lists ∧ T.lists ≤ 64) (m0 : 0 ≤ o.seen) (m1 : o.seen < 9223372036854775808) (hw : (ik (mNew o.seen)).wf = true) (hsz : (T.name (mNew o.seen)).length ≤ 1000000) :
    Calls Try.prog 12 #[.pointer (some ⟨po, 0, none⟩)] w fun e w' => e = .returned (.bool false) ∧ OHead w' po pt { o with next := 4 } s ∧ Arena w' X pa (S.swapAt T.first (1 + T.list (T.name (mNew o.seen))) o.behind (mNew o.seen)) ∧ Keep (fun k => X k ∧ k ≠ po) w w' := by
  have he := hang_any h ht hA hn hXo hXt hXn hwb hl m0 m1 hw hsz
  have c1 : w.cell? ⟨po, 1, none⟩ = some (.int .i64 3) := by have := h.next_; rw [hn3] at this; exact this
  have hv : ∀ w1, OHead w1 po pt { o with next := 4 } s → Calls Try.prog 14 #[.pointer (some ⟨po, 0, none⟩)] w1 fun e w' => e = .returned (.bool false) ∧ w1 = w' := fun w1 r => over_any r
  generalize S.swapAt T.first (1 + T.list (T.name (mNew o.seen))) o.behind (mNew o.seen) = S2 at he ⊢
  have HE := Lib.hid he; clear he
  have HV := Lib.hid hv; clear hv
  clear h hn3 ht hA hn hwb hl m0 m1 hw hsz hXo hXt hXn
  go_enter Try.func12, Try.ntmps12
  go_wp2_with (first
    | (go_at_call 41; refine HE.out.mono ?_; rintro e w1 ⟨rfl, r, ar, k⟩; have R := Lib.hid r; clear r; have A := Lib.hid ar; clear ar; have K := Lib.hid k; clear k)
    | (go_at_call 14; refine (HV.out _ R.out).mono ?_; rintro e w2 ⟨rfl, rfl⟩))
  go_ret
  exact ⟨rfl, R.out, A.out, K.out⟩
set_option maxHeartbeats 2000000 in
theorem step6_any (h : OHead w po pt o (str o.name)) (hn6 : o.next = 6) (ht : THead w pt pa nb T) (hA : Arena w X pa S) (hn : NMap w nb S.made T) (hXo : X po) (hXt : X pt) (hXn : X nb) (hX : ∀ k, w.heap.size ≤ k → ¬ X k)
    (hr : S.allocErr 1 = 0) (hm : S.made < 281474976710655) :
    Calls Try.prog 12 #[.pointer (some ⟨po, 0, none⟩)] w fun e w' => e = .returned (.bool false) ∧ OHead w' po pt { o with block := S.allocNo 1, next := 7 } (str o.name) ∧ Arena w' X pa (S.allocAt 1) ∧ NMap w' nb (S.allocAt 1).made { T with names := (S.allocNo 1, o.name) :: T.names } ∧ Keep (fun k => X k ∧ k ≠ po ∧ k ≠ nb) w w' := by
  have he := build_any h ht hA hn hXo hXt hXn hX hr hm
  have c1 : w.cell? ⟨po, 1, none⟩ = some (.int .i64 6) := by have := h.next_; rw [hn6] at this; exact this
  have hv : ∀ w1, OHead w1 po pt { o with block := S.allocNo 1, next := 7 } (str o.name) → Calls Try.prog 14 #[.pointer (some ⟨po, 0, none⟩)] w1 fun e w' => e = .returned (.bool false) ∧ w1 = w' := fun w1 r => over_any r
  generalize ({ o with block := S.allocNo 1, next := 7 } : OS) = o2 at he hv ⊢
  generalize ({ T with names := (S.allocNo 1, o.name) :: T.names } : TS) = T2 at he ⊢
  generalize S.allocAt 1 = S2 at he ⊢
  have HE := Lib.hid he; clear he
  have HV := Lib.hid hv; clear hv
  clear h hn6 ht hA hn hXo hXt hXn hX hr hm
  go_enter Try.func12, Try.ntmps12
  go_wp2_with (first
    | (go_at_call 44; refine HE.out.mono ?_; rintro e w1 ⟨rfl, r, ar, n1, k⟩; have R := Lib.hid r; clear r; have A := Lib.hid ar; clear ar; have N := Lib.hid n1; clear n1; have K := Lib.hid k; clear k)
    | (go_at_call 14; refine (HV.out _ R.out).mono ?_; rintro e w2 ⟨rfl, rfl⟩))
  go_ret
  exact ⟨rfl, R.out, A.out, N.out, K.out⟩
set_option maxHeartbeats 4000000 in
theorem step4_any (h : OHead w po pt o (str o.name)) (hn4 : o.next = 4) (ht : THead w pt pa nb T) (hA : Arena w X pa S) (hn : NMap w nb c T) (hwb : (ik T.first).wf = true) {cs : List Int} (hl : look S.bl T.first = some cs)
    (l0 : 0 ≤ o.list) (l1 : o.list < 1000) (hi : 1 + o.list < (cs.length : Int)) (hx : (ik (cs.getD (1 + o.list).toNat 0)).wf = true) :
    Calls Try.prog 12 #[.pointer (some ⟨po, 0, none⟩)] w fun e w' => e = .returned (.bool (decide ((({ o with head := cs.getD (1 + o.list).toNat 0 } : OS).look T (cs.getD (1 + o.list).toNat 0)).next = 10))) ∧ OHead w' po pt (({ o with head := cs.getD (1 + o.list).toNat 0 } : OS).look T (cs.getD (1 + o.list).toNat 0)) (str o.name) ∧ Keep (· ≠ po) w w' := by
  have c1 : w.cell? ⟨po, 1, none⟩ = some (.int .i64 4) := by have := h.next_; rw [hn4] at this; exact this
  have hH := head_any hA.drew ht.drew hwb hl l0 l1 hi
  have hnp := hn.ne_blk h.blk
  have hpt := h.ne_pt ht
  generalize cs.getD (1 + o.list).toNat 0 = x at hH hx ⊢
  have d0 := h.drew.cell 0
  have d3 := h.drew.cell 3
  have c6 := h.cell 6
  have d6 := h.drew.cell 6
  have f6 := h.drew.drew.cell 6
  have z6 := h.thaw 6
  have y6 := h.drew.thaw 6
  have x6 := h.drew.drew.thaw 6
  simp only [ocells, List.getElem?_toArray, List.getElem?_cons_zero, List.getElem?_cons_succ] at d0 d3 c6 d6 f6
  have r := h.drew.drew.put 6 (.int .i64 x) (o' := { o with head := x }) (by simp [ocells])
  have t2 := ht.drew.drew.far (p := ⟨po, 6, none⟩) hpt.symm (.int .i64 x)
  have n2 := hn.drew.drew.setCell (p := ⟨po, 6, none⟩) hnp (.int .i64 x)
  have k2 : Keep (· ≠ po) w _ := ((Keep.refl _ w).drew.drew).trans (okeep _ po 6 (.int .i64 x))
  have hlk := look_any (o := { o with head := x }) r t2 n2 hx
  have e6 := r.cell 6
  have e0 := r.cell 0
  simp only [ocells, List.getElem?_toArray, List.getElem?_cons_zero, List.getElem?_cons_succ] at e6 e0
  have hv : ∀ w1, OHead w1 po pt (({ o with head := x } : OS).look T x) (str o.name) → Calls Try.prog 14 #[.pointer (some ⟨po, 0, none⟩)] w1 fun e w' => e = .returned (.bool (decide ((({ o with head := x } : OS).look T x).next = 10))) ∧ w1 = w' := fun w1 r => over_any r
  clear h ht hn hA hn4 hwb hl l0 l1 hi hx hnp hpt r t2 n2
  generalize decide ((({ o with head := x } : OS).look T x).next = 10) = bb at hv ⊢
  generalize ({ o with head := x } : OS).look T x = o2 at hlk hv ⊢
  have HH := Lib.hid hH; clear hH
  have HLK := Lib.hid hlk; clear hlk
  have HV := Lib.hid hv; clear hv
  have K2 := Lib.hid k2; clear k2
  go_enter Try.func12, Try.ntmps12
  go_wp2_with fail
  go_region_with (go_at_call 42; refine HH.out.mono ?_; rintro e w1 ⟨rfl, rfl⟩)
  all_goals
    go_wp2_with (first
      | (go_at_call 43; refine HLK.out.mono ?_; rintro e w1 ⟨rfl, r, k⟩; have R := Lib.hid r; clear r; have K := Lib.hid k; clear k)
      | (go_at_call 14; refine (HV.out _ R.out).mono ?_; rintro e w2 ⟨rfl, rfl⟩))
    go_ret
    exact ⟨rfl, R.out, K2.out.trans K.out⟩
set_option maxHeartbeats 4000000 in
theorem step5_any (h : OHead w po pt o (str o.name)) (hn5 : o.next = 5) (ht : THead w pt pa nb T) (hA : Arena w X pa S) (hn : NMap w nb c T) (hwb : (ik o.at_).wf = true) {cs : List Int} (hl : look S.bl o.at_ = some cs)
    (hi : 0 < cs.length) (hx : (ik (cs.getD 0 0)).wf = true) :
    Calls Try.prog 12 #[.pointer (some ⟨po, 0, none⟩)] w fun e w' => e = .returned (.bool (decide ((o.look T (cs.getD 0 0)).next = 10))) ∧ OHead w' po pt (o.look T (cs.getD 0 0)) (str o.name) ∧ Keep (· ≠ po) w w' := by
  have c1 : w.cell? ⟨po, 1, none⟩ = some (.int .i64 5) := by have := h.next_; rw [hn5] at this; exact this
  have hB := behind_any hA.drew ht.drew hwb hl hi
  generalize cs.getD 0 0 = x at hB hx ⊢
  have d0 := h.drew.cell 0
  have d8 := h.drew.cell 8
  simp only [ocells, List.getElem?_toArray, List.getElem?_cons_zero, List.getElem?_cons_succ] at d0 d8
  have hlk := look_any h.drew ht.drew hn.drew hx
  have hv : ∀ w1, OHead w1 po pt (o.look T x) (str o.name) → Calls Try.prog 14 #[.pointer (some ⟨po, 0, none⟩)] w1 fun e w' => e = .returned (.bool (decide ((o.look T x).next = 10))) ∧ w1 = w' := fun w1 r => over_any r
  have k2 : Keep (· ≠ po) w w.drew := (Keep.refl _ w).drew
  clear h ht hn hA hn5 hwb hl hi hx
  generalize decide ((o.look T x).next = 10) = bb at hv ⊢
  generalize o.look T x = o2 at hlk hv ⊢
  have HB := Lib.hid hB; clear hB
  have HLK := Lib.hid hlk; clear hlk
  have HV := Lib.hid hv; clear hv
  have K2 := Lib.hid k2; clear k2
  go_enter Try.func12, Try.ntmps12
  go_wp2_with fail
  go_region_with (first
    | (go_at_call 39; refine HB.out.mono ?_; rintro e w1 ⟨rfl, rfl⟩)
    | (go_at_call 43; refine HLK.out.mono ?_; rintro e w1 ⟨rfl, r, k⟩; have R := Lib.hid r; clear r; have K := Lib.hid k; clear k))
  all_goals
    go_wp2_with (go_at_call 14; refine (HV.out _ R.out).mono ?_; rintro e w2 ⟨rfl, rfl⟩)
    go_ret
    exact ⟨rfl, R.out, K2.out.trans K.out⟩
end
end Go.Proofs.Ytebdlggmpojgdaa
