/-
  Package atoms in memory: the steps toRefuse, toMark, toPut of an operation. Conditions: as for end, readMark, put.
-/
import Derived.Test.YtebdlggmpojgdaaAtoms12
namespace Go.Proofs.Ytebdlggmpojgdaa
open Go.RowKit Go.Maps
set_option linter.unusedVariables false

section
variable {w w' : World} {X Y : Nat → Prop} {pa po pt bm : Nat} {o : OS} {s : ByteArray} {T : TS} {S : AS}
theorem OHead.next_ (h : OHead w po pt o s) : w.cell? ⟨po, 1, none⟩ = some (.int .i64 (o.next : Int)) := h.cell 1
theorem fin_over (o : OS) (id err : Int) : decide ((o.fin id err).next = 10) = decide (o.block = 0) := by
  unfold OS.fin
  by_cases h : o.block = 0 <;> simp [h]
set_option maxHeartbeats 2000000 in
theorem step0_any (h : OHead w po pt o s) (hn : o.next = 0) :
    Calls Try.prog 12 #[.pointer (some ⟨po, 0, none⟩)] w fun e w' => e = .returned (.bool (decide ((o.fin 0 2).next = 10))) ∧ OHead w' po pt (o.fin 0 2) s ∧ Keep (· ≠ po) w w' := by
  have he := end_any h 0 2
  have c1 : w.cell? ⟨po, 1, none⟩ = some (.int .i64 0) := by have := h.next_; rw [hn] at this; exact this
  generalize o.fin 0 2 = o2 at he ⊢
  have HE := Lib.hid he; clear he
  clear h hn
  go_enter Try.func12, Try.ntmps12
  go_wp2_with (first
    | (go_at_call 37; refine HE.out.mono ?_; rintro e w1 ⟨rfl, r, k⟩; have R := Lib.hid r; clear r; have K := Lib.hid k; clear k)
    | (go_at_call 14; refine (over_any R.out).mono ?_; rintro e w2 ⟨rfl, rfl⟩))
  go_ret
  exact ⟨rfl, R.out, K.out⟩
set_option maxHeartbeats 2000000 in
theorem step1_any (h : OHead w po pt o s) (hn : o.next = 1) (ht : THead w pt pa bm T) (hA : Arena w X pa S) (hwb : (ik T.first).wf = true) {cs : List Int} (hl : look S.bl T.first = some cs) (hi : 0 < cs.length)
    (m0 : 0 ≤ cs.getD 0 0) (m1 : cs.getD 0 0 < 9223372036854775808) :
    Calls Try.prog 12 #[.pointer (some ⟨po, 0, none⟩)] w fun e w' => e = .returned (.bool false) ∧ OHead w' po pt { o with seen := cs.getD 0 0, next := if mNew (cs.getD 0 0) = 0 then 4 else 2 } s ∧ Keep (· ≠ po) w w' := by
  have he := readMark_any h ht hA hwb hl hi m0 m1
  have c1 : w.cell? ⟨po, 1, none⟩ = some (.int .i64 1) := by have := h.next_; rw [hn] at this; exact this
  have hd : decide (({ o with seen := cs.getD 0 0, next := if mNew (cs.getD 0 0) = 0 then 4 else 2 } : OS).next = 10) = false := by
    show decide ((if mNew (cs.getD 0 0) = 0 then 4 else 2) = 10) = false
    split <;> rfl
  generalize ({ o with seen := cs.getD 0 0, next := if mNew (cs.getD 0 0) = 0 then 4 else 2 } : OS) = o2 at he hd ⊢
  have hv : ∀ w1, OHead w1 po pt o2 s → Calls Try.prog 14 #[.pointer (some ⟨po, 0, none⟩)] w1 fun e w' => e = .returned (.bool false) ∧ w1 = w' := fun w1 r => by have := over_any r; rw [hd] at this; exact this
  have HE := Lib.hid he; clear he
  have HV := Lib.hid hv; clear hv
  clear h hn ht hA hwb hl hi m0 m1 hd
  go_enter Try.func12, Try.ntmps12
  go_wp2_with (first
    | (go_at_call 38; refine HE.out.mono ?_; rintro e w1 ⟨rfl, r, k⟩; have R := Lib.hid r; clear r; have K := Lib.hid k; clear k)
    | (go_at_call 14; refine (HV.out _ R.out).mono ?_; rintro e w2 ⟨rfl, rfl⟩))
  go_ret
  exact ⟨rfl, R.out, K.out⟩
end
end Go.Proofs.Ytebdlggmpojgdaa
