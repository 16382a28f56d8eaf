/-
  Package atoms in memory: look. No condition but what lies in memory.
-/
import Derived.Test.YtebdlggmpojgdaaAtoms15
namespace Go.Proofs.Ytebdlggmpojgdaa
open Go.RowKit Go.Maps
set_option linter.unusedVariables false

section
variable {w : World} {X : Nat → Prop} {pa po pt nb : Nat} {o : OS} {s : ByteArray} {T : TS} {c : Int}
theorem THead.far (h : THead w pt pa nb T) {p : Addr} (hp : pt ≠ p.block) (u : Value) : THead (w.setCell p u) pt pa nb T := Blk.far h hp u
theorem THead.reads4 (h : THead w pt pa nb T) : w.cell? ⟨pt, 4, none⟩ = some (.map (some nb)) := Blk.cell h 4
theorem OHead.ne_pt (h : OHead w po pt o s) (ht : THead w pt pa nb T) : po ≠ pt := h.blk.ne_ ht (by decide)
set_option maxHeartbeats 2000000 in
theorem look_any (h : OHead w po pt o (str o.name)) (ht : THead w pt pa nb T) (hn : NMap w nb c T) {x : Int} (hx : (ik x).wf = true) :
    Calls Try.prog 43 #[.pointer (some ⟨po, 0, none⟩), .int .i64 x] w fun e w' => e = .returned (.tuple #[]) ∧ OHead w' po pt (o.look T x) (str o.name) ∧ Keep (· ≠ po) w w' := by
  have hne := h.ne_pt ht
  have hnp := hn.ne_blk h.blk
  have c8 := h.cell 8
  have z8 := h.thaw 8
  have r1 := h.put 8 (.int .i64 x) (o' := { o with at_ := x }) (by simp [ocells])
  have k1 := okeep w po 8 (.int .i64 x)
  have t1 := ht.far (p := ⟨po, 8, none⟩) hne.symm (.int .i64 x)
  have n1 := hn.setCell (p := ⟨po, 8, none⟩) hnp (.int .i64 x)
  simp only [ocells, List.getElem?_toArray, List.getElem?_cons_zero, List.getElem?_cons_succ] at c8
  clear h ht hn hne hnp
  have d0 := r1.cell 0
  have d1 := r1.cell 1
  have d2 := r1.cell 2
  have d6 := r1.cell 6
  have d7 := r1.cell 7
  have y1 := r1.thaw 1
  have y7 := r1.thaw 7
  have t4 := t1.reads4
  simp only [ocells, List.getElem?_toArray, List.getElem?_cons_zero, List.getElem?_cons_succ] at d0 d1 d2 d6 d7
  by_cases ha : x = 0 ∨ x = o.past
  · have e : o.look T x = ({ o with at_ := x, past := o.head } : OS).decide T := by unfold OS.look; rw [if_pos ha]
    rw [e]; clear e
    have r2 := r1.put 7 (.int .i64 o.head) (o' := { o with at_ := x, past := o.head }) (by simp [ocells])
    have t2 := t1.far (p := ⟨po, 7, none⟩) (Ne.symm (r1.ne_pt t1)) (.int .i64 o.head)
    have hd := decide_any r2 t2
    have k2 := k1.trans (okeep _ po 7 (.int .i64 o.head))
    have HD := Lib.hid hd; clear hd
    have K2 := Lib.hid k2; clear k2
    clear r1 r2 t1 t2 n1 k1 hx
    generalize o.head = hh at d6 HD K2
    by_cases h0 : x = 0
    · subst h0
      clear ha
      go_enter Try.func43, Try.ntmps43
      go_wp2_with (go_at_call 78; refine HD.out.mono ?_; rintro e w' ⟨rfl, r, k⟩; have R := Lib.hid r; clear r; have K := Lib.hid k; clear k)
      exact bodyPost_end (results_none rfl _ _ _) rfl ⟨rfl, R.out, K2.out.trans K.out⟩
    · have hp : o.past = x := (ha.resolve_left h0).symm
      rw [hp] at d7
      have hne : (x == 0) = false := by simpa using h0
      clear ha hp h0
      go_enter Try.func43, Try.ntmps43
      go_wp2_with (go_at_call 78; refine HD.out.mono ?_; rintro e w' ⟨rfl, r, k⟩; have R := Lib.hid r; clear r; have K := Lib.hid k; clear k)
      exact bodyPost_end (results_none rfl _ _ _) rfl ⟨rfl, R.out, K2.out.trans K.out⟩
  · have hne : (x == 0) = false := by simpa using fun h => ha (.inl h)
    have hnp : (x == o.past) = false := by simpa using fun h => ha (.inr h)
    have g0 := r1.drew.cell 0
    have g1 := r1.drew.cell 1
    have g2 := r1.drew.cell 2
    have u1 := r1.drew.thaw 1
    have g4 := t1.drew.reads4
    simp only [ocells, List.getElem?_toArray, List.getElem?_cons_zero, List.getElem?_cons_succ] at g0 g1 g2
    have hl := n1.drew.look hx
    have kd := k1.drew
    have he := end_any r1.drew x 0
    have r5 := r1.drew.put 1 (.int .i64 5) (o' := { o with at_ := x, next := 5 }) (by simp [ocells])
    have k5 := kd.trans (okeep _ po 1 (.int .i64 5))
    have HE := Lib.hid he; clear he
    have R5 := Lib.hid r5; clear r5
    have K5 := Lib.hid k5; clear k5
    have KD := Lib.hid kd; clear kd
    clear r1 t1 n1 k1 hx
    by_cases hb : T.name x = o.name
    · have e : o.look T x = ({ o with at_ := x } : OS).fin x 0 := by unfold OS.look; rw [if_neg ha, if_pos hb]
      rw [e]; clear e
      rw [hb] at hl
      generalize str o.name = ss at *
      clear ha hb
      go_enter Try.func43, Try.ntmps43
      go_wp2_with fail
      go_region
      all_goals
        go_wp2_with (go_at_call 37; refine HE.out.mono ?_; rintro e w' ⟨rfl, r, k⟩; have R := Lib.hid r; clear r; have K := Lib.hid k; clear k)
        exact bodyPost_end (results_none rfl _ _ _) rfl ⟨rfl, R.out, KD.out.trans K.out⟩
    · have e : o.look T x = { o with at_ := x, next := 5 } := by unfold OS.look; rw [if_neg ha, if_neg hb]
      rw [e]; clear e
      have hs := str_ne hb
      generalize str (T.name x) = sn at hl hs
      generalize str o.name = ss at *
      clear ha hb
      go_enter Try.func43, Try.ntmps43
      go_wp2_with fail
      go_region
      all_goals
        go_wp2_with fail
        exact bodyPost_end (results_none rfl _ _ _) rfl ⟨rfl, R5.out, K5.out⟩
end
end Go.Proofs.Ytebdlggmpojgdaa
