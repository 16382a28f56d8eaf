/-
  Package atoms, plain: a step lowers what an operation may still take. Condition: there is room for a block.
-/
import Derived.Test.YtebdlggmpojgdaaAtoms0
namespace Go.Proofs.Ytebdlggmpojgdaa
open Go.RowKit Go.Maps
set_option linter.unusedVariables false

section
variable {A : AS} {T : TS} {P : List Int} {m : Int} {o : OS}
theorem LInv.mark (h : LInv A T P m) : A.val T.first 0 = m := by
  obtain ⟨hs, e, _, _⟩ := h.fst
  unfold AS.val; rw [e]; simp
theorem LInv.head (h : LInv A T P m) {l : Int} (h0 : 0 ≤ l) (h1 : l < T.lists) : A.val T.first (1 + l) = 0 ∨ A.val T.first (1 + l) ∈ P := by
  obtain ⟨hs, e, hl, hh⟩ := h.fst
  have : A.val T.first (1 + l) = hs.getD l.toNat 0 := by
    unfold AS.val; rw [e]
    show (if 0 ≤ 1 + l ∧ 1 + l < ((m :: hs).length : Int) then (m :: hs).getD (1 + l).toNat 0 else 0) = _
    rw [if_pos ⟨by omega, by simp; omega⟩, show (1 + l).toNat = l.toNat + 1 by omega]
    simp [List.getD]
  rw [this]
  have hlt : l.toNat < hs.length := by omega
  rw [show hs.getD l.toNat 0 = hs[l.toNat] by simp [List.getD, hlt]]
  exact hh _ (List.getElem_mem _)
theorem LInv.behind (h : LInv A T P m) {b : Int} (hb : b ∈ P) : A.val b 0 = 0 ∨ (A.val b 0 ∈ P ∧ rank P (A.val b 0) < rank P b) := by
  obtain ⟨_, _, nx, e, hn⟩ := h.put b hb
  have : A.val b 0 = nx := by unfold AS.val; rw [e]; simp
  rw [this]; exact hn
theorem rank_not {l : List Int} {b : Int} (h : b ∉ l) : rank l b = 0 := by
  induction l with
  | nil => rfl
  | cons p l ih =>
    rw [List.mem_cons, not_or] at h
    rw [rank_cons (fun e => h.1 e.symm)]
    exact ih h.2
theorem LInv.zero (h : LInv A T P m) : (0 : Int) ∉ P := fun h0 => by
  have := (h.put 0 h0).1
  omega
/-- Each step but a put that succeeds lowers it. -/
theorem pot_step (h : LInv A T P m) (ho : OpInv A T P o) (h10 : o.next < 10) (hr : A.allocErr 1 = 0) : pot P.length P m (stepO A T o) + 1 ≤ pot P.length P m o := by
  have hle := ho.le
  have hz := h.zero
  have hn : o.next = 0 ∨ o.next = 1 ∨ o.next = 2 ∨ o.next = 3 ∨ o.next = 4 ∨ o.next = 5 ∨ o.next = 6 ∨ o.next = 7 ∨ o.next = 8 ∨ o.next = 9 := by omega
  rcases hn with e | e | e | e | e | e | e | e | e | e
  · have e1 : stepO A T o = o.fin 0 2 := by unfold stepO; rw [e] <;> rfl
    have e2 : pot P.length P m o = 1 := by unfold pot; rw [if_pos (.inl e)]
    rw [e1, e2]
    have hb := ho.hasnt (.inl e)
    simp [OS.fin, pot, hb]
  · have e1 : stepO A T o = { o with seen := m, next := if mNew m = 0 then 4 else 2 } := by unfold stepO; rw [e]; simp only [h.mark]
    rw [e1]
    by_cases h0 : mNew m = 0 <;> simp [pot, potF, e, h0]
  · have e1 : stepO A T o = { o with behind := A.val (mNew o.seen) 0, next := 3 } := by unfold stepO; rw [e] <;> rfl
    rw [e1]
    simp only [pot, potF, e]
    simp
    split <;> omega
  · have e1 : stepO A T o = { o with next := 4 } := by unfold stepO; rw [e] <;> rfl
    rw [e1]
    simp only [pot, potF, e]
    simp
    split <;> omega
  · have e1 : stepO A T o = { o with head := A.val T.first (1 + o.list) }.look T (A.val T.first (1 + o.list)) := by unfold stepO; rw [e] <;> rfl
    rw [e1]
    have hh := h.head ho.list.1 ho.list.2
    have hl := look_pot (o := { o with head := A.val T.first (1 + o.list) }) (T := T) (m := m) hh P.length
    have hrk := rank_le P (A.val T.first (1 + o.list))
    have e2 : pot P.length P m o = P.length + 4 + (if o.seen = m then 0 else P.length + 7) := by
      simp only [pot, potF, e]; simp; split <;> omega
    rw [e2]
    simp only at hl
    omega
  · have e1 : stepO A T o = o.look T (A.val o.at_ 0) := by unfold stepO; rw [e] <;> rfl
    rw [e1]
    have hat := ho.at_ e
    have hb := h.behind hat
    have hp := rank_pos hat
    have hl := look_pot (o := o) (T := T) (m := m) (x := A.val o.at_ 0) (hb.imp id (·.1)) P.length
    have hrk : rank P (A.val o.at_ 0) < rank P o.at_ := by
      rcases hb with e0 | ⟨_, h1⟩
      · rw [e0, rank_not hz]; exact hp
      · exact h1
    have e2 : pot P.length P m o = rank P o.at_ + 3 + (if o.seen = m then 0 else P.length + 7) := by
      simp only [pot, potF, e]; simp; split <;> omega
    rw [e2]
    omega
  · have e1 : stepO A T o = { o with block := A.allocNo 1, next := 7 } := by unfold stepO; rw [e]; simp [hr]
    rw [e1]
    simp only [pot, potF, e]
    simp
    split <;> omega
  · have e1 : stepO A T o = { o with next := 8 } := by unfold stepO; rw [e] <;> rfl
    rw [e1]
    simp only [pot, potF, e]
    simp
    split <;> omega
  · by_cases hs : m = o.seen
    · have e1 : stepO A T o = { o with id := o.block, next := 10 } := by unfold stepO; rw [e]; simp [h.mark, hs]
      rw [e1]
      simp [pot, potF, e, hs]
    · have e1 : stepO A T o = { o with next := 1 } := by unfold stepO; rw [e]; simp [h.mark, hs]
      rw [e1]
      have hs' : o.seen ≠ m := fun e => hs e.symm
      simp [pot, potF, e, hs']
      omega
  · have e1 : stepO A T o = { o with next := 10 } := by unfold stepO; rw [e] <;> rfl
    rw [e1]
    simp [pot, e]
end
end Go.Proofs.Ytebdlggmpojgdaa
