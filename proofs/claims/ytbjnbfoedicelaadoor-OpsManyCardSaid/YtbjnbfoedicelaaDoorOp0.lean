/-
  Operators, plain: a table as a list of operators, none of one name and sort twice; what is asked of it, what is put in and taken out. No condition.
-/
import Derived.Test.YtbjnbfoedicelaaDoorRows
namespace Go.Proofs.YtbjnbfoedicelaaDoor
set_option linter.unusedVariables false
set_option linter.unusedSimpArgs false

/-- An operator: its name's bytes, its type, its precedence. -/
structure Opv where
  nm : List UInt8
  ty : Int
  pr : Int
deriving DecidableEq, Inhabited
def isPre (t : Int) : Bool := t == 4 || t == 5
def isPost (t : Int) : Bool := t == 6 || t == 7
abbrev Tab := List Opv
def Opv.isKey (o : Opv) (nm : List UInt8) (p : Bool) : Bool := o.nm == nm && isPre o.ty == p
def find (T : Tab) (nm : List UInt8) (p : Bool) : Option Opv := T.find? (fun o => o.isKey nm p)
def drop (T : Tab) (nm : List UInt8) (p : Bool) : Tab := T.filter (fun o => !o.isKey nm p)
def put (T : Tab) (o : Opv) : Tab := o :: drop T o.nm (isPre o.ty)
def Apart (T : Tab) : Prop := T.Pairwise (fun a b => a.isKey b.nm (isPre b.ty) = false)
def reserved (nm : List UInt8) : Bool := nm == [44] || nm == [124] || nm == [91, 93] || nm == [123, 125]
def other (T : Tab) (o : Opv) : Bool := match find T o.nm false with
  | some was => !isPre o.ty && (isPost o.ty != isPost was.ty)
  | none => false
def checkV (T : Tab) (o : Opv) : Int :=
  if o.ty < 1 ∨ 7 < o.ty ∨ o.pr < 0 ∨ 1200 < o.pr then 1
  else if o.nm.length = 0 ∨ 64 < o.nm.length then 2
  else if reserved o.nm || other T o then 90
  else if 0 < o.pr ∧ (find T o.nm (isPre o.ty)).isNone ∧ 200 ≤ T.length then 3
  else 0
def addT (T : Tab) (o : Opv) : Tab := if checkV T o = 0 then (if o.pr = 0 then drop T o.nm (isPre o.ty) else put T o) else T

theorem isKey_iff {o : Opv} {nm : List UInt8} {p : Bool} : o.isKey nm p = true ↔ o.nm = nm ∧ isPre o.ty = p := by simp [Opv.isKey]
theorem isKey_self (o : Opv) : o.isKey o.nm (isPre o.ty) = true := by simp [Opv.isKey]
theorem find_drop (T : Tab) (nm mn : List UInt8) (p q : Bool) : find (drop T nm p) mn q = if mn = nm ∧ q = p then none else find T mn q := by
  induction T with
  | nil => simp [find, drop]
  | cons o T ih =>
    unfold find drop at ih ⊢
    rw [List.filter_cons]
    by_cases h : o.isKey nm p = true
    · rw [if_neg (by simp [h]), ih]
      by_cases h2 : mn = nm ∧ q = p
      · simp [h2]
      · rw [if_neg h2, if_neg h2, List.find?_cons]
        have : o.isKey mn q = false := by
          rw [Bool.eq_false_iff]; intro h3
          have h1 := isKey_iff.1 h; have h4 := isKey_iff.1 h3
          exact h2 ⟨h4.1.symm.trans h1.1, h4.2.symm.trans h1.2⟩
        rw [this]
    · rw [if_pos (by simpa using h), List.find?_cons, List.find?_cons]
      by_cases h3 : o.isKey mn q = true
      · rw [h3]
        have : ¬ (mn = nm ∧ q = p) := by rintro ⟨rfl, rfl⟩; exact h h3
        rw [if_neg this]
      · rw [Bool.not_eq_true] at h3
        rw [h3]; exact ih
theorem find_put (T : Tab) (o : Opv) (nm : List UInt8) (p : Bool) : find (put T o) nm p = if nm = o.nm ∧ p = isPre o.ty then some o else find T nm p := by
  have hc : find (put T o) nm p = if o.isKey nm p then some o else find (drop T o.nm (isPre o.ty)) nm p := by
    unfold find put; rw [List.find?_cons]; cases o.isKey nm p <;> rfl
  rw [hc, find_drop]
  by_cases h : o.isKey nm p = true
  · have := isKey_iff.1 h
    rw [if_pos h, if_pos ⟨this.1.symm, this.2.symm⟩]
  · have : ¬ (nm = o.nm ∧ p = isPre o.ty) := by rintro ⟨rfl, rfl⟩; exact h (isKey_self o)
    rw [if_neg h, if_neg this, if_neg this]
theorem Apart.drop {T : Tab} (h : Apart T) (nm : List UInt8) (p : Bool) : Apart (drop T nm p) := List.Pairwise.filter _ h
theorem Apart.put {T : Tab} (h : Apart T) (o : Opv) : Apart (put T o) := by
  refine List.pairwise_cons.2 ⟨fun b hb => ?_, h.drop _ _⟩
  have := (List.mem_filter.1 hb).2
  simp only [Bool.not_eq_true'] at this
  rw [Bool.eq_false_iff] at this ⊢
  intro h2; have := isKey_iff.1 h2
  exact ‹¬ _› (isKey_iff.2 ⟨this.1.symm, this.2.symm⟩)
theorem mem_of_find {T : Tab} {nm : List UInt8} {p : Bool} {o : Opv} (h : find T nm p = some o) : o ∈ T ∧ o.nm = nm ∧ isPre o.ty = p :=
  ⟨List.mem_of_find?_eq_some h, isKey_iff.1 (by have := List.find?_some (p := fun x : Opv => x.isKey nm p) h; exact this)⟩
theorem find_of_mem {T : Tab} (ha : Apart T) {o : Opv} (h : o ∈ T) : find T o.nm (isPre o.ty) = some o := by
  induction T with
  | nil => cases h
  | cons x T ih =>
    obtain ⟨h1, h2⟩ := List.pairwise_cons.1 ha
    unfold find
    rw [List.find?_cons]
    rcases List.mem_cons.1 h with rfl | h
    · rw [isKey_self]
    · rw [h1 o h]; exact ih h2 h
theorem length_drop {T : Tab} (ha : Apart T) (nm : List UInt8) (p : Bool) : (drop T nm p).length = if (find T nm p).isSome then T.length - 1 else T.length := by
  induction T with
  | nil => rfl
  | cons x T ih =>
    obtain ⟨h1, h2⟩ := List.pairwise_cons.1 ha
    unfold drop find
    rw [List.filter_cons, List.find?_cons]
    by_cases h : x.isKey nm p = true
    · rw [if_neg (by simp [h]), h]
      have hn : find T nm p = none := by
        rcases hf : find T nm p with _ | o
        · rfl
        · have := mem_of_find hf
          have h3 := h1 o this.1
          rw [this.2.1, this.2.2] at h3
          rw [h] at h3; cases h3
      have := ih h2
      rw [hn] at this
      simpa [drop] using this
    · rw [if_pos (by simpa using h)]
      rw [Bool.not_eq_true] at h
      rw [h]
      have := ih h2
      unfold drop find at this
      rw [List.length_cons, this]
      by_cases hs : (T.find? (fun o => o.isKey nm p)).isSome
      · have hp : 0 < T.length := by
          obtain ⟨o, ho⟩ := Option.isSome_iff_exists.1 hs
          exact List.length_pos_of_mem (List.mem_of_find?_eq_some ho)
        simp only [hs, if_true, List.length_cons]; omega
      · simp [hs]
theorem length_put {T : Tab} (ha : Apart T) (o : Opv) : (put T o).length = if (find T o.nm (isPre o.ty)).isSome then T.length else T.length + 1 := by
  unfold put
  rw [List.length_cons, length_drop ha]
  by_cases hs : (find T o.nm (isPre o.ty)).isSome
  · have hp : 0 < T.length := by
      obtain ⟨x, hx⟩ := Option.isSome_iff_exists.1 hs
      exact List.length_pos_of_mem (mem_of_find hx).1
    simp only [hs, if_true]; omega
  · simp [hs]
theorem Apart.add {T : Tab} (h : Apart T) (o : Opv) : Apart (addT T o) := by
  unfold addT
  split
  · split
    · exact h.drop _ _
    · exact h.put _
  · exact h
theorem length_add {T : Tab} (h : Apart T) (hl : T.length ≤ 200) (o : Opv) : (addT T o).length ≤ 200 := by
  unfold addT
  by_cases hc : checkV T o = 0
  · rw [if_pos hc]
    by_cases hp : o.pr = 0
    · rw [if_pos hp, length_drop h]; split <;> omega
    · rw [if_neg hp, length_put h]
      split
      · omega
      · rename_i hn
        unfold checkV at hc
        repeat' split at hc
        all_goals first | (exact absurd hc (by decide)) | skip
        rename_i h1 _ _ h4
        have hn' : (find T o.nm (isPre o.ty)).isNone = true := by rcases hf : find T o.nm (isPre o.ty) with _ | x
                                                                  · rfl
                                                                  · rw [hf] at hn; exact absurd rfl hn
        have : 0 < o.pr := by omega
        simp only [this, hn', true_and] at h4
        omega
  · rw [if_neg hc]; exact hl

/-- Same name, sort and all: what a table holds at a place, and what fits there. -/
theorem good_of_check {T : Tab} {o : Opv} (h : checkV T o = 0) : 1 ≤ o.ty ∧ o.ty ≤ 7 ∧ 0 ≤ o.pr ∧ o.pr ≤ 1200 ∧ 1 ≤ o.nm.length ∧ o.nm.length ≤ 64 := by
  unfold checkV at h
  repeat' split at h
  all_goals first | (exact absurd h (by decide)) | omega
end Go.Proofs.YtbjnbfoedicelaaDoor
