/-
  Package atoms, plain: what the lists of a table hold, where operations come one behind the other. No condition.
-/
import Derived.Test.YtebdlggmpojgdaaAtoms15
namespace Go.Proofs.Ytebdlggmpojgdaa
open Go.RowKit Go.Maps
set_option linter.unusedVariables false

/-- From block x on the list holds these blocks. -/
def Chn (A : AS) : Int → List Int → Prop
  | x, [] => x = 0
  | x, p :: c => x = p ∧ p ≠ 0 ∧ Chn A (A.val p 0) c
section
variable {A A' : AS} {T T' : TS} {P : List Int} {m : Int} {o : OS} {x : Int} {c c' : List Int}
theorem Chn.congr : ∀ {c : List Int} {x : Int}, Chn A x c → (∀ p ∈ c, A'.val p 0 = A.val p 0) → Chn A' x c := by
  intro c
  induction c with
  | nil => intro x h _; exact h
  | cons p c ih =>
    intro x h hv
    obtain ⟨h1, h2, h3⟩ := h
    refine ⟨h1, h2, ?_⟩
    rw [hv p (by simp)]
    exact ih h3 (fun q hq => hv q (by simp [hq]))
theorem Chn.det : ∀ {c c' : List Int} {x : Int}, Chn A x c → Chn A x c' → c = c' := by
  intro c
  induction c with
  | nil =>
    intro c' x h h'
    cases c' with
    | nil => rfl
    | cons p c' => obtain ⟨h1, h2, _⟩ := h'; exact absurd (h1.symm.trans h) h2
  | cons p c ih =>
    intro c' x h h'
    cases c' with
    | nil => obtain ⟨h1, h2, _⟩ := h; exact absurd (h1.symm.trans h') h2
    | cons q c' =>
      obtain ⟨h1, h2, h3⟩ := h
      obtain ⟨k1, k2, k3⟩ := h'
      obtain rfl : p = q := h1.symm.trans k1
      rw [ih h3 k3]
theorem Chn.split {pre post : List Int} {p : Int} : ∀ {x : Int}, Chn A x (pre ++ p :: post) → Chn A (A.val p 0) post ∧ p ≠ 0 := by
  induction pre with
  | nil => intro x h; exact ⟨h.2.2, h.2.1⟩
  | cons q pre ih => intro x h; exact ih h.2.2
theorem Chn.no_back (h : Chn A x c) {p : Int} (hp : p ∈ c) : A.val p 0 ≠ x := by
  intro e
  obtain ⟨pre, post, rfl⟩ := List.append_of_mem hp
  have h2 := h.split.1
  rw [e] at h2
  have := congrArg List.length (h.det h2)
  simp at this
  omega
/-- The lists hold the blocks that were put, each where its name belongs; the newest may not be hung yet. -/
structure SInv (A : AS) (T : TS) (P : List Int) (hg : Bool) : Prop where
  has : ∀ p ∈ P, T.has p = true
  dis : ∀ p ∈ P, ∀ q ∈ P, T.name p = T.name q → p = q
  chn : ∀ l, 0 ≤ l → l < T.lists → ∃ c, Chn A (A.val T.first (1 + l)) c ∧ ∀ p, p ∈ c ↔ ((if hg then p ∈ P else p ∈ P.tail) ∧ T.list (T.name p) = l)
  nx : hg = false → ∀ p, P.head? = some p → A.val p 0 = A.val T.first (1 + T.list (T.name p))
theorem SInv.empty {hg : Bool} (h : SInv A T [] hg) : SInv A T [] true :=
  ⟨h.has, h.dis, fun l h0 h1 => by
    obtain ⟨c, hc, hm⟩ := h.chn l h0 h1
    refine ⟨c, hc, fun p => ?_⟩
    have := hm p
    cases hg <;> simpa using this, fun e => by cases e⟩
theorem SInv.mem {hg : Bool} (h : SInv A T P hg) {l : Int} (h0 : 0 ≤ l) (h1 : l < T.lists) (hc : Chn A (A.val T.first (1 + l)) c) {p : Int} (hp : p ∈ c) : p ∈ P := by
  obtain ⟨c', hc', hm⟩ := h.chn l h0 h1
  rw [hc.det hc'] at hp
  have := ((hm p).1 hp).1
  cases hg with
  | true => simpa using this
  | false => exact List.mem_of_mem_tail (by simpa using this)
theorem TS.list_range' (T : TS) (h : 1 ≤ T.lists) (n : List UInt8) : 0 ≤ T.list n ∧ T.list n < T.lists := by
  unfold TS.list
  have := Nat.mod_lt (hashN n 0) (y := T.lists.toNat) (by omega)
  omega
/-- Nothing of it has turned. -/
theorem SInv.frame {hg : Bool} (h : SInv A T P hg) (hv : ∀ p ∈ P, A'.val p 0 = A.val p 0) (hf : ∀ l, 0 ≤ l → l < T.lists → A'.val T.first (1 + l) = A.val T.first (1 + l)) (e1 : T'.first = T.first) (e2 : T'.lists = T.lists)
    (hn : ∀ p ∈ P, T'.name p = T.name p ∧ T'.has p = T.has p) (hl : 1 ≤ T.lists) : SInv A' T' P hg := by
  have htl : ∀ n, T'.list n = T.list n := fun n => by unfold TS.list; rw [e2]
  refine ⟨fun p hp => by rw [(hn p hp).2]; exact h.has p hp, fun p hp q hq e => h.dis p hp q hq (by rw [← (hn p hp).1, ← (hn q hq).1]; exact e), fun l h0 h1 => ?_, fun hh p hp => ?_⟩
  · rw [e2] at h1
    obtain ⟨c, hc, hm⟩ := h.chn l h0 h1
    have hin : ∀ p ∈ c, p ∈ P := fun p hp => h.mem h0 h1 hc hp
    refine ⟨c, ?_, fun p => ?_⟩
    · rw [e1, hf l h0 h1]
      exact hc.congr (fun p hp => hv p (hin p hp))
    · rw [hm p, htl]
      by_cases hp : p ∈ P
      · rw [(hn p hp).1]
      · have : ¬ (if hg then p ∈ P else p ∈ P.tail) := by
          cases hg with
          | true => simpa using hp
          | false => exact fun hh => hp (List.mem_of_mem_tail (by simpa using hh))
        simp [this]
  · have hpP : p ∈ P := List.mem_of_head? hp
    rw [hv p hpP, e1, htl, (hn p hpP).1]
    have := T.list_range' hl (T.name p)
    rw [hf _ this.1 this.2]
    exact h.nx hh p hp
end
end Go.Proofs.Ytebdlggmpojgdaa
