/-
  Tokens, plain: what is read is a piece of the text; places shift. No condition.
-/
import Derived.Test.YtjaaoljfkbbjpaaGreatDoorLx0
namespace Go.Proofs.YtjaaoljfkbbjpaaGreatDoor
set_option linter.unusedVariables false
set_option linter.unusedSimpArgs false

theorem skip_ind (P : Nat → List UInt8 → Prop)
    (hnil : ∀ a, P a [])
    (hblank : ∀ a c r, blankB c = true → P (a + 1) r → P a (c :: r))
    (hline : ∀ a c r, blankB c = false → c = 37 → P (a + (1 + lineLen r)) (r.drop (lineLen r)) → P a (c :: r))
    (hopen : ∀ a c r, blankB c = false → c ≠ 37 → remB (c :: r) = true → remEnd (r.drop 1) = none → P a (c :: r))
    (hrem : ∀ a c r k, blankB c = false → c ≠ 37 → remB (c :: r) = true → remEnd (r.drop 1) = some k → P (a + (k + 4)) (r.drop (k + 3)) → P a (c :: r))
    (hend : ∀ a c r, blankB c = false → c ≠ 37 → remB (c :: r) = false → P a (c :: r)) (a : Nat) (l : List UInt8) : P a l := by
  generalize hf : l.length = f
  have hle : l.length ≤ f := by omega
  clear hf
  induction f generalizing a l with
  | zero => have := List.length_eq_zero_iff.1 (Nat.le_zero.1 hle); subst this; exact hnil a
  | succ f ih =>
    cases l with
    | nil => exact hnil a
    | cons c r =>
      have h1 : r.length ≤ f := by simpa using hle
      cases hb : blankB c with
      | true => exact hblank a c r hb (ih _ _ h1)
      | false =>
        by_cases hc : c = 37
        · exact hline a c r hb hc (ih _ _ (by simp; omega))
        · cases hr : remB (c :: r) with
          | false => exact hend a c r hb hc hr
          | true =>
            cases he : remEnd (r.drop 1) with
            | none => exact hopen a c r hb hc hr he
            | some k => exact hrem a c r k hb hc hr he (ih _ _ (by simp; omega))
theorem skip_blank {a : Nat} {c : UInt8} {r : List UInt8} (h : blankB c = true) : skipL a (c :: r) = skipL (a + 1) r := by rw [skipL_cons, if_pos h]
theorem skip_line {a : Nat} {c : UInt8} {r : List UInt8} (h : blankB c = false) (hc : c = 37) : skipL a (c :: r) = skipL (a + (1 + lineLen r)) (r.drop (lineLen r)) := by
  rw [skipL_cons, if_neg (by simp [h]), if_pos (by simp [hc])]
theorem skip_open {a : Nat} {c : UInt8} {r : List UInt8} (h : blankB c = false) (hc : c ≠ 37) (hr : remB (c :: r) = true) (he : remEnd (r.drop 1) = none) : skipL a (c :: r) = .bad 81 a := by
  rw [skipL_cons, if_neg (by simp [h]), if_neg (by simp [hc]), if_pos hr, he]
theorem skip_rem {a k : Nat} {c : UInt8} {r : List UInt8} (h : blankB c = false) (hc : c ≠ 37) (hr : remB (c :: r) = true) (he : remEnd (r.drop 1) = some k) : skipL a (c :: r) = skipL (a + (k + 4)) (r.drop (k + 3)) := by
  rw [skipL_cons, if_neg (by simp [h]), if_neg (by simp [hc]), if_pos hr, he]
theorem skip_end {a : Nat} {c : UInt8} {r : List UInt8} (h : blankB c = false) (hc : c ≠ 37) (hr : remB (c :: r) = false) : skipL a (c :: r) = .good () a (c :: r) := by
  rw [skipL_cons, if_neg (by simp [h]), if_neg (by simp [hc]), if_neg (by simp [hr])]

theorem remEnd_lt {l : List UInt8} {k : Nat} (h : remEnd l = some k) : k + 2 ≤ l.length := by
  induction l generalizing k with
  | nil => cases h
  | cons c r ih =>
    rw [remEnd] at h
    split at h
    · rename_i hc
      cases h
      cases r with
      | nil => simp at hc
      | cons d r => simp
    · obtain ⟨j, hj, rfl⟩ := Option.map_eq_some_iff.1 h
      have := ih hj
      simp; omega
theorem takeWhile_len_le (p : UInt8 → Bool) (l : List UInt8) : (l.takeWhile p).length ≤ l.length := by
  induction l with
  | nil => simp
  | cons c r ih => simp only [List.takeWhile_cons]; split <;> simp <;> omega
theorem lineLen_le (l : List UInt8) : lineLen l ≤ l.length := takeWhile_len_le _ l

/-- What is skipped is a piece of the text, and where it ends nothing is to be skipped. -/
theorem skip_split (a : Nat) (l : List UInt8) : ∀ {x : Unit} {n : Nat} {r : List UInt8}, skipL a l = .good x n r → ∃ s, l = s ++ r ∧ n = a + s.length := by
  refine skip_ind (fun a l => ∀ {x : Unit} {n : Nat} {r : List UInt8}, skipL a l = .good x n r → ∃ s, l = s ++ r ∧ n = a + s.length) ?_ ?_ ?_ ?_ ?_ ?_ a l
  · intro a x n r h; rw [skipL_nil] at h; injection h with h1 h2 h3; subst h2; subst h3; exact ⟨[], rfl, by simp⟩
  · intro a c r hb ih x n q h
    rw [skip_blank hb] at h
    obtain ⟨s, hs, hn⟩ := ih h
    exact ⟨c :: s, by rw [hs]; rfl, by simp; omega⟩
  · intro a c r hb hc ih x n q h
    rw [skip_line hb hc] at h
    obtain ⟨s, hs, hn⟩ := ih h
    refine ⟨c :: (r.take (lineLen r) ++ s), ?_, ?_⟩
    · rw [List.cons_append, List.append_assoc, ← hs, List.take_append_drop]
    · have := lineLen_le r; simp; omega
  · intro a c r hb hc hr he x n q h
    rw [skip_open hb hc hr he] at h; cases h
  · intro a c r k hb hc hr he ih x n q h
    rw [skip_rem hb hc hr he] at h
    obtain ⟨s, hs, hn⟩ := ih h
    have hk := remEnd_lt he
    refine ⟨c :: (r.take (k + 3) ++ s), ?_, ?_⟩
    · rw [List.cons_append, List.append_assoc, ← hs, List.take_append_drop]
    · simp at hk; simp; omega
  · intro a c r hb hc hr x n q h
    rw [skip_end hb hc hr] at h; injection h with h1 h2 h3; subst h2; subst h3; exact ⟨[], rfl, by simp⟩
/-- Where skipping ends, a token must begin. -/
theorem skip_stop (a : Nat) (l : List UInt8) : ∀ {x : Unit} {n : Nat} {c : UInt8} {r : List UInt8}, skipL a l = .good x n (c :: r) → blankB c = false ∧ c ≠ 37 ∧ remB (c :: r) = false := by
  refine skip_ind (fun a l => ∀ {x : Unit} {n : Nat} {c : UInt8} {r : List UInt8}, skipL a l = .good x n (c :: r) → blankB c = false ∧ c ≠ 37 ∧ remB (c :: r) = false) ?_ ?_ ?_ ?_ ?_ ?_ a l
  · intro a x n c r h; rw [skipL_nil] at h; injection h with h1 h2 h3; cases h3
  · intro a c r hb ih x n d q h; rw [skip_blank hb] at h; exact ih h
  · intro a c r hb hc ih x n d q h; rw [skip_line hb hc] at h; exact ih h
  · intro a c r hb hc hr he x n d q h; rw [skip_open hb hc hr he] at h; cases h
  · intro a c r k hb hc hr he ih x n d q h; rw [skip_rem hb hc hr he] at h; exact ih h
  · intro a c r hb hc hr x n d q h
    rw [skip_end hb hc hr] at h; injection h with h1 h2 h3; cases h3; exact ⟨hb, hc, hr⟩
theorem skip_shift (k : Nat) (a : Nat) (l : List UInt8) : skipL (k + a) l = (skipL a l).up k := by
  refine skip_ind (fun a l => skipL (k + a) l = (skipL a l).up k) ?_ ?_ ?_ ?_ ?_ ?_ a l
  · intro a; rfl
  · intro a c r hb ih; rw [skip_blank hb, skip_blank hb, ← ih, Nat.add_assoc]
  · intro a c r hb hc ih; rw [skip_line hb hc, skip_line hb hc, ← ih, Nat.add_assoc]
  · intro a c r hb hc hr he; rw [skip_open hb hc hr he, skip_open hb hc hr he]; rfl
  · intro a c r j hb hc hr he ih; rw [skip_rem hb hc hr he, skip_rem hb hc hr he, ← ih, Nat.add_assoc]
  · intro a c r hb hc hr; rw [skip_end hb hc hr, skip_end hb hc hr]; rfl
theorem skip_bad (a : Nat) (l : List UInt8) : ∀ {c p : Nat}, skipL a l = .bad c p → c = 81 ∧ p < a + l.length := by
  refine skip_ind (fun a l => ∀ {c p : Nat}, skipL a l = .bad c p → c = 81 ∧ p < a + l.length) ?_ ?_ ?_ ?_ ?_ ?_ a l
  · intro a c p h; cases h
  · intro a c r hb ih e p h; rw [skip_blank hb] at h; have := ih h; simp; omega
  · intro a c r hb hc ih e p h; rw [skip_line hb hc] at h; have := ih h; have := lineLen_le r; simp at *; omega
  · intro a c r hb hc hr he e p h; rw [skip_open hb hc hr he] at h; injection h with h1 h2; subst h1; subst h2; simp
  · intro a c r j hb hc hr he ih e p h
    rw [skip_rem hb hc hr he] at h
    have := ih h; have := remEnd_lt he; simp at *; omega
  · intro a c r hb hc hr e p h; rw [skip_end hb hc hr] at h; cases h

/-- Names in quotes. -/
theorem quot_ind (P : Nat → List UInt8 → Prop)
    (hbyte : ∀ a l c k, inQ l = .byte c k → P (a + k) (l.drop k) → P a l)
    (hclose : ∀ a l, inQ l = .close → P a l)
    (hover : ∀ a l, inQ l = .over → P a l)
    (hbad : ∀ a l e, inQ l = .bad e → P a l) (a : Nat) (l : List UInt8) : P a l := by
  generalize hf : l.length = f
  have hle : l.length ≤ f := by omega
  clear hf
  induction f generalizing a l with
  | zero => have := List.length_eq_zero_iff.1 (Nat.le_zero.1 hle); subst this; exact hover a [] rfl
  | succ f ih =>
    cases hq : inQ l with
    | byte c k => have := inQ_pos hq; exact hbyte a l c k hq (ih _ _ (by simp; omega))
    | close => exact hclose a l hq
    | over => exact hover a l hq
    | bad e => exact hbad a l e hq
theorem quot_byte {o a : Nat} {l : List UInt8} {c : UInt8} {k : Nat} (h : inQ l = .byte c k) : quotL o a l = (match quotL o (a + k) (l.drop k) with | .good s n r => .good (c :: s) n r | .bad e p => .bad e p) := by rw [quotL_eq, h] <;> rfl
theorem quot_close {o a : Nat} {l : List UInt8} (h : inQ l = .close) : quotL o a l = .good [] (a + 1) (l.drop 1) := by rw [quotL_eq, h] <;> rfl
theorem quot_over {o a : Nat} {l : List UInt8} (h : inQ l = .over) : quotL o a l = .bad 81 o := by rw [quotL_eq, h] <;> rfl
theorem quot_bad {o a : Nat} {l : List UInt8} {e : Nat} (h : inQ l = .bad e) : quotL o a l = .bad e a := by rw [quotL_eq, h] <;> rfl
theorem inQ_close {l : List UInt8} (h : inQ l = .close) : ∃ r, l = 39 :: r ∧ r.head? ≠ some 39 := by
  cases l with
  | nil => cases h
  | cons c r =>
    rw [inQ] at h
    split at h
    · cases r with
      | nil => cases h
      | cons e r => rw [escL] at h; repeat' split at h
                    all_goals cases h
    · split at h
      · rename_i hc
        split at h
        · cases h
        · rename_i hh
          have : c = 39 := by simpa using hc
          subst this
          exact ⟨r, rfl, by simpa using hh⟩
      · split at h <;> cases h
theorem inQ_bad_pos {l : List UInt8} {e : Nat} (h : inQ l = .bad e) : 0 < l.length := by
  cases l with
  | nil => cases h
  | cons c r => simp
theorem quot_split (o a : Nat) (l : List UInt8) : ∀ {s : List UInt8} {n : Nat} {r : List UInt8}, quotL o a l = .good s n r → ∃ q, l = q ++ r ∧ n = a + q.length ∧ q ≠ [] := by
  refine quot_ind (fun a l => ∀ {s : List UInt8} {n : Nat} {r : List UInt8}, quotL o a l = .good s n r → ∃ q, l = q ++ r ∧ n = a + q.length ∧ q ≠ []) ?_ ?_ ?_ ?_ a l
  · intro a l c k hq ih s n r h
    rw [quot_byte hq] at h
    have hk := inQ_pos hq
    split at h
    · rename_i h2
      injection h with h3 h4 h5
      subst h4; subst h5
      obtain ⟨q, hq1, hq2, _⟩ := ih h2
      refine ⟨l.take k ++ q, by rw [List.append_assoc, ← hq1, List.take_append_drop], by rw [List.length_append, List.length_take, Nat.min_eq_left hk.2.2]; omega, ?_⟩
      intro h0
      have := congrArg List.length h0
      rw [List.length_append, List.length_take, Nat.min_eq_left hk.2.2] at this; simp only [List.length_nil] at this; omega
    · cases h
  · intro a l hq s n r h
    rw [quot_close hq] at h
    obtain ⟨r', rfl, _⟩ := inQ_close hq
    injection h with h3 h4 h5
    subst h4; subst h5
    exact ⟨[39], rfl, rfl, by simp⟩
  · intro a l hq s n r h; rw [quot_over hq] at h; cases h
  · intro a l e hq s n r h; rw [quot_bad hq] at h; cases h
theorem quot_shift (k o a : Nat) (l : List UInt8) : quotL (k + o) (k + a) l = (quotL o a l).up k := by
  refine quot_ind (fun a l => quotL (k + o) (k + a) l = (quotL o a l).up k) ?_ ?_ ?_ ?_ a l
  · intro a l c j hq ih
    rw [quot_byte hq, quot_byte hq, Nat.add_assoc, ih]
    cases quotL o (a + j) (l.drop j) <;> rfl
  · intro a l hq; rw [quot_close hq, quot_close hq]; rfl
  · intro a l hq; rw [quot_over hq, quot_over hq]; rfl
  · intro a l e hq; rw [quot_bad hq, quot_bad hq]; rfl
theorem quot_bad_at (o a : Nat) (l : List UInt8) : ∀ {c p : Nat}, quotL o a l = .bad c p → p = o ∨ p < a + l.length := by
  refine quot_ind (fun a l => ∀ {c p : Nat}, quotL o a l = .bad c p → p = o ∨ p < a + l.length) ?_ ?_ ?_ ?_ a l
  · intro a l c k hq ih e p h
    rw [quot_byte hq] at h
    have hk := inQ_pos hq
    split at h
    · cases h
    · rename_i h2
      injection h with h3 h4
      subst h4
      have := ih h2
      simp at this; omega
  · intro a l hq c p h; rw [quot_close hq] at h; cases h
  · intro a l hq c p h; rw [quot_over hq] at h; injection h with h1 h2; exact .inl h2.symm
  · intro a l e hq c p h; rw [quot_bad hq] at h; injection h with h1 h2; have := inQ_bad_pos hq; exact .inr (by omega)
end Go.Proofs.YtjaaoljfkbbjpaaGreatDoor
