/-
  Tokens, plain: a token is a piece of the text, and hangs on one byte behind it. No condition.
-/
import Derived.Test.YtjaaoljfkbbjpaaGreatDoorLx1
namespace Go.Proofs.YtjaaoljfkbbjpaaGreatDoor
set_option linter.unusedVariables false
set_option linter.unusedSimpArgs false

/-- Behind a token stands rest in the one text, and other in the other: of the bytes that it hangs on they have the same, or other has one that ends every token. -/
def Ends (l : List UInt8) : Prop := l = [] ∨ (∃ c r, l = c :: r ∧ (blankB c = true ∨ c = 37)) ∨ remB l = true
def Alike (l m : List UInt8) : Prop := l.head? = m.head? ∧ remB l = remB m

theorem up_up {α : Type} (k : Nat) (x : R α) {c p : Nat} : x.up k = .bad c p ↔ ∃ q, x = .bad c q ∧ p = k + q := by
  cases x with
  | bad d q => simp only [R.up]; constructor
               · intro h; injection h with h1 h2; exact ⟨q, by rw [h1], h2.symm⟩
               · rintro ⟨q', h1, h2⟩; injection h1 with h3 h4; rw [h3, h4, h2]
  | good x n r => simp [R.up]
theorem tok_nil (a : Nat) : tokL a [] = .bad 80 a := rfl
theorem name_shift (k kind a : Nat) (l : List UInt8) (n : Nat) : nameL kind (k + a) l n = (nameL kind a l n).up k := by
  unfold nameL; split
  · rfl
  · simp [R.up, Nat.add_assoc]
theorem char_shift (k a : Nat) (l : List UInt8) : charL (k + a) l = (charL a l).up k := by
  unfold charL; split
  · simp [R.up, Nat.add_assoc]
  · split <;> simp [R.up, Nat.add_assoc]
  · rfl
  · simp [R.up, Nat.add_assoc]
theorem digits_shift (k a : Nat) (l : List UInt8) : digitsL (k + a) l = (digitsL a l).up k := by
  unfold digitsL; split
  · rfl
  · simp [R.up, Nat.add_assoc]
theorem quoted_shift (k a : Nat) (l : List UInt8) : quotedL (k + a) l = (quotedL a l).up k := by
  unfold quotedL
  rw [Nat.add_assoc, quot_shift]
  cases quotL a (a + 1) (l.drop 1) with
  | bad e p => rfl
  | good s n r => simp only [R.up]; split <;> rfl
theorem one_shift (k kind a : Nat) (l : List UInt8) : oneL kind (k + a) l = (oneL kind a l).up k := by simp [oneL, R.up, Nat.add_assoc]
theorem tok_cons (a : Nat) (c : UInt8) (r : List UInt8) : tokL a (c :: r) = if smallB c then nameL 1 a (c :: r) (letLen (c :: r)) else if capB c then nameL 2 a (c :: r) (letLen (c :: r)) else if codeB (c :: r) then charL a (c :: r) else if digB c then digitsL a (c :: r) else if punctB c then oneL 4 a (c :: r) else if c == 33 || c == 59 then oneL 1 a (c :: r) else if c == 39 then quotedL a (c :: r) else if stopB (c :: r) then oneL 5 a (c :: r) else if signB c then nameL 1 a (c :: r) (signLen (c :: r)) else .bad 80 a := rfl
theorem tok_shift (k a : Nat) (l : List UInt8) : tokL (k + a) l = (tokL a l).up k := by
  cases l with
  | nil => rfl
  | cons c r =>
    rw [tok_cons, tok_cons]
    simp only [name_shift, char_shift, digits_shift, quoted_shift, one_shift]
    repeat' split
    all_goals rfl
/-- The ways of a token. -/
inductive Way where | name | var | char | digits | punct | solo | quoted | stop | signs | none
deriving DecidableEq
def way (l : List UInt8) : Way :=
  match l with
  | [] => .none
  | c :: _ => if smallB c then .name else if capB c then .var else if codeB l then .char else if digB c then .digits else if punctB c then .punct else if c == 33 || c == 59 then .solo else if c == 39 then .quoted else if stopB l then .stop else if signB c then .signs else .none
theorem way_cons (c : UInt8) (r : List UInt8) : way (c :: r) = if smallB c then .name else if capB c then .var else if codeB (c :: r) then .char else if digB c then .digits else if punctB c then .punct else if c == 33 || c == 59 then .solo else if c == 39 then .quoted else if stopB (c :: r) then .stop else if signB c then .signs else .none := rfl
def wayL (a : Nat) (l : List UInt8) : Way → R Tk
  | .name => nameL 1 a l (letLen l)
  | .var => nameL 2 a l (letLen l)
  | .char => charL a l
  | .digits => digitsL a l
  | .punct => oneL 4 a l
  | .solo => oneL 1 a l
  | .quoted => quotedL a l
  | .stop => oneL 5 a l
  | .signs => nameL 1 a l (signLen l)
  | .none => .bad 80 a
theorem tok_way (a : Nat) (l : List UInt8) : tokL a l = wayL a l (way l) := by
  cases l with
  | nil => rfl
  | cons c r =>
    rw [tok_cons, way_cons]
    repeat' (split; · rfl)
    rfl
theorem signLen_le (l : List UInt8) : signLen l ≤ l.length := by
  induction l with
  | nil => simp [signLen]
  | cons c r ih => rw [signLen]; split <;> simp <;> omega
theorem len_pos_of_way {l : List UInt8} (h : way l ≠ .none) : ∃ c r, l = c :: r := by
  cases l with
  | nil => exact absurd rfl h
  | cons c r => exact ⟨c, r, rfl⟩
theorem letLen_pos {c : UInt8} {r : List UInt8} (h : letB c = true) : 0 < letLen (c :: r) := by simp [letLen, List.takeWhile_cons, h]
theorem digLen_pos {c : UInt8} {r : List UInt8} (h : digB c = true) : 0 < digLen (c :: r) := by simp [digLen, List.takeWhile_cons, h]
theorem way_name {c : UInt8} {r : List UInt8} (h : way (c :: r) = .name) : smallB c = true := by
  rw [way_cons] at h; repeat' split at h
  all_goals first | assumption | cases h
theorem way_var {c : UInt8} {r : List UInt8} (h : way (c :: r) = .var) : capB c = true := by
  rw [way_cons] at h; repeat' split at h
  all_goals first | assumption | cases h
theorem way_digits {c : UInt8} {r : List UInt8} (h : way (c :: r) = .digits) : digB c = true := by
  rw [way_cons] at h; repeat' split at h
  all_goals first | assumption | cases h
theorem way_signs {c : UInt8} {r : List UInt8} (h : way (c :: r) = .signs) : signB c = true ∧ stopB (c :: r) = false := by
  rw [way_cons] at h; repeat' split at h
  all_goals first | (refine ⟨by assumption, ?_⟩; rename_i h1 h2; simpa using h1) | cases h
theorem way_stop {c : UInt8} {r : List UInt8} (h : way (c :: r) = .stop) : stopB (c :: r) = true := by
  rw [way_cons] at h; repeat' split at h
  all_goals first | assumption | cases h
theorem way_char {c : UInt8} {r : List UInt8} (h : way (c :: r) = .char) : codeB (c :: r) = true := by
  rw [way_cons] at h; repeat' split at h
  all_goals first | assumption | cases h
theorem way_quoted {c : UInt8} {r : List UInt8} (h : way (c :: r) = .quoted) : c = 39 := by
  rw [way_cons] at h; repeat' split at h
  all_goals first | (rename_i h1; simpa using h1) | cases h
theorem signLen_pos {c : UInt8} {r : List UInt8} (h : signB c = true) (hr : remB (c :: r) = false) : 0 < signLen (c :: r) := by
  rw [signLen, if_pos (by simp [h, hr])]; omega
/-- A token is a piece of the text, and not an empty one. -/
theorem tok_split {a : Nat} {l : List UInt8} (hr : remB l = false) {t : Tk} {n : Nat} {r : List UInt8} (h : tokL a l = .good t n r) : ∃ p, l = p ++ r ∧ n = a + p.length ∧ p ≠ [] := by
  rw [tok_way] at h
  have key : ∀ k, 0 < k → k ≤ l.length → ∃ p, l = p ++ l.drop k ∧ a + k = a + p.length ∧ p ≠ [] := by
    intro k h0 hk
    refine ⟨l.take k, (List.take_append_drop k l).symm, by rw [List.length_take, Nat.min_eq_left hk], ?_⟩
    intro h1; have := congrArg List.length h1; rw [List.length_take, Nat.min_eq_left hk] at this; simp only [List.length_nil] at this; omega
  have hname : ∀ kind k, 0 < k → k ≤ l.length → nameL kind a l k = .good t n r → ∃ p, l = p ++ r ∧ n = a + p.length ∧ p ≠ [] := by
    intro kind k h0 hk h1
    unfold nameL at h1
    split at h1
    · cases h1
    · injection h1 with h2 h3 h4; subst h3; subst h4; exact key k h0 hk
  by_cases hw : way l = .none
  · rw [hw] at h; cases h
  obtain ⟨c, q, rfl⟩ := len_pos_of_way hw
  cases hv : way (c :: q) with
  | none => exact absurd hv hw
  | name => rw [hv] at h; exact hname _ _ (letLen_pos (by simp [letB, way_name hv])) (takeWhile_len_le _ _) h
  | var => rw [hv] at h; exact hname _ _ (letLen_pos (by simp [letB, way_var hv])) (takeWhile_len_le _ _) h
  | signs => rw [hv] at h; exact hname _ _ (signLen_pos (way_signs hv).1 hr) (signLen_le _) h
  | punct => rw [hv] at h; simp only [wayL, oneL] at h; injection h with h2 h3 h4; subst h3; subst h4; exact key 1 (by decide) (by simp)
  | solo => rw [hv] at h; simp only [wayL, oneL] at h; injection h with h2 h3 h4; subst h3; subst h4; exact key 1 (by decide) (by simp)
  | stop => rw [hv] at h; simp only [wayL, oneL] at h; injection h with h2 h3 h4; subst h3; subst h4; exact key 1 (by decide) (by simp)
  | digits =>
    rw [hv] at h
    simp only [wayL, digitsL] at h
    split at h
    · cases h
    · injection h with h2 h3 h4; subst h3; subst h4; exact key _ (digLen_pos (way_digits hv)) (takeWhile_len_le _ _)
  | char =>
    rw [hv] at h
    simp only [wayL, charL] at h
    split at h
    · rename_i hq
      have := inQ_pos hq
      injection h with h2 h3 h4; subst h3; subst h4
      exact key _ (by omega) (by simp at this ⊢; omega)
    · split at h <;> cases h
    · cases h
    · cases h
  | quoted =>
    rw [hv] at h
    simp only [wayL, quotedL] at h
    split at h
    · cases h
    · rename_i hq
      obtain ⟨p, h1, h2, h3⟩ := quot_split _ _ _ hq
      split at h
      · cases h
      · injection h with h5 h6 h7; subst h6; subst h7
        refine ⟨c :: p, ?_, by rw [h2]; simp; omega, by simp⟩
        simp only [List.drop_succ_cons, List.drop_zero] at h1
        rw [h1]; rfl
end Go.Proofs.YtjaaoljfkbbjpaaGreatDoor
