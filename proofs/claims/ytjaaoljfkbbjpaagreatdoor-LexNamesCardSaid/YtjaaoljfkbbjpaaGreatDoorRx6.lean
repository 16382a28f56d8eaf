/-
  The document's tokens (pythiaref08): a token. No condition.
-/
import Derived.Test.YtjaaoljfkbbjpaaGreatDoorRx5
namespace Go.Proofs.YtjaaoljfkbbjpaaGreatDoor
open Go.RowKit Go.Shelf Go.Maps
set_option linter.unusedVariables false
set_option linter.unusedSimpArgs false

/-- What stands at a place, a name of any length. -/
def rtokL (a : Nat) (l : List UInt8) : R Tk :=
  match l with
  | [] => .bad 80 a
  | c :: _ =>
    if smallB c then .good ⟨1, l.take (letLen l), 0, false⟩ (a + letLen l) (l.drop (letLen l))
    else if capB c then .good ⟨2, l.take (letLen l), 0, false⟩ (a + letLen l) (l.drop (letLen l))
    else if digB c then numL a l
    else if punctB c then oneL 4 a l
    else if c == 33 || c == 59 then oneL 1 a l
    else if c == 39 then (match quotL a (a + 1) (l.drop 1) with | .bad e p => .bad e p | .good s n r => .good ⟨1, s, 0, true⟩ n r)
    else if stopB l then oneL 5 a l
    else if signB c then .good ⟨1, l.take (signLen l), 0, false⟩ (a + signLen l) (l.drop (signLen l))
    else .bad 80 a
def limL (a : Nat) : R Tk → R Tk
  | .good t n r => if t.kind ≤ 2 ∧ 64 < t.text.length then .bad 2 a else .good t n r
  | .bad c q => .bad c q
theorem charL_kind {a : Nat} {l : List UInt8} {t : Tk} {n : Nat} {r : List UInt8} (h : charL a l = .good t n r) : t.kind = 3 := by
  unfold charL at h
  split at h
  · injection h with h; subst h; rfl
  · split at h <;> cases h
  · cases h
  · cases h
theorem digitsL_kind {a : Nat} {l : List UInt8} {t : Tk} {n : Nat} {r : List UInt8} (h : digitsL a l = .good t n r) : t.kind = 3 := by
  unfold digitsL at h
  split at h
  · cases h
  · injection h with h; subst h; rfl
theorem lim_num (a : Nat) (x : R Tk) (h : ∀ t n r, x = .good t n r → t.kind = 3) : limL a x = x := by
  cases x with
  | bad c q => rfl
  | good t n r =>
    have := h t n r rfl
    exact if_neg (by omega)
theorem letLen_le (l : List UInt8) : letLen l ≤ l.length := takeWhile_len_le _ l
theorem lim_name (kind a k : Nat) (l : List UInt8) (hk : kind ≤ 2) (h : k ≤ l.length) : nameL kind a l k = limL a (.good ⟨kind, l.take k, 0, false⟩ (a + k) (l.drop k)) := by
  unfold nameL limL; simp [hk, Nat.min_eq_left h]
theorem tok_lim (a : Nat) (l : List UInt8) : tokL a l = limL a (rtokL a l) := by
  cases l with
  | nil => rfl
  | cons c r =>
    rw [tok_cons]
    unfold rtokL
    have l1 := letLen_le (c :: r)
    have l2 := signLen_le (c :: r)
    have hcode : codeB (c :: r) = true → c = 48 := by
      rcases r with _ | ⟨d, r⟩
      · intro h; cases h
      · intro h; rw [show codeB (c :: d :: r) = (c == 48 && d == 39) from rfl] at h; simp at h; exact h.1
    dsimp only
    rcases h1 : smallB c with _ | _
    rotate_left
    · simp only [if_true]
      exact lim_name _ _ _ _ (by omega) l1
    simp only [Bool.false_eq_true, if_false]
    rcases h2 : capB c with _ | _
    rotate_left
    · simp only [if_true]
      exact lim_name _ _ _ _ (by omega) l1
    simp only [Bool.false_eq_true, if_false]
    rcases h3 : codeB (c :: r) with _ | _
    rotate_left
    · have := hcode h3
      subst this
      simp only [if_true, show digB 48 = true from rfl]
      unfold numL
      rw [if_pos h3, lim_num _ _ (fun t n r h => charL_kind h)]
    simp only [Bool.false_eq_true, if_false]
    rcases h4 : digB c with _ | _
    rotate_left
    · simp only [if_true]
      unfold numL
      rw [if_neg (by rw [h3]; simp), lim_num _ _ (fun t n r h => digitsL_kind h)]
    simp only [Bool.false_eq_true, if_false]
    rcases h5 : punctB c with _ | _
    rotate_left
    · simp [oneL, limL]
    simp only [Bool.false_eq_true, if_false]
    rcases h6 : (c == 33 || c == 59) with _ | _
    rotate_left
    · simp [oneL, limL]
    simp only [Bool.false_eq_true, if_false]
    rcases h7 : (c == 39) with _ | _
    rotate_left
    · simp only [if_true]
      unfold quotedL
      cases quotL a (a + 1) ((c :: r).drop 1) <;> simp [limL]
    simp only [Bool.false_eq_true, if_false]
    rcases h8 : stopB (c :: r) with _ | _
    rotate_left
    · simp [oneL, limL]
    simp only [Bool.false_eq_true, if_false]
    rcases h9 : signB c with _ | _
    rotate_left
    · simp only [if_true]
      exact lim_name _ _ _ _ (by omega) l2
    simp only [Bool.false_eq_true, if_false]
    rfl
/-- What the document's token answers. -/
def TokP (a : Nat) (x : R Tk) (w : World) (e : Ending) (w' : World) : Prop := ∃ (k : Int) (tx : List UInt8) (i : Int) (qd : Bool) (to c q : Int),
  e = .returned (.tuple #[.agg #[.int .i64 k, .string (str tx), .int .i64 i, .int .i64 a, .bool qd, .bool false], .int .i64 to, .agg #[.int .i64 c, .int .i64 q]]) ∧ Keep (· < w.heap.size) w w' ∧
  match x with | .good t m _ => c = 0 ∧ q = 0 ∧ k = t.kind ∧ tx = t.text ∧ i = t.int ∧ qd = t.quoted ∧ to = m | .bad c' q' => c = c' ∧ q = q' ∧ c' ≠ 0
end Go.Proofs.YtjaaoljfkbbjpaaGreatDoor
