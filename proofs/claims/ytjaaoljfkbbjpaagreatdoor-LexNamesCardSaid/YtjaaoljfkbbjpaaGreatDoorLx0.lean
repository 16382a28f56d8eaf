/-
  Tokens, plain: what stands next in a text, by rules on lists of bytes. No condition.
-/
import Derived.Test.YtjaaoljfkbbjpaaGreatDoorRows
namespace Go.Proofs.YtjaaoljfkbbjpaaGreatDoor
set_option linter.unusedVariables false
set_option linter.unusedSimpArgs false

def blankB (c : UInt8) : Bool := c == 9 || c == 10 || c == 13 || c == 32
def smallB (c : UInt8) : Bool := decide (97 ≤ c) && decide (c ≤ 122)
def capB (c : UInt8) : Bool := (decide (65 ≤ c) && decide (c ≤ 90)) || c == 95
def digB (c : UInt8) : Bool := decide (48 ≤ c) && decide (c ≤ 57)
def letB (c : UInt8) : Bool := smallB c || (capB c || digB c)
def signB (c : UInt8) : Bool := [43, 45, 42, 47, 92, 94, 60, 62, 61, 126, 58, 46, 63, 64, 35, 38, 36].contains c
def punctB (c : UInt8) : Bool := [40, 41, 91, 93, 123, 125, 44, 124].contains c
/-- Does a remark begin here? -/
def remB : List UInt8 → Bool
  | c :: d :: _ => c == 47 && d == 42
  | _ => false
/-- How many bytes stand ahead of the first end of a remark. -/
def remEnd : List UInt8 → Option Nat
  | [] => none
  | c :: r => if c == 42 && r.head? == some 47 then some 0 else (remEnd r).map (· + 1)
def lineLen (l : List UInt8) : Nat := (l.takeWhile (· != 10)).length

/-- What was read, where reading stands now, and what stands there; or an error at a place. -/
inductive R (α : Type) where
  | bad (c p : Nat)
  | good (x : α) (n : Nat) (r : List UInt8)
deriving DecidableEq, Repr
def R.up {α : Type} (k : Nat) : R α → R α
  | .bad c p => .bad c (k + p)
  | .good x n r => .good x (k + n) r

/-- Blanks and remarks, from a place on. -/
def skipF : Nat → Nat → List UInt8 → R Unit
  | _, a, [] => .good () a []
  | 0, a, l => .good () a l
  | f + 1, a, c :: r =>
    if blankB c then skipF f (a + 1) r
    else if c == 37 then skipF f (a + (1 + lineLen r)) (r.drop (lineLen r))
    else if remB (c :: r) then (match remEnd (r.drop 1) with | none => .bad 81 a | some k => skipF f (a + (k + 4)) (r.drop (k + 3)))
    else .good () a (c :: r)
def skipL (a : Nat) (l : List UInt8) : R Unit := skipF l.length a l
theorem skipF_fuel : ∀ (f g a : Nat) (l : List UInt8), l.length ≤ f → l.length ≤ g → skipF f a l = skipF g a l := by
  intro f
  induction f with
  | zero => intro g a l hf hg; have := List.length_eq_zero_iff.1 (Nat.le_zero.1 hf); subst this; cases g <;> rfl
  | succ f ih =>
    intro g a l hf hg
    cases l with
    | nil => cases g <;> rfl
    | cons c r =>
      cases g with
      | zero => simp at hg
      | succ g =>
        have h1 : r.length ≤ f := by simpa using hf
        have h2 : r.length ≤ g := by simpa using hg
        unfold skipF
        split
        · exact ih g _ _ h1 h2
        · split
          · exact ih g _ _ (by simp; omega) (by simp; omega)
          · split
            · split
              · rfl
              · exact ih g _ _ (by simp; omega) (by simp; omega)
            · rfl
theorem skipL_nil (a : Nat) : skipL a [] = .good () a [] := rfl
theorem skipL_cons (a : Nat) (c : UInt8) (r : List UInt8) : skipL a (c :: r) =
    if blankB c then skipL (a + 1) r
    else if c == 37 then skipL (a + (1 + lineLen r)) (r.drop (lineLen r))
    else if remB (c :: r) then (match remEnd (r.drop 1) with | none => .bad 81 a | some k => skipL (a + (k + 4)) (r.drop (k + 3)))
    else .good () a (c :: r) := by
  show skipF (r.length + 1) a (c :: r) = _
  rw [skipF]
  split
  · rfl
  · split
    · exact skipF_fuel _ _ _ _ (by simp) (by simp)
    · split
      · split
        · rfl
        · exact skipF_fuel _ _ _ _ (by simp) (by simp)
      · rfl

/-- What stands next in quotes: a byte (and how many bytes say it), the quote that ends it, nothing any more, or something wrong. -/
inductive QR where
  | byte (c : UInt8) (n : Nat)
  | close
  | over
  | bad (code : Nat)
deriving DecidableEq, Repr
def escL : List UInt8 → QR
  | [] => .over
  | c :: _ => if c == 110 then .byte 10 2 else if c == 116 then .byte 9 2 else if c == 92 || (c == 39 || c == 34) then .byte c 2 else .bad 82
def inQ : List UInt8 → QR
  | [] => .over
  | c :: r => if c == 92 then escL r else if c == 39 then (if r.head? == some 39 then .byte 39 2 else .close) else if decide (32 ≤ c) && decide (c ≤ 126) then .byte c 1 else .bad 80
theorem inQ_pos {l : List UInt8} {c : UInt8} {n : Nat} (h : inQ l = .byte c n) : 1 ≤ n ∧ n ≤ 2 ∧ n ≤ l.length := by
  cases l with
  | nil => cases h
  | cons d r =>
    rw [inQ] at h
    split at h
    · cases r with
      | nil => cases h
      | cons e r =>
        rw [escL] at h
        repeat' split at h
        all_goals first | (injection h with h1 h2; subst h2; simp) | cases h
    · split at h
      · split at h
        · rename_i hh
          cases r with
          | nil => simp at hh
          | cons e r => injection h with h1 h2; subst h2; simp
        · cases h
      · split at h
        · injection h with h1 h2; subst h2; simp
        · cases h
/-- A name in quotes, behind the first one; o: where it begins, a: where reading stands. -/
def quotF : Nat → Nat → Nat → List UInt8 → R (List UInt8)
  | 0, o, _, _ => .bad 81 o
  | f + 1, o, a, l =>
    match inQ l with
    | .byte c k => (match quotF f o (a + k) (l.drop k) with | .good s n r => .good (c :: s) n r | .bad e p => .bad e p)
    | .close => .good [] (a + 1) (l.drop 1)
    | .over => .bad 81 o
    | .bad e => .bad e a
def quotL (o a : Nat) (l : List UInt8) : R (List UInt8) := quotF (l.length + 1) o a l
theorem quotF_fuel : ∀ (f g o a : Nat) (l : List UInt8), l.length < f → l.length < g → quotF f o a l = quotF g o a l := by
  intro f
  induction f with
  | zero => intro g o a l hf; omega
  | succ f ih =>
    intro g o a l hf hg
    cases g with
    | zero => omega
    | succ g =>
      unfold quotF
      cases hq : inQ l with
      | byte c k =>
        have := inQ_pos hq
        simp only
        rw [ih g o (a + k) (l.drop k) (by simp; omega) (by simp; omega)]
      | close => rfl
      | over => rfl
      | bad e => rfl
theorem quotL_eq (o a : Nat) (l : List UInt8) : quotL o a l =
    match inQ l with
    | .byte c k => (match quotL o (a + k) (l.drop k) with | .good s n r => .good (c :: s) n r | .bad e p => .bad e p)
    | .close => .good [] (a + 1) (l.drop 1)
    | .over => .bad 81 o
    | .bad e => .bad e a := by
  show quotF (l.length + 1) o a l = _
  rw [quotF]
  cases hq : inQ l with
  | byte c k =>
    have := inQ_pos hq
    simp only
    rw [quotF_fuel l.length ((l.drop k).length + 1) o (a + k) (l.drop k) (by simp; omega) (by simp)]
    rfl
  | close => rfl
  | over => rfl
  | bad e => rfl

structure Tk where
  kind : Nat
  text : List UInt8
  int : Int
  quoted : Bool
deriving DecidableEq, Repr
def digVal (l : List UInt8) : Nat := l.foldl (fun n c => 10 * n + (c.toNat - 48)) 0
def signLen : List UInt8 → Nat
  | [] => 0
  | c :: r => if signB c && !remB (c :: r) then signLen r + 1 else 0
def letLen (l : List UInt8) : Nat := (l.takeWhile letB).length
def digLen (l : List UInt8) : Nat := (l.takeWhile digB).length
/-- Is there a full stop? -/
def stopB : List UInt8 → Bool
  | c :: r => c == 46 && (match r with | [] => true | d :: _ => blankB d || d == 37)
  | [] => false
def codeB : List UInt8 → Bool
  | c :: d :: _ => c == 48 && d == 39
  | _ => false
def nameL (kind a : Nat) (l : List UInt8) (k : Nat) : R Tk :=
  if 64 < k then .bad 2 a else .good ⟨kind, l.take k, 0, false⟩ (a + k) (l.drop k)
def charL (a : Nat) (l : List UInt8) : R Tk :=
  match inQ (l.drop 2) with
  | .byte c k => .good ⟨3, l.take (2 + k), c.toNat, false⟩ (a + (2 + k)) (l.drop (2 + k))
  | .close => if l.length = 3 then .bad 81 a else .bad 80 (a + 2)
  | .over => .bad 81 a
  | .bad e => .bad e (a + 2)
def digitsL (a : Nat) (l : List UInt8) : R Tk :=
  if 9223372036854775807 < digVal (l.take (digLen l)) then .bad 83 a else .good ⟨3, l.take (digLen l), digVal (l.take (digLen l)), false⟩ (a + digLen l) (l.drop (digLen l))
def quotedL (a : Nat) (l : List UInt8) : R Tk :=
  match quotL a (a + 1) (l.drop 1) with
  | .bad e p => .bad e p
  | .good s n r => if 64 < s.length then .bad 2 a else .good ⟨1, s, 0, true⟩ n r
def oneL (kind a : Nat) (l : List UInt8) : R Tk := .good ⟨kind, l.take 1, 0, false⟩ (a + 1) (l.drop 1)
def tokL (a : Nat) (l : List UInt8) : R Tk :=
  match l with
  | [] => .bad 80 a
  | c :: _ =>
    if smallB c then nameL 1 a l (letLen l)
    else if capB c then nameL 2 a l (letLen l)
    else if codeB l then charL a l
    else if digB c then digitsL a l
    else if punctB c then oneL 4 a l
    else if c == 33 || c == 59 then oneL 1 a l
    else if c == 39 then quotedL a l
    else if stopB l then oneL 5 a l
    else if signB c then nameL 1 a l (signLen l)
    else .bad 80 a

structure Tok where
  tk : Tk
  pos : Nat
  apart : Bool
deriving DecidableEq, Repr
/-- The tokens from a place on; e: is it the text's beginning? -/
def toksF : Nat → Nat → Bool → List UInt8 → R (List Tok)
  | 0, a, _, l => .good [] a l
  | f + 1, a, e, l =>
    match skipL a l with
    | .bad c p => .bad c p
    | .good _ n [] => .good [] n []
    | .good _ n (d :: r) =>
      match tokL n (d :: r) with
      | .bad c p => .bad c p
      | .good t m r' => (match toksF f m false r' with | .bad c p => .bad c p | .good ts x y => .good (⟨t, n, e || decide (a < n)⟩ :: ts) x y)
def toks (a : Nat) (e : Bool) (l : List UInt8) : R (List Tok) := toksF (l.length + 1) a e l
def tokens (l : List UInt8) : R (List Tok) := if 16384 < l.length then .bad 2 0 else toks 0 true l
end Go.Proofs.YtjaaoljfkbbjpaaGreatDoor
