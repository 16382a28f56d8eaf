/-
  Tokens, plain: what stands next in a text, by rules on lists of bytes. No condition.
-/
import Derived.Test.YtfkbbbjicaedmaaGreatDoorRows
namespace Go.Proofs.YtfkbbbjicaedmaaGreatDoor
set_option linter.unusedVariables false
set_option linter.unusedSimpArgs false
def blankB (c : UInt8) : Bool := c == 9 || c == 10 || c == 13 || c == 32
def smallB (c : UInt8) : Bool := decide (97 ≤ c) && decide (c ≤ 122)
def capB (c : UInt8) : Bool := (decide (65 ≤ c) && decide (c ≤ 90)) || c == 95
def digB (c : UInt8) : Bool := decide (48 ≤ c) && decide (c ≤ 57)
def letB (c : UInt8) : Bool := smallB c || (capB c || digB c)
def signB (c : UInt8) : Bool := [43, 45, 42, 47, 92, 94, 60, 62, 61, 126, 58, 46, 63, 64, 35, 38, 36].contains c
def punctB (c : UInt8) : Bool := [40, 41, 91, 93, 123, 125, 44, 124].contains c
def remB : List UInt8 → Bool
  | c :: d :: _ => c == 47 && d == 42
  | _ => false
def remEnd : List UInt8 → Option Nat
  | [] => none
  | c :: r => if c == 42 && r.head? == some 47 then some 0 else (remEnd r).map (· + 1)
def lineLen (l : List UInt8) : Nat := (l.takeWhile (· != 10)).length
inductive R (α : Type) where
  | bad (c p : Nat)
  | good (x : α) (n : Nat) (r : List UInt8)
deriving DecidableEq, Repr
def R.up {α : Type} (k : Nat) : R α → R α
  | .bad c p => .bad c (k + p)
  | .good x n r => .good x (k + n) r
def skipF : Nat → Nat → List UInt8 → R Unit
  | _, a, [] => .good () a []
  | 0, a, l => .good () a l
  | f + 1, a, c :: r =>
    if blankB c then skipF f (a + 1) r
    else if c == 37 then skipF f (a + (1 + lineLen r)) (r.drop (lineLen r))
    else if remB (c :: r) then (match remEnd (r.drop 1) with | none => .bad 81 a | some k => skipF f (a + (k + 4)) (r.drop (k + 3)))
    else .good () a (c :: r)
def skipL (a : Nat) (l : List UInt8) : R Unit := skipF l.length a l
theorem skipF_fuel : ∀ (f g a : Nat) (l : List UInt8), l.length ≤ f → l.length ≤ g → skipF f a l = skipF g a l := by
  intro f
  induction f with
  | zero => intro g a l hf hg; have := List.length_eq_zero_iff.1 (Nat.le_zero.1 hf); subst this; cases g <;> rfl
  | succ f ih =>
    intro g a l hf hg
    cases l with
    | nil => cases g <;> rfl
    | cons c r =>
      cases g with
      | zero => simp at hg
      | succ g =>
        have h1 : r.length ≤ f := by simpa using hf
        have h2 : r.length ≤ g := by simpa using hg
        unfold skipF
        split
        · exact ih g _ _ h1 h2
        · split
          · exact ih g _ _ (by simp; omega) (by simp; omega)
          · split
            · split
              · rfl
              · exact ih g _ _ (by simp; omega) (by simp; omega)
            · rfl
theorem skipL_nil (a : Nat) : skipL a [] = .good () a [] := rfl
theorem skipL_cons (a : Nat) (c : UInt8) (r : List UInt8) : skipL a (c :: r) =
    if blankB c then skipL (a + 1) r
    else if c == 37 then skipL (a + (1 + lineLen r)) (r.drop (lineLen r))
    else if remB (c :: r) then (match remEnd (r.drop 1) with | none => .bad 81 a | some k => skipL (a + (k + 4)) (r.drop (k + 3)))
    else .good () a (c :: r) := by
  show skipF (r.length + 1) a (c :: r) = _
  rw [skipF]
  split
  · rfl
  · split
    · exact skipF_fuel _ _ _ _ (by simp) (by simp)
    · split
      · split
        · rfl
        · exact skipF_fuel _ _ _ _ (by simp) (by simp)
      · rfl
inductive QR where
  | byte (c : UInt8) (n : Nat)
  | close
  | over
  | bad (code : Nat)
deriving DecidableEq, Repr
def escL : List UInt8 → QR
  | [] => .over
  | c :: _ => if c == 110 then .byte 10 2 else if c == 116 then .byte 9 2 else if c == 92 || (c == 39 || c == 34) then .byte c 2 else .bad 82
def inQ : List UInt8 → QR
  | [] => .over
  | c :: r => if c == 92 then escL r else if c == 39 then (if r.head? == some 39 then .byte 39 2 else .close) else if decide (32 ≤ c) && decide (c ≤ 126) then .byte c 1 else .bad 80
theorem inQ_pos {l : List UInt8} {c : UInt8} {n : Nat} (h : inQ l = .byte c n) : 1 ≤ n ∧ n ≤ 2 ∧ n ≤ l.length := by
  cases l with
  | nil => cases h
  | cons d r =>
    rw [inQ] at h
    split at h
    · cases r with
      | nil => cases h
      | cons e r =>
        rw [escL] at h
        repeat' split at h
        all_goals first | (injection h with h1 h2; subst h2; simp) | cases h
    · split at h
      · split at h
        · rename_i hh
          cases r with
          | nil => simp at hh
          | cons e r => injection h with h1 h2; subst h2; simp
        · cases h
      · split at h
        · injection h with h1 h2; subst h2; simp
        · cases h
def quotF : Nat → Nat → Nat → List UInt8 → R (List UInt8)
  | 0, o, _, _ => .bad 81 o
  | f + 1, o, a, l =>
    match inQ l with
    | .byte c k => (match quotF f o (a + k) (l.drop k) with | .good s n r => .good (c :: s) n r | .bad e p => .bad e p)
    | .close => .good [] (a + 1) (l.drop 1)
    | .over => .bad 81 o
    | .bad e => .bad e a
def quotL (o a : Nat) (l : List UInt8) : R (List UInt8) := quotF (l.length + 1) o a l
theorem quotF_fuel : ∀ (f g o a : Nat) (l : List UInt8), l.length < f → l.length < g → quotF f o a l = quotF g o a l := by
  intro f
  induction f with
  | zero => intro g o a l hf; omega
  | succ f ih =>
    intro g o a l hf hg
    cases g with
    | zero => omega
    | succ g =>
      unfold quotF
      cases hq : inQ l with
      | byte c k =>
        have := inQ_pos hq
        simp only
        rw [ih g o (a + k) (l.drop k) (by simp; omega) (by simp; omega)]
      | close => rfl
      | over => rfl
      | bad e => rfl
theorem quotL_eq (o a : Nat) (l : List UInt8) : quotL o a l =
    match inQ l with
    | .byte c k => (match quotL o (a + k) (l.drop k) with | .good s n r => .good (c :: s) n r | .bad e p => .bad e p)
    | .close => .good [] (a + 1) (l.drop 1)
    | .over => .bad 81 o
    | .bad e => .bad e a := by
  show quotF (l.length + 1) o a l = _
  rw [quotF]
  cases hq : inQ l with
  | byte c k =>
    have := inQ_pos hq
    simp only
    rw [quotF_fuel l.length ((l.drop k).length + 1) o (a + k) (l.drop k) (by simp; omega) (by simp)]
    rfl
  | close => rfl
  | over => rfl
  | bad e => rfl
structure Tk where
  kind : Nat
  text : List UInt8
  int : Int
  quoted : Bool
deriving DecidableEq, Repr
def digVal (l : List UInt8) : Nat := l.foldl (fun n c => 10 * n + (c.toNat - 48)) 0
def signLen : List UInt8 → Nat
  | [] => 0
  | c :: r => if signB c && !remB (c :: r) then signLen r + 1 else 0
def letLen (l : List UInt8) : Nat := (l.takeWhile letB).length
def digLen (l : List UInt8) : Nat := (l.takeWhile digB).length
def stopB : List UInt8 → Bool
  | c :: r => c == 46 && (match r with | [] => true | d :: _ => blankB d || d == 37)
  | [] => false
def codeB : List UInt8 → Bool
  | c :: d :: _ => c == 48 && d == 39
  | _ => false
def nameL (kind a : Nat) (l : List UInt8) (k : Nat) : R Tk :=
  if 64 < k then .bad 2 a else .good ⟨kind, l.take k, 0, false⟩ (a + k) (l.drop k)
def charL (a : Nat) (l : List UInt8) : R Tk :=
  match inQ (l.drop 2) with
  | .byte c k => .good ⟨3, l.take (2 + k), c.toNat, false⟩ (a + (2 + k)) (l.drop (2 + k))
  | .close => if l.length = 3 then .bad 81 a else .bad 80 (a + 2)
  | .over => .bad 81 a
  | .bad e => .bad e (a + 2)
def digitsL (a : Nat) (l : List UInt8) : R Tk :=
  if 9223372036854775807 < digVal (l.take (digLen l)) then .bad 83 a else .good ⟨3, l.take (digLen l), digVal (l.take (digLen l)), false⟩ (a + digLen l) (l.drop (digLen l))
def quotedL (a : Nat) (l : List UInt8) : R Tk :=
  match quotL a (a + 1) (l.drop 1) with
  | .bad e p => .bad e p
  | .good s n r => if 64 < s.length then .bad 2 a else .good ⟨1, s, 0, true⟩ n r
def oneL (kind a : Nat) (l : List UInt8) : R Tk := .good ⟨kind, l.take 1, 0, false⟩ (a + 1) (l.drop 1)
def tokL (a : Nat) (l : List UInt8) : R Tk :=
  match l with
  | [] => .bad 80 a
  | c :: _ =>
    if smallB c then nameL 1 a l (letLen l)
    else if capB c then nameL 2 a l (letLen l)
    else if codeB l then charL a l
    else if digB c then digitsL a l
    else if punctB c then oneL 4 a l
    else if c == 33 || c == 59 then oneL 1 a l
    else if c == 39 then quotedL a l
    else if stopB l then oneL 5 a l
    else if signB c then nameL 1 a l (signLen l)
    else .bad 80 a
structure Tok where
  tk : Tk
  pos : Nat
  apart : Bool
deriving DecidableEq, Repr
def toksF : Nat → Nat → Bool → List UInt8 → R (List Tok)
  | 0, a, _, l => .good [] a l
  | f + 1, a, e, l =>
    match skipL a l with
    | .bad c p => .bad c p
    | .good _ n [] => .good [] n []
    | .good _ n (d :: r) =>
      match tokL n (d :: r) with
      | .bad c p => .bad c p
      | .good t m r' => (match toksF f m false r' with | .bad c p => .bad c p | .good ts x y => .good (⟨t, n, e || decide (a < n)⟩ :: ts) x y)
def toks (a : Nat) (e : Bool) (l : List UInt8) : R (List Tok) := toksF (l.length + 1) a e l
def tokens (l : List UInt8) : R (List Tok) := if 16384 < l.length then .bad 2 0 else toks 0 true l
end Go.Proofs.YtfkbbbjicaedmaaGreatDoor
namespace Go.Proofs.YtfkbbbjicaedmaaGreatDoor
set_option linter.unusedVariables false
set_option linter.unusedSimpArgs false
theorem skip_ind (P : Nat → List UInt8 → Prop)
    (hnil : ∀ a, P a [])
    (hblank : ∀ a c r, blankB c = true → P (a + 1) r → P a (c :: r))
    (hline : ∀ a c r, blankB c = false → c = 37 → P (a + (1 + lineLen r)) (r.drop (lineLen r)) → P a (c :: r))
    (hopen : ∀ a c r, blankB c = false → c ≠ 37 → remB (c :: r) = true → remEnd (r.drop 1) = none → P a (c :: r))
    (hrem : ∀ a c r k, blankB c = false → c ≠ 37 → remB (c :: r) = true → remEnd (r.drop 1) = some k → P (a + (k + 4)) (r.drop (k + 3)) → P a (c :: r))
    (hend : ∀ a c r, blankB c = false → c ≠ 37 → remB (c :: r) = false → P a (c :: r)) (a : Nat) (l : List UInt8) : P a l := by
  generalize hf : l.length = f
  have hle : l.length ≤ f := by omega
  clear hf
  induction f generalizing a l with
  | zero => have := List.length_eq_zero_iff.1 (Nat.le_zero.1 hle); subst this; exact hnil a
  | succ f ih =>
    cases l with
    | nil => exact hnil a
    | cons c r =>
      have h1 : r.length ≤ f := by simpa using hle
      cases hb : blankB c with
      | true => exact hblank a c r hb (ih _ _ h1)
      | false =>
        by_cases hc : c = 37
        · exact hline a c r hb hc (ih _ _ (by simp; omega))
        · cases hr : remB (c :: r) with
          | false => exact hend a c r hb hc hr
          | true =>
            cases he : remEnd (r.drop 1) with
            | none => exact hopen a c r hb hc hr he
            | some k => exact hrem a c r k hb hc hr he (ih _ _ (by simp; omega))
theorem skip_blank {a : Nat} {c : UInt8} {r : List UInt8} (h : blankB c = true) : skipL a (c :: r) = skipL (a + 1) r := by rw [skipL_cons, if_pos h]
theorem skip_line {a : Nat} {c : UInt8} {r : List UInt8} (h : blankB c = false) (hc : c = 37) : skipL a (c :: r) = skipL (a + (1 + lineLen r)) (r.drop (lineLen r)) := by
  rw [skipL_cons, if_neg (by simp [h]), if_pos (by simp [hc])]
theorem skip_open {a : Nat} {c : UInt8} {r : List UInt8} (h : blankB c = false) (hc : c ≠ 37) (hr : remB (c :: r) = true) (he : remEnd (r.drop 1) = none) : skipL a (c :: r) = .bad 81 a := by
  rw [skipL_cons, if_neg (by simp [h]), if_neg (by simp [hc]), if_pos hr, he]
theorem skip_rem {a k : Nat} {c : UInt8} {r : List UInt8} (h : blankB c = false) (hc : c ≠ 37) (hr : remB (c :: r) = true) (he : remEnd (r.drop 1) = some k) : skipL a (c :: r) = skipL (a + (k + 4)) (r.drop (k + 3)) := by
  rw [skipL_cons, if_neg (by simp [h]), if_neg (by simp [hc]), if_pos hr, he]
theorem skip_end {a : Nat} {c : UInt8} {r : List UInt8} (h : blankB c = false) (hc : c ≠ 37) (hr : remB (c :: r) = false) : skipL a (c :: r) = .good () a (c :: r) := by
  rw [skipL_cons, if_neg (by simp [h]), if_neg (by simp [hc]), if_neg (by simp [hr])]
theorem remEnd_lt {l : List UInt8} {k : Nat} (h : remEnd l = some k) : k + 2 ≤ l.length := by
  induction l generalizing k with
  | nil => cases h
  | cons c r ih =>
    rw [remEnd] at h
    split at h
    · rename_i hc
      cases h
      cases r with
      | nil => simp at hc
      | cons d r => simp
    · obtain ⟨j, hj, rfl⟩ := Option.map_eq_some_iff.1 h
      have := ih hj
      simp; omega
theorem takeWhile_len_le (p : UInt8 → Bool) (l : List UInt8) : (l.takeWhile p).length ≤ l.length := by
  induction l with
  | nil => simp
  | cons c r ih => simp only [List.takeWhile_cons]; split <;> simp <;> omega
theorem lineLen_le (l : List UInt8) : lineLen l ≤ l.length := takeWhile_len_le _ l
theorem skip_split (a : Nat) (l : List UInt8) : ∀ {x : Unit} {n : Nat} {r : List UInt8}, skipL a l = .good x n r → ∃ s, l = s ++ r ∧ n = a + s.length := by
  refine skip_ind (fun a l => ∀ {x : Unit} {n : Nat} {r : List UInt8}, skipL a l = .good x n r → ∃ s, l = s ++ r ∧ n = a + s.length) ?_ ?_ ?_ ?_ ?_ ?_ a l
  · intro a x n r h; rw [skipL_nil] at h; injection h with h1 h2 h3; subst h2; subst h3; exact ⟨[], rfl, by simp⟩
  · intro a c r hb ih x n q h
    rw [skip_blank hb] at h
    obtain ⟨s, hs, hn⟩ := ih h
    exact ⟨c :: s, by rw [hs]; rfl, by simp; omega⟩
  · intro a c r hb hc ih x n q h
    rw [skip_line hb hc] at h
    obtain ⟨s, hs, hn⟩ := ih h
    refine ⟨c :: (r.take (lineLen r) ++ s), ?_, ?_⟩
    · rw [List.cons_append, List.append_assoc, ← hs, List.take_append_drop]
    · have := lineLen_le r; simp; omega
  · intro a c r hb hc hr he x n q h
    rw [skip_open hb hc hr he] at h; cases h
  · intro a c r k hb hc hr he ih x n q h
    rw [skip_rem hb hc hr he] at h
    obtain ⟨s, hs, hn⟩ := ih h
    have hk := remEnd_lt he
    refine ⟨c :: (r.take (k + 3) ++ s), ?_, ?_⟩
    · rw [List.cons_append, List.append_assoc, ← hs, List.take_append_drop]
    · simp at hk; simp; omega
  · intro a c r hb hc hr x n q h
    rw [skip_end hb hc hr] at h; injection h with h1 h2 h3; subst h2; subst h3; exact ⟨[], rfl, by simp⟩
theorem skip_stop (a : Nat) (l : List UInt8) : ∀ {x : Unit} {n : Nat} {c : UInt8} {r : List UInt8}, skipL a l = .good x n (c :: r) → blankB c = false ∧ c ≠ 37 ∧ remB (c :: r) = false := by
  refine skip_ind (fun a l => ∀ {x : Unit} {n : Nat} {c : UInt8} {r : List UInt8}, skipL a l = .good x n (c :: r) → blankB c = false ∧ c ≠ 37 ∧ remB (c :: r) = false) ?_ ?_ ?_ ?_ ?_ ?_ a l
  · intro a x n c r h; rw [skipL_nil] at h; injection h with h1 h2 h3; cases h3
  · intro a c r hb ih x n d q h; rw [skip_blank hb] at h; exact ih h
  · intro a c r hb hc ih x n d q h; rw [skip_line hb hc] at h; exact ih h
  · intro a c r hb hc hr he x n d q h; rw [skip_open hb hc hr he] at h; cases h
  · intro a c r k hb hc hr he ih x n d q h; rw [skip_rem hb hc hr he] at h; exact ih h
  · intro a c r hb hc hr x n d q h
    rw [skip_end hb hc hr] at h; injection h with h1 h2 h3; cases h3; exact ⟨hb, hc, hr⟩
theorem skip_shift (k : Nat) (a : Nat) (l : List UInt8) : skipL (k + a) l = (skipL a l).up k := by
  refine skip_ind (fun a l => skipL (k + a) l = (skipL a l).up k) ?_ ?_ ?_ ?_ ?_ ?_ a l
  · intro a; rfl
  · intro a c r hb ih; rw [skip_blank hb, skip_blank hb, ← ih, Nat.add_assoc]
  · intro a c r hb hc ih; rw [skip_line hb hc, skip_line hb hc, ← ih, Nat.add_assoc]
  · intro a c r hb hc hr he; rw [skip_open hb hc hr he, skip_open hb hc hr he]; rfl
  · intro a c r j hb hc hr he ih; rw [skip_rem hb hc hr he, skip_rem hb hc hr he, ← ih, Nat.add_assoc]
  · intro a c r hb hc hr; rw [skip_end hb hc hr, skip_end hb hc hr]; rfl
theorem quot_ind (P : Nat → List UInt8 → Prop)
    (hbyte : ∀ a l c k, inQ l = .byte c k → P (a + k) (l.drop k) → P a l)
    (hclose : ∀ a l, inQ l = .close → P a l)
    (hover : ∀ a l, inQ l = .over → P a l)
    (hbad : ∀ a l e, inQ l = .bad e → P a l) (a : Nat) (l : List UInt8) : P a l := by
  generalize hf : l.length = f
  have hle : l.length ≤ f := by omega
  clear hf
  induction f generalizing a l with
  | zero => have := List.length_eq_zero_iff.1 (Nat.le_zero.1 hle); subst this; exact hover a [] rfl
  | succ f ih =>
    cases hq : inQ l with
    | byte c k => have := inQ_pos hq; exact hbyte a l c k hq (ih _ _ (by simp; omega))
    | close => exact hclose a l hq
    | over => exact hover a l hq
    | bad e => exact hbad a l e hq
theorem quot_byte {o a : Nat} {l : List UInt8} {c : UInt8} {k : Nat} (h : inQ l = .byte c k) : quotL o a l = (match quotL o (a + k) (l.drop k) with | .good s n r => .good (c :: s) n r | .bad e p => .bad e p) := by rw [quotL_eq, h] <;> rfl
theorem quot_close {o a : Nat} {l : List UInt8} (h : inQ l = .close) : quotL o a l = .good [] (a + 1) (l.drop 1) := by rw [quotL_eq, h] <;> rfl
theorem quot_over {o a : Nat} {l : List UInt8} (h : inQ l = .over) : quotL o a l = .bad 81 o := by rw [quotL_eq, h] <;> rfl
theorem quot_bad {o a : Nat} {l : List UInt8} {e : Nat} (h : inQ l = .bad e) : quotL o a l = .bad e a := by rw [quotL_eq, h] <;> rfl
theorem inQ_close {l : List UInt8} (h : inQ l = .close) : ∃ r, l = 39 :: r ∧ r.head? ≠ some 39 := by
  cases l with
  | nil => cases h
  | cons c r =>
    rw [inQ] at h
    split at h
    · cases r with
      | nil => cases h
      | cons e r => rw [escL] at h; repeat' split at h
                    all_goals cases h
    · split at h
      · rename_i hc
        split at h
        · cases h
        · rename_i hh
          have : c = 39 := by simpa using hc
          subst this
          exact ⟨r, rfl, by simpa using hh⟩
      · split at h <;> cases h
theorem quot_split (o a : Nat) (l : List UInt8) : ∀ {s : List UInt8} {n : Nat} {r : List UInt8}, quotL o a l = .good s n r → ∃ q, l = q ++ r ∧ n = a + q.length ∧ q ≠ [] := by
  refine quot_ind (fun a l => ∀ {s : List UInt8} {n : Nat} {r : List UInt8}, quotL o a l = .good s n r → ∃ q, l = q ++ r ∧ n = a + q.length ∧ q ≠ []) ?_ ?_ ?_ ?_ a l
  · intro a l c k hq ih s n r h
    rw [quot_byte hq] at h
    have hk := inQ_pos hq
    split at h
    · rename_i h2
      injection h with h3 h4 h5
      subst h4; subst h5
      obtain ⟨q, hq1, hq2, _⟩ := ih h2
      refine ⟨l.take k ++ q, by rw [List.append_assoc, ← hq1, List.take_append_drop], by rw [List.length_append, List.length_take, Nat.min_eq_left hk.2.2]; omega, ?_⟩
      intro h0
      have := congrArg List.length h0
      rw [List.length_append, List.length_take, Nat.min_eq_left hk.2.2] at this; simp only [List.length_nil] at this; omega
    · cases h
  · intro a l hq s n r h
    rw [quot_close hq] at h
    obtain ⟨r', rfl, _⟩ := inQ_close hq
    injection h with h3 h4 h5
    subst h4; subst h5
    exact ⟨[39], rfl, rfl, by simp⟩
  · intro a l hq s n r h; rw [quot_over hq] at h; cases h
  · intro a l e hq s n r h; rw [quot_bad hq] at h; cases h
theorem quot_shift (k o a : Nat) (l : List UInt8) : quotL (k + o) (k + a) l = (quotL o a l).up k := by
  refine quot_ind (fun a l => quotL (k + o) (k + a) l = (quotL o a l).up k) ?_ ?_ ?_ ?_ a l
  · intro a l c j hq ih
    rw [quot_byte hq, quot_byte hq, Nat.add_assoc, ih]
    cases quotL o (a + j) (l.drop j) <;> rfl
  · intro a l hq; rw [quot_close hq, quot_close hq]; rfl
  · intro a l hq; rw [quot_over hq, quot_over hq]; rfl
  · intro a l e hq; rw [quot_bad hq, quot_bad hq]; rfl
end Go.Proofs.YtfkbbbjicaedmaaGreatDoor
namespace Go.Proofs.YtfkbbbjicaedmaaGreatDoor
set_option linter.unusedVariables false
set_option linter.unusedSimpArgs false
theorem name_shift (k kind a : Nat) (l : List UInt8) (n : Nat) : nameL kind (k + a) l n = (nameL kind a l n).up k := by
  unfold nameL; split
  · rfl
  · simp [R.up, Nat.add_assoc]
theorem char_shift (k a : Nat) (l : List UInt8) : charL (k + a) l = (charL a l).up k := by
  unfold charL; split
  · simp [R.up, Nat.add_assoc]
  · split <;> simp [R.up, Nat.add_assoc]
  · rfl
  · simp [R.up, Nat.add_assoc]
theorem digits_shift (k a : Nat) (l : List UInt8) : digitsL (k + a) l = (digitsL a l).up k := by
  unfold digitsL; split
  · rfl
  · simp [R.up, Nat.add_assoc]
theorem quoted_shift (k a : Nat) (l : List UInt8) : quotedL (k + a) l = (quotedL a l).up k := by
  unfold quotedL
  rw [Nat.add_assoc, quot_shift]
  cases quotL a (a + 1) (l.drop 1) with
  | bad e p => rfl
  | good s n r => simp only [R.up]; split <;> rfl
theorem one_shift (k kind a : Nat) (l : List UInt8) : oneL kind (k + a) l = (oneL kind a l).up k := by simp [oneL, R.up, Nat.add_assoc]
theorem tok_cons (a : Nat) (c : UInt8) (r : List UInt8) : tokL a (c :: r) = if smallB c then nameL 1 a (c :: r) (letLen (c :: r)) else if capB c then nameL 2 a (c :: r) (letLen (c :: r)) else if codeB (c :: r) then charL a (c :: r) else if digB c then digitsL a (c :: r) else if punctB c then oneL 4 a (c :: r) else if c == 33 || c == 59 then oneL 1 a (c :: r) else if c == 39 then quotedL a (c :: r) else if stopB (c :: r) then oneL 5 a (c :: r) else if signB c then nameL 1 a (c :: r) (signLen (c :: r)) else .bad 80 a := rfl
theorem tok_shift (k a : Nat) (l : List UInt8) : tokL (k + a) l = (tokL a l).up k := by
  cases l with
  | nil => rfl
  | cons c r =>
    rw [tok_cons, tok_cons]
    simp only [name_shift, char_shift, digits_shift, quoted_shift, one_shift]
    repeat' split
    all_goals rfl
inductive Way where | name | var | char | digits | punct | solo | quoted | stop | signs | none
deriving DecidableEq
def way (l : List UInt8) : Way :=
  match l with
  | [] => .none
  | c :: _ => if smallB c then .name else if capB c then .var else if codeB l then .char else if digB c then .digits else if punctB c then .punct else if c == 33 || c == 59 then .solo else if c == 39 then .quoted else if stopB l then .stop else if signB c then .signs else .none
theorem way_cons (c : UInt8) (r : List UInt8) : way (c :: r) = if smallB c then .name else if capB c then .var else if codeB (c :: r) then .char else if digB c then .digits else if punctB c then .punct else if c == 33 || c == 59 then .solo else if c == 39 then .quoted else if stopB (c :: r) then .stop else if signB c then .signs else .none := rfl
def wayL (a : Nat) (l : List UInt8) : Way → R Tk
  | .name => nameL 1 a l (letLen l)
  | .var => nameL 2 a l (letLen l)
  | .char => charL a l
  | .digits => digitsL a l
  | .punct => oneL 4 a l
  | .solo => oneL 1 a l
  | .quoted => quotedL a l
  | .stop => oneL 5 a l
  | .signs => nameL 1 a l (signLen l)
  | .none => .bad 80 a
theorem tok_way (a : Nat) (l : List UInt8) : tokL a l = wayL a l (way l) := by
  cases l with
  | nil => rfl
  | cons c r =>
    rw [tok_cons, way_cons]
    repeat' (split; · rfl)
    rfl
theorem signLen_le (l : List UInt8) : signLen l ≤ l.length := by
  induction l with
  | nil => simp [signLen]
  | cons c r ih => rw [signLen]; split <;> simp <;> omega
theorem len_pos_of_way {l : List UInt8} (h : way l ≠ .none) : ∃ c r, l = c :: r := by
  cases l with
  | nil => exact absurd rfl h
  | cons c r => exact ⟨c, r, rfl⟩
theorem letLen_pos {c : UInt8} {r : List UInt8} (h : letB c = true) : 0 < letLen (c :: r) := by simp [letLen, List.takeWhile_cons, h]
theorem digLen_pos {c : UInt8} {r : List UInt8} (h : digB c = true) : 0 < digLen (c :: r) := by simp [digLen, List.takeWhile_cons, h]
theorem way_name {c : UInt8} {r : List UInt8} (h : way (c :: r) = .name) : smallB c = true := by
  rw [way_cons] at h; repeat' split at h
  all_goals first | assumption | cases h
theorem way_var {c : UInt8} {r : List UInt8} (h : way (c :: r) = .var) : capB c = true := by
  rw [way_cons] at h; repeat' split at h
  all_goals first | assumption | cases h
theorem way_digits {c : UInt8} {r : List UInt8} (h : way (c :: r) = .digits) : digB c = true := by
  rw [way_cons] at h; repeat' split at h
  all_goals first | assumption | cases h
theorem way_signs {c : UInt8} {r : List UInt8} (h : way (c :: r) = .signs) : signB c = true ∧ stopB (c :: r) = false := by
  rw [way_cons] at h; repeat' split at h
  all_goals first | (refine ⟨by assumption, ?_⟩; rename_i h1 h2; simpa using h1) | cases h
theorem way_quoted {c : UInt8} {r : List UInt8} (h : way (c :: r) = .quoted) : c = 39 := by
  rw [way_cons] at h; repeat' split at h
  all_goals first | (rename_i h1; simpa using h1) | cases h
theorem signLen_pos {c : UInt8} {r : List UInt8} (h : signB c = true) (hr : remB (c :: r) = false) : 0 < signLen (c :: r) := by
  rw [signLen, if_pos (by simp [h, hr])]; omega
theorem tok_split {a : Nat} {l : List UInt8} (hr : remB l = false) {t : Tk} {n : Nat} {r : List UInt8} (h : tokL a l = .good t n r) : ∃ p, l = p ++ r ∧ n = a + p.length ∧ p ≠ [] := by
  rw [tok_way] at h
  have key : ∀ k, 0 < k → k ≤ l.length → ∃ p, l = p ++ l.drop k ∧ a + k = a + p.length ∧ p ≠ [] := by
    intro k h0 hk
    refine ⟨l.take k, (List.take_append_drop k l).symm, by rw [List.length_take, Nat.min_eq_left hk], ?_⟩
    intro h1; have := congrArg List.length h1; rw [List.length_take, Nat.min_eq_left hk] at this; simp only [List.length_nil] at this; omega
  have hname : ∀ kind k, 0 < k → k ≤ l.length → nameL kind a l k = .good t n r → ∃ p, l = p ++ r ∧ n = a + p.length ∧ p ≠ [] := by
    intro kind k h0 hk h1
    unfold nameL at h1
    split at h1
    · cases h1
    · injection h1 with h2 h3 h4; subst h3; subst h4; exact key k h0 hk
  by_cases hw : way l = .none
  · rw [hw] at h; cases h
  obtain ⟨c, q, rfl⟩ := len_pos_of_way hw
  cases hv : way (c :: q) with
  | none => exact absurd hv hw
  | name => rw [hv] at h; exact hname _ _ (letLen_pos (by simp [letB, way_name hv])) (takeWhile_len_le _ _) h
  | var => rw [hv] at h; exact hname _ _ (letLen_pos (by simp [letB, way_var hv])) (takeWhile_len_le _ _) h
  | signs => rw [hv] at h; exact hname _ _ (signLen_pos (way_signs hv).1 hr) (signLen_le _) h
  | punct => rw [hv] at h; simp only [wayL, oneL] at h; injection h with h2 h3 h4; subst h3; subst h4; exact key 1 (by decide) (by simp)
  | solo => rw [hv] at h; simp only [wayL, oneL] at h; injection h with h2 h3 h4; subst h3; subst h4; exact key 1 (by decide) (by simp)
  | stop => rw [hv] at h; simp only [wayL, oneL] at h; injection h with h2 h3 h4; subst h3; subst h4; exact key 1 (by decide) (by simp)
  | digits =>
    rw [hv] at h
    simp only [wayL, digitsL] at h
    split at h
    · cases h
    · injection h with h2 h3 h4; subst h3; subst h4; exact key _ (digLen_pos (way_digits hv)) (takeWhile_len_le _ _)
  | char =>
    rw [hv] at h
    simp only [wayL, charL] at h
    split at h
    · rename_i hq
      have := inQ_pos hq
      injection h with h2 h3 h4; subst h3; subst h4
      exact key _ (by omega) (by simp at this ⊢; omega)
    · split at h <;> cases h
    · cases h
    · cases h
  | quoted =>
    rw [hv] at h
    simp only [wayL, quotedL] at h
    split at h
    · cases h
    · rename_i hq
      obtain ⟨p, h1, h2, h3⟩ := quot_split _ _ _ hq
      split at h
      · cases h
      · injection h with h5 h6 h7; subst h6; subst h7
        refine ⟨c :: p, ?_, by rw [h2]; simp; omega, by simp⟩
        simp only [List.drop_succ_cons, List.drop_zero] at h1
        rw [h1]; rfl
end Go.Proofs.YtfkbbbjicaedmaaGreatDoor
namespace Go.Proofs.YtfkbbbjicaedmaaGreatDoor
set_option linter.unusedVariables false
set_option linter.unusedSimpArgs false
structure Seg where
  gap : List UInt8
  body : List UInt8
  tk : Tk
inductive Lexed : List UInt8 → List Seg → List UInt8 → Prop where
  | nil (z : List UInt8) : skipL 0 z = .good () z.length [] → Lexed z [] z
  | cons (g p r : List UInt8) (t : Tk) (ss : List Seg) (z : List UInt8) : skipL 0 (g ++ (p ++ r)) = .good () g.length (p ++ r) → p ≠ [] → tokL 0 (p ++ r) = .good t p.length r → Lexed r ss z → Lexed (g ++ (p ++ r)) (⟨g, p, t⟩ :: ss) z
def place (a : Nat) (e : Bool) : List Seg → List Tok
  | [] => []
  | s :: ss => ⟨s.tk, a + s.gap.length, e || decide (0 < s.gap.length)⟩ :: place (a + s.gap.length + s.body.length) false ss
theorem toksF_fuel : ∀ (f g a : Nat) (e : Bool) (l : List UInt8), l.length < f → l.length < g → toksF f a e l = toksF g a e l := by
  intro f
  induction f with
  | zero => intro g a e l hf; omega
  | succ f ih =>
    intro g a e l hf hg
    cases g with
    | zero => omega
    | succ g =>
      unfold toksF
      cases hs : skipL a l with
      | bad c p => rfl
      | good x n q =>
        cases q with
        | nil => rfl
        | cons d r =>
          simp only
          obtain ⟨s, hs1, _⟩ := skip_split a l hs
          have hstop := skip_stop a l hs
          cases ht : tokL n (d :: r) with
          | bad c p => rfl
          | good t m r' =>
            simp only
            obtain ⟨p, hp, _, hne⟩ := tok_split hstop.2.2 ht
            have h1 := List.length_pos_iff.2 hne
            have h2 : l.length = s.length + (p.length + r'.length) := by rw [hs1, List.length_append, hp, List.length_append]
            rw [ih g m false r' (by omega) (by omega)]
theorem toks_eq (a : Nat) (e : Bool) (l : List UInt8) : toks a e l =
    match skipL a l with
    | .bad c p => .bad c p
    | .good _ n [] => .good [] n []
    | .good _ n (d :: r) =>
      match tokL n (d :: r) with
      | .bad c p => .bad c p
      | .good t m r' => (match toks m false r' with | .bad c p => .bad c p | .good ts x y => .good (⟨t, n, e || decide (a < n)⟩ :: ts) x y) := by
  show toksF (l.length + 1) a e l = _
  rw [toksF]
  cases hs : skipL a l with
  | bad c p => rfl
  | good x n q =>
    cases q with
    | nil => rfl
    | cons d r =>
      simp only
      obtain ⟨s, hs1, _⟩ := skip_split a l hs
      have hstop := skip_stop a l hs
      cases ht : tokL n (d :: r) with
      | bad c p => rfl
      | good t m r' =>
        simp only
        obtain ⟨p, hp, _, hne⟩ := tok_split hstop.2.2 ht
        have h1 := List.length_pos_iff.2 hne
        have h2 : l.length = s.length + (p.length + r'.length) := by rw [hs1, List.length_append, hp, List.length_append]
        rw [toksF_fuel l.length (r'.length + 1) m false r' (by omega) (by omega)]
        rfl
theorem lexed_ind (P : Nat → Bool → List UInt8 → Prop)
    (h : ∀ a e l, (∀ n m d r t r', skipL a l = .good () n (d :: r) → tokL n (d :: r) = .good t m r' → P m false r') → P a e l) (a : Nat) (e : Bool) (l : List UInt8) : P a e l := by
  generalize hf : l.length = f
  induction f using Nat.strongRecOn generalizing a e l with
  | _ f ih =>
    refine h a e l ?_
    intro n m d r t r' hs ht
    obtain ⟨s, hs1, _⟩ := skip_split a l hs
    have hstop := skip_stop a l hs
    obtain ⟨p, hp, _, hne⟩ := tok_split hstop.2.2 ht
    have h1 := List.length_pos_iff.2 hne
    have h2 : l.length = s.length + (p.length + r'.length) := by rw [hs1, List.length_append, hp, List.length_append]
    exact ih r'.length (by omega) m false r' rfl
theorem up_good {α : Type} {k : Nat} {x : R α} {v : α} {n : Nat} {r : List UInt8} (h : x.up k = .good v n r) : ∃ m, x = .good v m r ∧ n = k + m := by
  cases x with
  | bad c p => cases h
  | good y m q => simp only [R.up] at h; injection h with h1 h2 h3; exact ⟨m, by rw [h1, h3], h2.symm⟩
theorem lexed_of_toks (a : Nat) (e : Bool) (l : List UInt8) : ∀ {ts : List Tok} {n : Nat} {r : List UInt8}, toks a e l = .good ts n r → ∃ ss z, Lexed l ss z ∧ ts = place a e ss ∧ n = a + l.length ∧ r = [] := by
  refine lexed_ind (fun a e l => ∀ {ts : List Tok} {n : Nat} {r : List UInt8}, toks a e l = .good ts n r → ∃ ss z, Lexed l ss z ∧ ts = place a e ss ∧ n = a + l.length ∧ r = []) ?_ a e l
  intro a e l ih ts n r h
  rw [toks_eq] at h
  cases hs : skipL a l with
  | bad c p => rw [hs] at h; cases h
  | good x m q =>
    rw [hs] at h
    obtain ⟨s, hs1, hs2⟩ := skip_split a l hs
    obtain ⟨m0, hs0, hm0⟩ := up_good (k := a) (x := skipL 0 l) (by rw [← skip_shift]; exact hs)
    cases q with
    | nil =>
      injection h with h1 h2 h3
      have hl : l = s := by rw [hs1]; simp
      refine ⟨[], l, .nil l ?_, h1.symm, by rw [← h2, hs2, ← hl], h3.symm⟩
      have hml : m0 = l.length := by rw [hl]; omega
      rw [hs0, hml]
    | cons d q =>
      simp only at h
      have hstop := skip_stop a l hs
      cases ht : tokL m (d :: q) with
      | bad c p => rw [ht] at h; cases h
      | good t m2 r' =>
        rw [ht] at h
        simp only at h
        obtain ⟨p, hp, hp2, hne⟩ := tok_split hstop.2.2 ht
        cases hr : toks m2 false r' with
        | bad c p => rw [hr] at h; cases h
        | good ts' n' y =>
          rw [hr] at h
          simp only at h
          injection h with h1 h2 h3
          obtain ⟨ss, z, hL, hts, hn, hy⟩ := ih m m2 d q t r' hs ht hr
          obtain ⟨m1, ht0, hm1⟩ := up_good (k := m) (x := tokL 0 (d :: q)) (by rw [← tok_shift]; exact ht)
          have hmp : m1 = p.length := by omega
          have hms : m0 = s.length := by omega
          subst hmp; subst hms
          refine ⟨⟨s, p, t⟩ :: ss, z, ?_, ?_, ?_, ?_⟩
          · rw [hs1, hp]; rw [hs1, hp] at hs0; rw [hp] at ht0
            exact .cons s p r' t ss z hs0 hne ht0 hL
          · rw [← h1, hts, place]
            simp only
            rw [hp2, hs2]
            congr 2
            congr 1
            simp
          · rw [← h2, hn, hs1, hp]; simp; omega
          · rw [← h3, hy]
end Go.Proofs.YtfkbbbjicaedmaaGreatDoor
namespace Go.Proofs.YtfkbbbjicaedmaaGreatDoor
set_option linter.unusedVariables false
set_option linter.unusedSimpArgs false
def dot (t : Tk) : Prop := t.kind = 1 ∧ t.text = [46] ∧ t.quoted = false
instance (t : Tk) : Decidable (dot t) := by unfold dot; infer_instance
def tok0 : Tok := ⟨⟨0, [], 0, false⟩, 0, false⟩
theorem tok_text {t : Tk} {p r : List UInt8} (h : tokL 0 (p ++ r) = .good t p.length r) (hp : p ≠ []) : (t.quoted = false → t.text = p) ∧ (t.quoted = true → p.head? = some 39 ∧ t.kind = 1) := by
  rw [tok_way] at h
  have htk : ∀ x : List UInt8, (p ++ x).take p.length = p := fun x => by simp
  have hname : ∀ kind k, nameL kind 0 (p ++ r) k = .good t p.length r → (t.quoted = false → t.text = p) ∧ (t.quoted = true → p.head? = some 39 ∧ t.kind = 1) := by
    intro kind k h1
    unfold nameL at h1
    split at h1
    · cases h1
    · injection h1 with h2 h3 h4
      have hk : k = p.length := by omega
      rw [hk, htk] at h2
      rw [← h2]; exact ⟨fun _ => rfl, fun h0 => by (cases h0)⟩
  have hone : ∀ kind, oneL kind 0 (p ++ r) = .good t p.length r → (t.quoted = false → t.text = p) ∧ (t.quoted = true → p.head? = some 39 ∧ t.kind = 1) := by
    intro kind h1
    unfold oneL at h1
    injection h1 with h2 h3 h4
    have e1 := htk r
    rw [← h3, Nat.zero_add] at e1
    rw [← h2]; exact ⟨fun _ => e1, fun h0 => by (cases h0)⟩
  cases hv : way (p ++ r) with
  | none => rw [hv] at h; cases h
  | name => rw [hv] at h; exact hname _ _ h
  | var => rw [hv] at h; exact hname _ _ h
  | signs => rw [hv] at h; exact hname _ _ h
  | punct => rw [hv] at h; exact hone _ h
  | solo => rw [hv] at h; exact hone _ h
  | stop => rw [hv] at h; exact hone _ h
  | digits =>
    rw [hv] at h
    simp only [wayL, digitsL] at h
    split at h
    · cases h
    · injection h with h2 h3 h4
      have hk : digLen (p ++ r) = p.length := by omega
      rw [hk, htk] at h2
      rw [← h2]; exact ⟨fun _ => rfl, fun h0 => by (cases h0)⟩
  | char =>
    rw [hv] at h
    simp only [wayL, charL] at h
    split at h
    · injection h with h2 h3 h4
      have e1 := htk r
      rw [← h3, Nat.zero_add] at e1
      rw [← h2]; exact ⟨fun _ => e1, fun h0 => by (cases h0)⟩
    · split at h <;> cases h
    · cases h
    · cases h
  | quoted =>
    rw [hv] at h
    simp only [wayL, quotedL] at h
    split at h
    · cases h
    · split at h
      · cases h
      · injection h with h2 h3 h4
        rw [← h2]
        refine ⟨fun h0 => by (cases h0), fun _ => ⟨?_, rfl⟩⟩
        obtain ⟨c, p2, rfl⟩ := List.exists_cons_of_ne_nil hp
        have := way_quoted (r := p2 ++ r) hv
        rw [this]; rfl
theorem place_length (a : Nat) (e : Bool) (ss : List Seg) : (place a e ss).length = ss.length := by
  induction ss generalizing a e with
  | nil => rfl
  | cons s ss ih => simp [place, ih]
def Begins (l : List UInt8) : Prop := ∃ c q, l = c :: q ∧ blankB c = false ∧ c ≠ 37 ∧ remB l = false
theorem skip_begins {a : Nat} {l : List UInt8} {n : Nat} {p r : List UInt8} (h : skipL a l = .good () n (p ++ r)) (hp : p ≠ []) : Begins (p ++ r) := by
  obtain ⟨c, p2, rfl⟩ := List.exists_cons_of_ne_nil hp
  exact ⟨c, p2 ++ r, rfl, skip_stop a l h⟩
structure At (a : Nat) (e : Bool) (l : List UInt8) (ts : List Tok) (i : Nat) (l1 g p r : List UInt8) (t : Tk) : Prop where
  text : l = l1 ++ (g ++ (p ++ r))
  tok : ts.getD i tok0 = ⟨t, a + l1.length + g.length, (decide (i = 0) && e) || decide (0 < g.length)⟩
  read : tokL 0 (p ++ r) = .good t p.length r
  ne : p ≠ []
  stop : Begins (p ++ r)
  next : i + 1 < ts.length → ∃ g' p' r', r = g' ++ (p' ++ r') ∧ p' ≠ [] ∧ skipL 0 r = .good () g'.length (p' ++ r') ∧ (ts.getD (i + 1) tok0).pos = a + l1.length + g.length + p.length + g'.length ∧ (ts.getD (i + 1) tok0).apart = decide (0 < g'.length)
  last : i + 1 = ts.length → skipL 0 r = .good () r.length []
theorem seg_at {l : List UInt8} {ss : List Seg} {z : List UInt8} (h : Lexed l ss z) : ∀ a e i, i < ss.length → ∃ l1 g p r t, At a e l (place a e ss) i l1 g p r t := by
  induction h with
  | nil z hz => intro a e i hi; simp at hi
  | cons g p r t ss z hs hp ht hL ih =>
    intro a e i hi
    cases i with
    | zero =>
      refine ⟨[], g, p, r, t, rfl, ?_, ht, hp, skip_begins hs hp, ?_, ?_⟩
      · simp [place]
      · intro h1
        rw [place_length] at h1
        cases hL with
        | nil z hz => simp at h1
        | cons g' p' r' t' ss' z' hs' hp' ht' hL' =>
          exact ⟨g', p', r', rfl, hp', hs', by simp [place], by simp [place]⟩
      · intro h1
        rw [place_length] at h1
        cases hL with
        | nil z hz => exact hz
        | cons g' p' r' t' ss' z' hs' hp' ht' hL' => simp at h1
    | succ i =>
      obtain ⟨l1, g1, p1, r1, t1, ha⟩ := ih (a + g.length + p.length) false i (by simpa using hi)
      refine ⟨g ++ (p ++ l1), g1, p1, r1, t1, ?_, ?_, ha.read, ha.ne, ha.stop, ?_, ?_⟩
      · rw [List.append_assoc, List.append_assoc, ← ha.text]
      · have := ha.tok
        simp only [place, List.getD_cons_succ]
        rw [this]
        simp; omega
      · intro h1
        rw [place_length] at h1
        obtain ⟨g', p', r', h2, h3, h4, h5, h6⟩ := ha.next (by rw [place_length]; simpa using h1)
        refine ⟨g', p', r', h2, h3, h4, ?_, ?_⟩
        · simp only [place, List.getD_cons_succ]; rw [h5]; simp; omega
        · simp only [place, List.getD_cons_succ]; rw [h6]
      · intro h1
        rw [place_length] at h1
        exact ha.last (by rw [place_length]; simpa using h1)
theorem tokens_lexed {l : List UInt8} {ts : List Tok} {n : Nat} {r : List UInt8} (h : tokens l = .good ts n r) : l.length ≤ 16384 ∧ ∃ ss z, Lexed l ss z ∧ ts = place 0 true ss := by
  unfold tokens at h
  split at h
  · cases h
  · obtain ⟨ss, z, h1, h2, _⟩ := lexed_of_toks _ _ _ h
    exact ⟨by omega, ss, z, h1, h2⟩
end Go.Proofs.YtfkbbbjicaedmaaGreatDoor
namespace Go.Proofs.YtfkbbbjicaedmaaGreatDoor
set_option linter.unusedVariables false
set_option linter.unusedSimpArgs false
def after (xs : List Tok) : R (List Tok) → R (List Tok)
  | .bad c p => .bad c p
  | .good ts n r => .good (xs ++ ts) n r
theorem after_nil (x : R (List Tok)) : after [] x = x := by cases x <;> rfl
end Go.Proofs.YtfkbbbjicaedmaaGreatDoor
