/-
  Tokens, plain: what is skipped stays so, whatever stands behind it; a text as its pieces. No condition.
-/
import Derived.Test.YtjaaoljfkbbjpaaGreatDoorLx3
namespace Go.Proofs.YtjaaoljfkbbjpaaGreatDoor
set_option linter.unusedVariables false
set_option linter.unusedSimpArgs false

theorem lineLen_app {x y : List UInt8} (y' : List UInt8) (h : lineLen (x ++ y) < x.length) : lineLen (x ++ y') = lineLen (x ++ y) := by
  induction x with
  | nil => simp at h
  | cons c x ih =>
    unfold lineLen at *
    simp only [List.cons_append, List.takeWhile_cons] at *
    split at h
    · rename_i hc
      simp only [hc, if_true, List.length_cons] at *
      rw [ih (by omega)]
    · rename_i hc; simp [hc]
theorem lineLen_drop (l : List UInt8) : ∀ c, (l.drop (lineLen l)).head? = some c → c = 10 := by
  induction l with
  | nil => intro c h; simp at h
  | cons d l ih =>
    intro c h
    unfold lineLen at *
    simp only [List.takeWhile_cons] at h
    split at h
    · simp only [List.length_cons, List.drop_succ_cons] at h; exact ih c h
    · rename_i hd
      simp only [List.length_nil, List.drop_zero, List.head?_cons] at h
      injection h with h; subst h
      simpa using hd
theorem lineLen_whole (x y : List UInt8) (h : lineLen x = x.length) : lineLen (x ++ 10 :: y) = x.length := by
  induction x with
  | nil => simp [lineLen]
  | cons c x ih =>
    unfold lineLen at *
    simp only [List.cons_append, List.takeWhile_cons] at *
    split at h
    · rename_i hc
      simp only [hc, if_true, List.length_cons] at *
      rw [ih (by omega)]
    · simp at h
theorem remEnd_cons2 (c d : UInt8) (r : List UInt8) : remEnd (c :: d :: r) = if c = 42 ∧ d = 47 then some 0 else (remEnd (d :: r)).map (· + 1) := by
  conv => lhs; rw [remEnd]
  by_cases h : c = 42 ∧ d = 47
  · obtain ⟨rfl, rfl⟩ := h; rfl
  · have : (c == 42 && (d :: r).head? == some 47) = false := by
      cases h1 : c == 42 <;> cases h2 : d == 47 <;> simp_all
    rw [if_neg h, this]; rfl
theorem remEnd_app {x y : List UInt8} (y' : List UInt8) {k : Nat} (h : remEnd (x ++ y) = some k) (hk : k + 2 ≤ x.length) : remEnd (x ++ y') = some k := by
  induction x generalizing k with
  | nil => simp at hk
  | cons c x ih =>
    cases x with
    | nil =>
      exfalso
      simp at hk
    | cons d x =>
      rw [List.cons_append, List.cons_append, remEnd_cons2] at h ⊢
      by_cases hc : c = 42 ∧ d = 47
      · rw [if_pos hc] at h ⊢; exact h
      · rw [if_neg hc] at h ⊢
        obtain ⟨j, hj, rfl⟩ := Option.map_eq_some_iff.1 h
        rw [← List.cons_append, ih hj (by simp at hk ⊢; omega)]; rfl
theorem remEnd_last (x : List UInt8) : ∀ {k : Nat}, remEnd (x ++ [10]) = some k → k + 2 ≤ x.length := by
  induction x with
  | nil => intro k h; simp [remEnd] at h
  | cons c x ih =>
    intro k h
    rw [List.cons_append, remEnd] at h
    split at h
    · rename_i hc
      cases h
      cases x with
      | nil => simp at hc
      | cons d x => simp
    · obtain ⟨j, hj, rfl⟩ := Option.map_eq_some_iff.1 h
      have := ih hj; simp; omega
/-- What was skipped ahead of something is skipped ahead of anything. -/
theorem skip_app (q q' : List UInt8) (hq : q ≠ []) (a : Nat) (l : List UInt8) : ∀ g, l = g ++ q → skipL a l = .good () (a + g.length) q → skipL a (g ++ q') = skipL (a + g.length) q' := by
  refine skip_ind (fun a l => ∀ g, l = g ++ q → skipL a l = .good () (a + g.length) q → skipL a (g ++ q') = skipL (a + g.length) q') ?_ ?_ ?_ ?_ ?_ ?_ a l
  · intro a g hg h
    have : g = [] := (List.append_eq_nil_iff.1 hg.symm).1
    subst this; rfl
  · intro a c r hb ih g hg h
    cases g with
    | nil => rfl
    | cons d g =>
      obtain ⟨rfl, rfl⟩ : c = d ∧ r = g ++ q := by simpa using hg
      rw [skip_blank hb] at h
      rw [List.cons_append, skip_blank hb, ih g rfl (by rw [h]; simp; omega)]
      simp; congr 1; omega
  · intro a c r hb hc ih g hg h
    cases g with
    | nil => rfl
    | cons d g =>
      obtain ⟨rfl, rfl⟩ : c = d ∧ r = g ++ q := by simpa using hg
      rw [skip_line hb hc] at h
      obtain ⟨s, hs, hn⟩ := skip_split _ _ h
      have hlen : lineLen (g ++ q) + s.length = g.length := by simp at hn; omega
      have hlt : lineLen (g ++ q) < g.length := by
        rcases Nat.lt_or_ge (lineLen (g ++ q)) g.length with h1 | h1
        · exact h1
        · exfalso
          have he : lineLen (g ++ q) = g.length := by omega
          rw [he] at h
          simp only [List.drop_left] at h
          obtain ⟨x, q2, rfl⟩ := List.exists_cons_of_ne_nil hq
          have h2 := (skip_stop _ _ h).1
          have h3 := lineLen_drop (g ++ x :: q2) x (by rw [he]; simp)
          subst h3
          exact absurd h2 (by decide)
      have hd : (g ++ q).drop (lineLen (g ++ q)) = g.drop (lineLen (g ++ q)) ++ q := List.drop_append_of_le_length (by omega)
      have h1 := ih (g.drop (lineLen (g ++ q))) hd (by rw [h]; simp; omega)
      rw [List.cons_append, skip_line hb hc, lineLen_app q' hlt, List.drop_append_of_le_length (by omega), h1]
      simp; congr 1; omega
  · intro a c r hb hc hr he g hg h
    rw [skip_open hb hc hr he] at h; cases h
  · intro a c r k hb hc hr he ih g hg h
    cases g with
    | nil => rfl
    | cons d g =>
      obtain ⟨rfl, rfl⟩ : c = d ∧ r = g ++ q := by simpa using hg
      rw [skip_rem hb hc hr he] at h
      obtain ⟨s, hs, hn⟩ := skip_split _ _ h
      have hlen : k + 3 + s.length = g.length := by simp at hn; omega
      have hd : (g ++ q).drop (k + 3) = g.drop (k + 3) ++ q := List.drop_append_of_le_length (by omega)
      have h1 := ih (g.drop (k + 3)) hd (by rw [h]; simp; omega)
      have hr' : remB (c :: (g ++ q')) = true := by
        cases g with
        | nil => simp at hlen
        | cons e g => exact hr
      have he' : remEnd ((g ++ q').drop 1) = some k := by
        rw [List.drop_append_of_le_length (by omega)] at he ⊢
        exact remEnd_app q' he (by simp; omega)
      rw [List.cons_append, skip_rem hb hc hr' he', List.drop_append_of_le_length (by omega), h1]
      simp; congr 1; omega
  · intro a c r hb hc hr g hg h
    rw [skip_end hb hc hr] at h
    injection h with h1 h2 h3
    have : g = [] := List.length_eq_zero_iff.1 (by omega)
    subst this; rfl
/-- A text that is nothing but blanks and remarks, a line feed behind it: so is what stands behind. -/
theorem skip_feed (q' : List UInt8) (a : Nat) (l : List UInt8) : skipL a l = .good () (a + l.length) [] → skipL a (l ++ 10 :: q') = skipL (a + l.length + 1) q' := by
  refine skip_ind (fun a l => skipL a l = .good () (a + l.length) [] → skipL a (l ++ 10 :: q') = skipL (a + l.length + 1) q') ?_ ?_ ?_ ?_ ?_ ?_ a l
  · intro a h; rw [List.nil_append, skip_blank (by decide)]; rfl
  · intro a c r hb ih h
    rw [skip_blank hb] at h
    rw [List.cons_append, skip_blank hb, ih (by rw [h]; simp; omega)]
    simp; congr 1; omega
  · intro a c r hb hc ih h
    rw [skip_line hb hc] at h
    have hle := lineLen_le r
    rcases Nat.lt_or_ge (lineLen r) r.length with h1 | h1
    · have h2 := ih (by rw [h]; simp; omega)
      have h3 := lineLen_app (x := r) (y := []) (10 :: q') (by simpa using h1)
      simp only [List.append_nil] at h3
      rw [List.cons_append, skip_line hb hc, h3, List.drop_append_of_le_length hle, h2]
      simp; congr 1; omega
    · have h2 : lineLen r = r.length := by omega
      rw [List.cons_append, skip_line hb hc, lineLen_whole r q' h2, List.drop_left, skip_blank (by decide)]
      simp; congr 1; omega
  · intro a c r hb hc hr he h
    rw [skip_open hb hc hr he] at h; cases h
  · intro a c r k hb hc hr he ih h
    rw [skip_rem hb hc hr he] at h
    have hk := remEnd_lt he
    have hk3 : k + 3 ≤ r.length := by simp at hk; omega
    have h1 := ih (by rw [h]; simp; omega)
    have hr' : remB (c :: (r ++ 10 :: q')) = true := by
      cases r with
      | nil => simp at hk
      | cons e r => exact hr
    have he' : remEnd ((r ++ 10 :: q').drop 1) = some k := by
      rw [List.drop_append_of_le_length (by omega)]
      have := remEnd_app (x := r.drop 1) (y := []) (10 :: q') (k := k) (by simpa using he) hk
      exact this
    rw [List.cons_append, skip_rem hb hc hr' he', List.drop_append_of_le_length (by omega), h1]
    simp; congr 1; omega
  · intro a c r hb hc hr h
    rw [skip_end hb hc hr] at h; injection h with h1 h2 h3; cases h3
theorem skip_fed (q' : List UInt8) (a : Nat) (l : List UInt8) : ∀ g, l = g ++ [10] → skipL a l = .good () (a + l.length) [] → skipL a (g ++ 10 :: q') = skipL (a + l.length) q' := by
  refine skip_ind (fun a l => ∀ g, l = g ++ [10] → skipL a l = .good () (a + l.length) [] → skipL a (g ++ 10 :: q') = skipL (a + l.length) q') ?_ ?_ ?_ ?_ ?_ ?_ a l
  · intro a g hg h; simp at hg
  · intro a c r hb ih g hg h
    cases g with
    | nil =>
      obtain ⟨rfl, rfl⟩ : c = 10 ∧ r = [] := by simpa using hg
      rw [List.nil_append, skip_blank (by decide)]; rfl
    | cons d g =>
      obtain ⟨rfl, rfl⟩ : c = d ∧ r = g ++ [10] := by simpa using hg
      rw [skip_blank hb] at h
      rw [List.cons_append, skip_blank hb, ih g rfl (by rw [h]; simp; omega)]
      simp; congr 1; omega
  · intro a c r hb hc ih g hg h
    cases g with
    | nil =>
      obtain ⟨rfl, rfl⟩ : c = 10 ∧ r = [] := by simpa using hg
      exact absurd hb (by decide)
    | cons d g =>
      obtain ⟨rfl, rfl⟩ : c = d ∧ r = g ++ [10] := by simpa using hg
      rw [skip_line hb hc] at h
      have hle : lineLen (g ++ [10]) ≤ g.length := by
        rcases Nat.lt_or_ge g.length (lineLen (g ++ [10])) with h1 | h1
        · exfalso
          have h2 := lineLen_le (g ++ [10])
          have h3 : lineLen (g ++ [10]) = g.length + 1 := by simp at h2; omega
          have h4 : ∀ x : List UInt8, lineLen (x ++ [10]) ≠ x.length + 1 := by
            intro x
            induction x with
            | nil => simp [lineLen]
            | cons y x ih =>
              unfold lineLen at *
              simp only [List.cons_append, List.takeWhile_cons]
              split
              · simp only [List.length_cons]; omega
              · simp
          exact h4 g h3
        · exact h1
      have hd : (g ++ [10]).drop (lineLen (g ++ [10])) = g.drop (lineLen (g ++ [10])) ++ [10] := List.drop_append_of_le_length hle
      have h1 := ih _ hd (by rw [h]; simp; omega)
      have h2 : lineLen (g ++ 10 :: q') = lineLen (g ++ [10]) := by
        have := lineLen_app (x := g ++ [10]) (y := []) q' (by simp; omega)
        simpa using this
      rw [List.cons_append, skip_line hb hc, h2, List.drop_append_of_le_length hle, h1]
      simp; congr 1; omega
  · intro a c r hb hc hr he g hg h
    rw [skip_open hb hc hr he] at h; cases h
  · intro a c r k hb hc hr he ih g hg h
    cases g with
    | nil =>
      obtain ⟨rfl, rfl⟩ : c = 10 ∧ r = [] := by simpa using hg
      exact absurd hb (by decide)
    | cons d g =>
      obtain ⟨rfl, rfl⟩ : c = d ∧ r = g ++ [10] := by simpa using hg
      rw [skip_rem hb hc hr he] at h
      cases g with
      | nil => exact absurd hr (by simp [remB])
      | cons e g =>
        have hk : k + 2 ≤ g.length := remEnd_last g he
        have hd : (e :: g ++ [10]).drop (k + 3) = (e :: g).drop (k + 3) ++ [10] := List.drop_append_of_le_length (by simp; omega)
        have h1 := ih _ hd (by rw [h]; simp; omega)
        have he' : remEnd ((e :: g ++ 10 :: q').drop 1) = some k := remEnd_app (x := g) (y := [10]) (10 :: q') he hk
        have hr' : remB (c :: (e :: g ++ 10 :: q')) = true := hr
        rw [List.cons_append, skip_rem hb hc hr' he', List.drop_append_of_le_length (by simp; omega), h1]
        simp; congr 1; omega
  · intro a c r hb hc hr g hg h
    rw [skip_end hb hc hr] at h; injection h with h1 h2 h3; cases h3

/-- A text as its pieces: what is skipped, a token, and so on; z: what is skipped behind the last one. -/
structure Seg where
  gap : List UInt8
  body : List UInt8
  tk : Tk
inductive Lexed : List UInt8 → List Seg → List UInt8 → Prop where
  | nil (z : List UInt8) : skipL 0 z = .good () z.length [] → Lexed z [] z
  | cons (g p r : List UInt8) (t : Tk) (ss : List Seg) (z : List UInt8) : skipL 0 (g ++ (p ++ r)) = .good () g.length (p ++ r) → p ≠ [] → tokL 0 (p ++ r) = .good t p.length r → Lexed r ss z → Lexed (g ++ (p ++ r)) (⟨g, p, t⟩ :: ss) z
def place (a : Nat) (e : Bool) : List Seg → List Tok
  | [] => []
  | s :: ss => ⟨s.tk, a + s.gap.length, e || decide (0 < s.gap.length)⟩ :: place (a + s.gap.length + s.body.length) false ss
theorem skip_at {k : Nat} {l : List UInt8} {n : Nat} {r : List UInt8} (h : skipL 0 l = .good () n r) : skipL k l = .good () (k + n) r := by
  have := skip_shift k 0 l
  rw [Nat.add_zero] at this
  rw [this, h]; rfl
theorem tok_at {k : Nat} {l : List UInt8} {t : Tk} {n : Nat} {r : List UInt8} (h : tokL 0 l = .good t n r) : tokL k l = .good t (k + n) r := by
  have := tok_shift k 0 l
  rw [Nat.add_zero] at this
  rw [this, h]; rfl
theorem toksF_fuel : ∀ (f g a : Nat) (e : Bool) (l : List UInt8), l.length < f → l.length < g → toksF f a e l = toksF g a e l := by
  intro f
  induction f with
  | zero => intro g a e l hf; omega
  | succ f ih =>
    intro g a e l hf hg
    cases g with
    | zero => omega
    | succ g =>
      unfold toksF
      cases hs : skipL a l with
      | bad c p => rfl
      | good x n q =>
        cases q with
        | nil => rfl
        | cons d r =>
          simp only
          obtain ⟨s, hs1, _⟩ := skip_split a l hs
          have hstop := skip_stop a l hs
          cases ht : tokL n (d :: r) with
          | bad c p => rfl
          | good t m r' =>
            simp only
            obtain ⟨p, hp, _, hne⟩ := tok_split hstop.2.2 ht
            have h1 := List.length_pos_iff.2 hne
            have h2 : l.length = s.length + (p.length + r'.length) := by rw [hs1, List.length_append, hp, List.length_append]
            rw [ih g m false r' (by omega) (by omega)]
theorem toks_eq (a : Nat) (e : Bool) (l : List UInt8) : toks a e l =
    match skipL a l with
    | .bad c p => .bad c p
    | .good _ n [] => .good [] n []
    | .good _ n (d :: r) =>
      match tokL n (d :: r) with
      | .bad c p => .bad c p
      | .good t m r' => (match toks m false r' with | .bad c p => .bad c p | .good ts x y => .good (⟨t, n, e || decide (a < n)⟩ :: ts) x y) := by
  show toksF (l.length + 1) a e l = _
  rw [toksF]
  cases hs : skipL a l with
  | bad c p => rfl
  | good x n q =>
    cases q with
    | nil => rfl
    | cons d r =>
      simp only
      obtain ⟨s, hs1, _⟩ := skip_split a l hs
      have hstop := skip_stop a l hs
      cases ht : tokL n (d :: r) with
      | bad c p => rfl
      | good t m r' =>
        simp only
        obtain ⟨p, hp, _, hne⟩ := tok_split hstop.2.2 ht
        have h1 := List.length_pos_iff.2 hne
        have h2 : l.length = s.length + (p.length + r'.length) := by rw [hs1, List.length_append, hp, List.length_append]
        rw [toksF_fuel l.length (r'.length + 1) m false r' (by omega) (by omega)]
        rfl
theorem lexed_ind (P : Nat → Bool → List UInt8 → Prop)
    (h : ∀ a e l, (∀ n m d r t r', skipL a l = .good () n (d :: r) → tokL n (d :: r) = .good t m r' → P m false r') → P a e l) (a : Nat) (e : Bool) (l : List UInt8) : P a e l := by
  generalize hf : l.length = f
  induction f using Nat.strongRecOn generalizing a e l with
  | _ f ih =>
    refine h a e l ?_
    intro n m d r t r' hs ht
    obtain ⟨s, hs1, _⟩ := skip_split a l hs
    have hstop := skip_stop a l hs
    obtain ⟨p, hp, _, hne⟩ := tok_split hstop.2.2 ht
    have h1 := List.length_pos_iff.2 hne
    have h2 : l.length = s.length + (p.length + r'.length) := by rw [hs1, List.length_append, hp, List.length_append]
    exact ih r'.length (by omega) m false r' rfl
theorem up_good {α : Type} {k : Nat} {x : R α} {v : α} {n : Nat} {r : List UInt8} (h : x.up k = .good v n r) : ∃ m, x = .good v m r ∧ n = k + m := by
  cases x with
  | bad c p => cases h
  | good y m q => simp only [R.up] at h; injection h with h1 h2 h3; exact ⟨m, by rw [h1, h3], h2.symm⟩
theorem lexed_of_toks (a : Nat) (e : Bool) (l : List UInt8) : ∀ {ts : List Tok} {n : Nat} {r : List UInt8}, toks a e l = .good ts n r → ∃ ss z, Lexed l ss z ∧ ts = place a e ss ∧ n = a + l.length ∧ r = [] := by
  refine lexed_ind (fun a e l => ∀ {ts : List Tok} {n : Nat} {r : List UInt8}, toks a e l = .good ts n r → ∃ ss z, Lexed l ss z ∧ ts = place a e ss ∧ n = a + l.length ∧ r = []) ?_ a e l
  intro a e l ih ts n r h
  rw [toks_eq] at h
  cases hs : skipL a l with
  | bad c p => rw [hs] at h; cases h
  | good x m q =>
    rw [hs] at h
    obtain ⟨s, hs1, hs2⟩ := skip_split a l hs
    obtain ⟨m0, hs0, hm0⟩ := up_good (k := a) (x := skipL 0 l) (by rw [← skip_shift]; exact hs)
    cases q with
    | nil =>
      injection h with h1 h2 h3
      have hl : l = s := by rw [hs1]; simp
      refine ⟨[], l, .nil l ?_, h1.symm, by rw [← h2, hs2, ← hl], h3.symm⟩
      have hml : m0 = l.length := by rw [hl]; omega
      rw [hs0, hml]
    | cons d q =>
      simp only at h
      have hstop := skip_stop a l hs
      cases ht : tokL m (d :: q) with
      | bad c p => rw [ht] at h; cases h
      | good t m2 r' =>
        rw [ht] at h
        simp only at h
        obtain ⟨p, hp, hp2, hne⟩ := tok_split hstop.2.2 ht
        cases hr : toks m2 false r' with
        | bad c p => rw [hr] at h; cases h
        | good ts' n' y =>
          rw [hr] at h
          simp only at h
          injection h with h1 h2 h3
          obtain ⟨ss, z, hL, hts, hn, hy⟩ := ih m m2 d q t r' hs ht hr
          obtain ⟨m1, ht0, hm1⟩ := up_good (k := m) (x := tokL 0 (d :: q)) (by rw [← tok_shift]; exact ht)
          have hmp : m1 = p.length := by omega
          have hms : m0 = s.length := by omega
          subst hmp; subst hms
          refine ⟨⟨s, p, t⟩ :: ss, z, ?_, ?_, ?_, ?_⟩
          · rw [hs1, hp]; rw [hs1, hp] at hs0; rw [hp] at ht0
            exact .cons s p r' t ss z hs0 hne ht0 hL
          · rw [← h1, hts, place]
            simp only
            rw [hp2, hs2]
            congr 2
            congr 1
            simp
          · rw [← h2, hn, hs1, hp]; simp; omega
          · rw [← h3, hy]
theorem toks_of_lexed {l : List UInt8} {ss : List Seg} {z : List UInt8} (h : Lexed l ss z) : ∀ a e, toks a e l = .good (place a e ss) (a + l.length) [] := by
  induction h with
  | nil z hz => intro a e; rw [toks_eq, skip_at hz]; rfl
  | cons g p r t ss z hs hp ht hL ih =>
    intro a e
    obtain ⟨c, p2, rfl⟩ := List.exists_cons_of_ne_nil hp
    rw [toks_eq, skip_at hs]
    simp only [List.cons_append]
    rw [List.cons_append] at ht
    rw [tok_at ht]
    simp only
    rw [ih, place]
    simp only
    congr 1
    · congr 2
      congr 1
      simp
    · simp; omega
end Go.Proofs.YtjaaoljfkbbjpaaGreatDoor
