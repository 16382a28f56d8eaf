/-
  Tokens, plain: texts joined; blanks and remarks put between tokens. No condition.
-/
import Derived.Test.YtjaaoljfkbbjpaaGreatDoorLx5
namespace Go.Proofs.YtjaaoljfkbbjpaaGreatDoor
set_option linter.unusedVariables false
set_option linter.unusedSimpArgs false

def after (xs : List Tok) : R (List Tok) → R (List Tok)
  | .bad c p => .bad c p
  | .good ts n r => .good (xs ++ ts) n r
theorem after_nil (x : R (List Tok)) : after [] x = x := by cases x <;> rfl
/-- The tokens of a text, a line feed and another one. -/
theorem toks_join {l : List UInt8} {ss : List Seg} {z : List UInt8} (h : Lexed l ss z) (b : List UInt8) (hd : ∀ s ∈ ss, ¬ dot s.tk) : ∀ a e, toks a e (l ++ 10 :: b) = after (place a e ss) (toks (a + l.length + 1) true b) := by
  induction h with
  | nil z hz =>
    intro a e
    rw [place, after_nil, toks_eq, toks_eq (a + z.length + 1)]
    have h1 : skipL a (z ++ 10 :: b) = skipL (a + z.length + 1) b := skip_feed b a z (skip_at hz)
    rw [h1]
    cases hs : skipL (a + z.length + 1) b with
    | bad c p => rfl
    | good x n q =>
      cases q with
      | nil => rfl
      | cons d r =>
        simp only
        obtain ⟨s, _, hn⟩ := skip_split _ _ hs
        have : decide (a < n) = true := by simp; omega
        rw [this]; simp
  | cons g p r t ss z hs hp ht hL ih =>
    intro a e
    have hst := skip_begins hs hp
    have hf : Fol t r (r ++ 10 :: b) := by
      by_cases hr : r = []
      · subst hr
        exact .inr ⟨fun c hc => by simp at hc; subst hc; exact .inl rfl, hd ⟨g, p, t⟩ (List.mem_cons_self)⟩
      · obtain ⟨c, r2, rfl⟩ := List.exists_cons_of_ne_nil hr
        refine .inl ⟨rfl, ?_⟩
        cases r2 with
        | nil => simp [remB]
        | cons d r2 => rfl
    have h1 := tok_app ht (by simp) hp hf
    have hst' := begins_app hst hp hf
    have h2 : skipL a (g ++ (p ++ (r ++ 10 :: b))) = .good () (a + g.length) (p ++ (r ++ 10 :: b)) := by
      rw [skip_app (p ++ r) _ (by simp [hp]) a _ g rfl (skip_at hs)]
      exact begins_skip hst' _
    have e1 : g ++ (p ++ r) ++ 10 :: b = g ++ (p ++ (r ++ 10 :: b)) := by simp
    rw [e1, toks_eq, h2]
    obtain ⟨c, p2, rfl⟩ := List.exists_cons_of_ne_nil hp
    simp only [List.cons_append] at h1 ⊢
    rw [tok_at h1]
    simp only
    rw [ih (fun s hs => hd s (List.mem_cons_of_mem _ hs)), place]
    have e2 : a + g.length + (c :: p2).length + r.length + 1 = a + (g ++ c :: (p2 ++ r)).length + 1 := by simp; omega
    rw [e2]
    cases toks (a + (g ++ c :: (p2 ++ r)).length + 1) true b with
    | bad c p => rfl
    | good ts n q =>
      simp only [after, List.cons_append]
      congr 3
      simp
/-- The same tokens, but for places. -/
def kindsOf : R (List Tok) → R (List Tk)
  | .bad c p => .bad c p
  | .good ts n r => .good (ts.map Tok.tk) n r
theorem toks_skip {a a' : Nat} {e e' : Bool} {l l' : List UInt8} (h : skipL a l = skipL a' l') : kindsOf (toks a e l) = kindsOf (toks a' e' l') := by
  rw [toks_eq, toks_eq a', h]
  cases skipL a' l' with
  | bad c p => rfl
  | good x n q =>
    cases q with
    | nil => rfl
    | cons d r =>
      simp only
      cases tokL n (d :: r) with
      | bad c p => rfl
      | good t m r' =>
        simp only
        cases toks m false r' <;> rfl
def gapOf : List Seg → List UInt8 → List UInt8
  | [], z => z
  | s :: _, _ => s.gap
def between (ins : Nat → List UInt8) : Nat → List Seg → List UInt8 → List UInt8
  | _, [], _ => []
  | i, s :: ss, z => ins i ++ (s.body ++ (gapOf ss z ++ between ins (i + 1) ss z))
/-- What is put ahead of a token: nothing, or a line feed, and what is nothing but blanks and remarks, with a line feed at its end. -/
def Ins (x : List UInt8) : Prop := x = [] ∨ ∃ b, x = 10 :: (b ++ [10]) ∧ skipL 0 (b ++ [10]) = .good () (b.length + 1) []
theorem ins_skip {x : List UInt8} (h : Ins x) (a : Nat) (q : List UInt8) : skipL a (x ++ q) = skipL (a + x.length) q := by
  rcases h with rfl | ⟨b, rfl, hb⟩
  · rfl
  · have h1 := skip_fed q (a + 1) (b ++ [10]) b rfl (by have := skip_at (k := a + 1) hb; simpa using this)
    have e1 : 10 :: (b ++ [10]) ++ q = 10 :: (b ++ 10 :: q) := by simp
    rw [e1, skip_blank (by decide), h1]
    simp; congr 1; omega
theorem toks_between {l : List UInt8} {ss : List Seg} {z : List UInt8} (h : Lexed l ss z) (hd : ∀ s ∈ ss, ¬ dot s.tk) (ins : Nat → List UInt8) (hi : ∀ i, Ins (ins i)) :
    ∀ a e i, (∃ n, kindsOf (toks a e (between ins i ss z)) = .good (ss.map Seg.tk) n []) ∧ (∀ s ss', ss = s :: ss' → s.body ≠ [] ∧ Begins (s.body ++ (gapOf ss' z ++ between ins (i + 1) ss' z))) := by
  induction h with
  | nil z hz => intro a e i; exact ⟨⟨a, by rw [between, toks_eq, skipL_nil]; rfl⟩, fun s ss' h => by cases h⟩
  | cons g p r t ss z hs hp ht hL ih =>
    intro a e i
    have hst := skip_begins hs hp
    have htd := hd ⟨g, p, t⟩ List.mem_cons_self
    have hd' : ∀ s ∈ ss, ¬ dot s.tk := fun s hs => hd s (List.mem_cons_of_mem _ hs)
    generalize hq : gapOf ss z ++ between ins (i + 1) ss z = q
    -- what follows is as good as what followed
    have hf : Fol t r q := by
      cases hL with
      | nil z hz =>
        have : q = r := by rw [← hq]; simp [gapOf, between]
        rw [this]; exact .inl ⟨rfl, rfl⟩
      | cons g' p' r' t' ss' z' hs' hp' ht' hL' =>
        by_cases hg : g' = []
        · subst hg
          rw [← hq]
          simp only [gapOf, List.nil_append]
          rcases hi (i + 1) with h0 | ⟨b, h0, _⟩
          · obtain ⟨_, h2⟩ := ih hd' a e (i + 1)
            have h3 := (h2 _ _ rfl).2
            simp only [between, h0, List.nil_append]
            simp only at h3
            obtain ⟨c, p2, rfl⟩ := List.exists_cons_of_ne_nil hp'
            have hb := skip_begins hs' hp'
            obtain ⟨_, _, _, _, _, h4⟩ := hb
            obtain ⟨_, _, _, _, _, h5⟩ := h3
            exact .inl ⟨rfl, by rw [h4, h5]⟩
          · simp only [between, h0]
            exact .inr ⟨fun c hc => by simp at hc; subst hc; exact .inl rfl, htd⟩
        · have := gap_fol (t := t) hs' hg htd (between ins (i + 1) (⟨g', p', t'⟩ :: ss') z)
          rw [← hq]; exact this
    have h1 := tok_app ht (by simp) hp hf
    have hst' := begins_app hst hp hf
    refine ⟨?_, fun s ss' h => ?_⟩
    · have h2 : skipL a (between ins i (⟨g, p, t⟩ :: ss) z) = .good () (a + (ins i).length) (p ++ q) := by
        rw [between, hq, ins_skip (hi i)]
        exact begins_skip hst' _
      rw [toks_eq, h2]
      obtain ⟨c, p2, rfl⟩ := List.exists_cons_of_ne_nil hp
      simp only [List.cons_append] at h1 ⊢
      rw [tok_at h1]
      simp only
      -- what stands behind
      have h3 : ∀ m, ∃ n, kindsOf (toks m false q) = .good (ss.map Seg.tk) n [] := by
        intro m
        cases hL with
        | nil z hz =>
          have : q = r := by rw [← hq]; simp [gapOf, between]
          rw [this]
          exact ⟨_, by rw [toks_of_lexed (.nil r hz)]; rfl⟩
        | cons g' p' r' t' ss' z' hs' hp' ht' hL' =>
          have h4 : skipL m q = skipL (m + g'.length) (between ins (i + 1) (⟨g', p', t'⟩ :: ss') z) := by
            rw [← hq]
            exact skip_app (p' ++ r') _ (by simp [hp']) m _ g' rfl (skip_at hs')
          obtain ⟨n, hn⟩ := (ih hd' (m + g'.length) false (i + 1)).1
          exact ⟨n, by rw [toks_skip h4 (e' := false)]; exact hn⟩
      obtain ⟨n, hn⟩ := h3 (a + (ins i).length + (c :: p2).length)
      cases ht2 : toks (a + (ins i).length + (c :: p2).length) false q with
      | bad c p => rw [ht2] at hn; cases hn
      | good ts x y =>
        rw [ht2] at hn
        simp only [kindsOf] at hn ⊢
        injection hn with h5 h6 h7
        exact ⟨x, by simp [h5, h7]⟩
    · injection h with h3 h4
      subst h3; subst h4
      rw [hq]
      exact ⟨hp, hst'⟩
/-- LexJoins, plain. -/
theorem tokens_join {l : List UInt8} {ts : List Tok} {n : Nat} {r : List UInt8} (h : tokens l = .good ts n r) (hd : ∀ t ∈ ts, ¬ dot t.tk) (b : List UInt8) (hl : l.length + b.length ≤ 16000) : tokens (l ++ 10 :: b) = after ts (toks (l.length + 1) true b) := by
  obtain ⟨_, ss, z, hL, rfl⟩ := tokens_lexed h
  unfold tokens
  rw [if_neg (by simp; omega), toks_join hL b ?_ 0 true, Nat.zero_add]
  intro s hs
  have : s.tk ∈ (place 0 true ss).map Tok.tk := by rw [place_kinds]; exact List.mem_map.2 ⟨s, hs, rfl⟩
  obtain ⟨t, ht, h1⟩ := List.mem_map.1 this
  rw [← h1]; exact hd t ht
theorem place_shift (k a : Nat) (e : Bool) (ss : List Seg) : place (k + a) e ss = (place a e ss).map fun t => ⟨t.tk, k + t.pos, t.apart⟩ := by
  induction ss generalizing a e with
  | nil => rfl
  | cons s ss ih => simp [place, ← ih, Nat.add_assoc]
def shiftT (k : Nat) : R (List Tok) → R (List Tok)
  | .bad c p => .bad c (k + p)
  | .good ts n r => .good (ts.map fun t => ⟨t.tk, k + t.pos, t.apart⟩) (k + n) r
theorem toks_shift (k a : Nat) (e : Bool) (l : List UInt8) : toks (k + a) e l = shiftT k (toks a e l) := by
  refine lexed_ind (fun a e l => toks (k + a) e l = shiftT k (toks a e l)) ?_ a e l
  intro a e l ih
  rw [toks_eq, toks_eq a, skip_shift]
  cases hs : skipL a l with
  | bad c p => rfl
  | good x n q =>
    cases q with
    | nil => rfl
    | cons d r =>
      simp only [R.up]
      rw [tok_shift]
      cases ht : tokL n (d :: r) with
      | bad c p => rfl
      | good t m r' =>
        simp only [R.up]
        rw [ih n m d r t r' hs ht]
        cases toks m false r' with
        | bad c p => rfl
        | good ts x y => simp [shiftT]
end Go.Proofs.YtjaaoljfkbbjpaaGreatDoor
