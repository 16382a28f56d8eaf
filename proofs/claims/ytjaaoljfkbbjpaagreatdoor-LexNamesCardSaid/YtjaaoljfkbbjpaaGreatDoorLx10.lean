/-
  Tokens, plain: where they stand (LexPlaces). No condition.
-/
import Derived.Test.YtjaaoljfkbbjpaaGreatDoorLx6
namespace Go.Proofs.YtjaaoljfkbbjpaaGreatDoor
set_option linter.unusedVariables false
set_option linter.unusedSimpArgs false

theorem tok_bad_at {a : Nat} {l : List UInt8} {c p : Nat} (h : tokL a l = .bad c p) : p ≤ a + l.length := by
  cases l with
  | nil => rw [tok_nil] at h; injection h with h1 h2; omega
  | cons d r =>
    rw [tok_cons] at h
    have hn : ∀ kind k, nameL kind a (d :: r) k = .bad c p → p ≤ a + (d :: r).length := by
      intro kind k hk
      unfold nameL at hk
      split at hk
      · injection hk with h1 h2; omega
      · cases hk
    split at h
    · exact hn _ _ h
    split at h
    · exact hn _ _ h
    split at h
    · unfold charL at h
      split at h
      · cases h
      · rename_i hq
        have hq0 : 0 < ((d :: r).drop 2).length := by obtain ⟨x, hx, _⟩ := inQ_close hq; rw [hx]; simp
        rw [List.length_drop] at hq0
        split at h <;> (injection h with h1 h2; omega)
      · injection h with h1 h2; omega
      · rename_i e hq
        have := inQ_bad_pos hq
        rw [List.length_drop] at this
        injection h with h1 h2; omega
    split at h
    · unfold digitsL at h
      split at h
      · injection h with h1 h2; omega
      · cases h
    split at h
    · unfold oneL at h; cases h
    split at h
    · unfold oneL at h; cases h
    split at h
    · unfold quotedL at h
      split at h
      · rename_i e q hq
        have := quot_bad_at _ _ _ hq
        injection h with h1 h2
        subst h2
        simp at this ⊢
        omega
      · split at h
        · injection h with h1 h2; omega
        · cases h
    split at h
    · unfold oneL at h; cases h
    split at h
    · exact hn _ _ h
    · injection h with h1 h2; omega
theorem toks_bad_at : ∀ (f a : Nat) (e : Bool) (l : List UInt8) {c p : Nat}, toksF f a e l = .bad c p → p ≤ a + l.length := by
  intro f
  induction f with
  | zero => intro a e l c p h; cases h
  | succ f ih =>
    intro a e l c p h
    rw [toksF] at h
    cases hs : skipL a l with
    | bad c' p' =>
      rw [hs] at h
      injection h with h1 h2
      have := skip_bad a l hs
      omega
    | good x n q =>
      rw [hs] at h
      obtain ⟨s, hs1, hs2⟩ := skip_split a l hs
      cases q with
      | nil => cases h
      | cons d r =>
        simp only at h
        have hl : l.length = s.length + (d :: r).length := by rw [hs1, List.length_append]
        cases ht : tokL n (d :: r) with
        | bad c' p' =>
          rw [ht] at h
          injection h with h1 h2
          have := tok_bad_at ht
          omega
        | good t m r' =>
          rw [ht] at h
          simp only at h
          have hstop := skip_stop a l hs
          obtain ⟨p1, hp1, hm, _⟩ := tok_split hstop.2.2 ht
          have hl2 : (d :: r).length = p1.length + r'.length := by rw [hp1, List.length_append]
          cases h2 : toksF f m false r' with
          | bad c' p' =>
            rw [h2] at h
            injection h with h3 h4
            have := ih m false r' h2
            omega
          | good ts y z => rw [h2] at h; cases h
theorem places_bad {l : List UInt8} {c p : Nat} (h : tokens l = .bad c p) : p ≤ l.length := by
  unfold tokens at h
  split at h
  · injection h with h1 h2; omega
  · have := toks_bad_at _ _ _ _ h; omega
/-- LexPlaces, plain: what holds of the i-th token. -/
structure PlaceOk (l : List UInt8) (ts : List Tok) (i : Nat) (t : Tok) : Prop where
  at_ : ts.getD i tok0 = t
  lt : t.pos < l.length
  first : i = 0 → t.apart = true
  rise : 0 < i → (ts.getD (i - 1) tok0).pos < t.pos
  quo : t.tk.quoted = true → l[t.pos]? = some 39 ∧ t.tk.kind = 1
  plain : t.tk.quoted = false → 0 < t.tk.text.length ∧ t.pos + t.tk.text.length ≤ l.length ∧ (l.drop t.pos).take t.tk.text.length = t.tk.text
  next : t.tk.quoted = false → i + 1 < ts.length → (ts.getD (i + 1) tok0).apart = !decide ((ts.getD (i + 1) tok0).pos = t.pos + t.tk.text.length)
theorem places_plain {l : List UInt8} {ts : List Tok} {n : Nat} {r : List UInt8} (h : tokens l = .good ts n r) (i : Nat) (hi : i < ts.length) : ∃ t, PlaceOk l ts i t := by
  obtain ⟨hlen, ss, z, hL, rfl⟩ := tokens_lexed h
  rw [place_length] at hi
  obtain ⟨l1, g, p, r, t, ha⟩ := seg_at hL 0 true i hi
  have hpp := List.length_pos_iff.2 ha.ne
  have ht := tok_text ha.read ha.ne
  have hlen2 : l.length = l1.length + g.length + (p.length + r.length) := by rw [ha.text]; simp; omega
  have hdrop : l.drop (l1.length + g.length) = p ++ r := by rw [ha.text, ← List.append_assoc, ← List.length_append, List.drop_left]
  refine ⟨_, ha.tok, ?_, ?_, ?_, ?_, ?_, ?_⟩
  · dsimp only; omega
  · intro h0; simp [h0]
  · intro h0
    obtain ⟨j, rfl⟩ : ∃ j, i = j + 1 := ⟨i - 1, by omega⟩
    obtain ⟨l1', g', p', r', t', hb⟩ := seg_at hL 0 true j (by omega)
    obtain ⟨g2, p2, r2, e1, e2, e3, e4, e5⟩ := hb.next (by rw [place_length]; exact hi)
    have h5 := congrArg Tok.pos ha.tok
    dsimp only at h5
    rw [e4] at h5
    have := List.length_pos_iff.2 hb.ne
    rw [Nat.add_sub_cancel, hb.tok]
    dsimp only
    omega
  · intro hq
    dsimp only at hq ⊢
    obtain ⟨h1, h2⟩ := ht.2 hq
    refine ⟨?_, h2⟩
    obtain ⟨c, p2, hp2⟩ := List.exists_cons_of_ne_nil ha.ne
    subst hp2
    have : l[l1.length + g.length]? = (l.drop (l1.length + g.length))[0]? := by simp
    rw [Nat.zero_add, this, hdrop]
    simpa using h1
  · intro hq
    dsimp only at hq ⊢
    have h1 := ht.1 hq
    rw [h1]
    refine ⟨hpp, by omega, ?_⟩
    rw [Nat.zero_add, hdrop, List.take_left']
    rfl
  · intro hq hn
    dsimp only at hq ⊢
    have h1 := ht.1 hq
    obtain ⟨g2, p2, r2, e1, e2, e3, e4, e5⟩ := ha.next hn
    rw [e4, e5, h1]
    by_cases hg : g2.length = 0
    · rw [hg]; simp
    · have h2 : ¬ (0 + l1.length + g.length + p.length + g2.length = 0 + l1.length + g.length + p.length) := by omega
      rw [decide_eq_true (by omega : 0 < g2.length), decide_eq_false h2]
      rfl
end Go.Proofs.YtjaaoljfkbbjpaaGreatDoor
