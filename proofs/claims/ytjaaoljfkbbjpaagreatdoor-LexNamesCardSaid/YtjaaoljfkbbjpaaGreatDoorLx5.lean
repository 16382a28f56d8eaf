/-
  Tokens, plain: a token alone, texts joined, blanks between tokens, places. No condition.
-/
import Derived.Test.YtjaaoljfkbbjpaaGreatDoorLx4
namespace Go.Proofs.YtjaaoljfkbbjpaaGreatDoor
set_option linter.unusedVariables false
set_option linter.unusedSimpArgs false

def dot (t : Tk) : Prop := t.kind = 1 ∧ t.text = [46] ∧ t.quoted = false
instance (t : Tk) : Decidable (dot t) := by unfold dot; infer_instance
def tok0 : Tok := ⟨⟨0, [], 0, false⟩, 0, false⟩

/-- What a gap that isn't empty begins with. -/
theorem gap_begins {g q : List UInt8} (h : skipL 0 (g ++ q) = .good () g.length q) (hg : g ≠ []) : (∃ c g', g = c :: g' ∧ (blankB c = true ∨ c = 37)) ∨ (∃ c d g', g = c :: d :: g' ∧ remB g = true) := by
  obtain ⟨c, g', rfl⟩ := List.exists_cons_of_ne_nil hg
  cases hb : blankB c with
  | true => exact .inl ⟨c, g', rfl, .inl hb⟩
  | false =>
    by_cases hc : c = 37
    · exact .inl ⟨c, g', rfl, .inr hc⟩
    · right
      cases hr : remB (c :: g' ++ q) with
      | false =>
        rw [List.cons_append] at hr h
        rw [skip_end hb hc hr] at h
        injection h with h1 h2 h3
        simp at h2
      | true =>
        rw [List.cons_append] at hr h
        cases he : remEnd ((g' ++ q).drop 1) with
        | none => rw [skip_open hb hc hr he] at h; cases h
        | some k =>
          rw [skip_rem hb hc hr he] at h
          obtain ⟨s, hs, hn⟩ := skip_split _ _ h
          cases g' with
          | nil => simp at hn; omega
          | cons d g' => exact ⟨c, d, g', rfl, hr⟩
theorem gap_fol {t : Tk} {g q : List UInt8} (h : skipL 0 (g ++ q) = .good () g.length q) (hg : g ≠ []) (ht : ¬ dot t) (q' : List UInt8) : Fol t (g ++ q) (g ++ q') := by
  rcases gap_begins h hg with ⟨c, g', rfl, h1⟩ | ⟨c, d, g', rfl, h1⟩
  · exact .inr ⟨fun x hx => by simp at hx; subst hx; exact h1, ht⟩
  · exact .inl ⟨rfl, rfl⟩
theorem gap_alone {g q : List UInt8} (h : skipL 0 (g ++ q) = .good () g.length q) : skipL 0 g = .good () g.length [] := by
  by_cases hq : q = []
  · subst hq; simpa using h
  · have := skip_app q [] hq 0 (g ++ q) g rfl (by simpa using h)
    rw [List.append_nil] at this
    rw [this, skipL_nil]; simp
theorem tok_text {t : Tk} {p r : List UInt8} (h : tokL 0 (p ++ r) = .good t p.length r) (hp : p ≠ []) : (t.quoted = false → t.text = p) ∧ (t.quoted = true → p.head? = some 39 ∧ t.kind = 1) := by
  rw [tok_way] at h
  have htk : ∀ x : List UInt8, (p ++ x).take p.length = p := fun x => by simp
  have hname : ∀ kind k, nameL kind 0 (p ++ r) k = .good t p.length r → (t.quoted = false → t.text = p) ∧ (t.quoted = true → p.head? = some 39 ∧ t.kind = 1) := by
    intro kind k h1
    unfold nameL at h1
    split at h1
    · cases h1
    · injection h1 with h2 h3 h4
      have hk : k = p.length := by omega
      rw [hk, htk] at h2
      rw [← h2]; exact ⟨fun _ => rfl, fun h0 => by (cases h0)⟩
  have hone : ∀ kind, oneL kind 0 (p ++ r) = .good t p.length r → (t.quoted = false → t.text = p) ∧ (t.quoted = true → p.head? = some 39 ∧ t.kind = 1) := by
    intro kind h1
    unfold oneL at h1
    injection h1 with h2 h3 h4
    have e1 := htk r
    rw [← h3, Nat.zero_add] at e1
    rw [← h2]; exact ⟨fun _ => e1, fun h0 => by (cases h0)⟩
  cases hv : way (p ++ r) with
  | none => rw [hv] at h; cases h
  | name => rw [hv] at h; exact hname _ _ h
  | var => rw [hv] at h; exact hname _ _ h
  | signs => rw [hv] at h; exact hname _ _ h
  | punct => rw [hv] at h; exact hone _ h
  | solo => rw [hv] at h; exact hone _ h
  | stop => rw [hv] at h; exact hone _ h
  | digits =>
    rw [hv] at h
    simp only [wayL, digitsL] at h
    split at h
    · cases h
    · injection h with h2 h3 h4
      have hk : digLen (p ++ r) = p.length := by omega
      rw [hk, htk] at h2
      rw [← h2]; exact ⟨fun _ => rfl, fun h0 => by (cases h0)⟩
  | char =>
    rw [hv] at h
    simp only [wayL, charL] at h
    split at h
    · injection h with h2 h3 h4
      have e1 := htk r
      rw [← h3, Nat.zero_add] at e1
      rw [← h2]; exact ⟨fun _ => e1, fun h0 => by (cases h0)⟩
    · split at h <;> cases h
    · cases h
    · cases h
  | quoted =>
    rw [hv] at h
    simp only [wayL, quotedL] at h
    split at h
    · cases h
    · split at h
      · cases h
      · injection h with h2 h3 h4
        rw [← h2]
        refine ⟨fun h0 => by (cases h0), fun _ => ⟨?_, rfl⟩⟩
        obtain ⟨c, p2, rfl⟩ := List.exists_cons_of_ne_nil hp
        have := way_quoted (r := p2 ++ r) hv
        rw [this]; rfl
theorem place_length (a : Nat) (e : Bool) (ss : List Seg) : (place a e ss).length = ss.length := by
  induction ss generalizing a e with
  | nil => rfl
  | cons s ss ih => simp [place, ih]
theorem place_kinds (a : Nat) (e : Bool) (ss : List Seg) : (place a e ss).map Tok.tk = ss.map Seg.tk := by
  induction ss generalizing a e with
  | nil => rfl
  | cons s ss ih => simp [place, ih]
def Begins (l : List UInt8) : Prop := ∃ c q, l = c :: q ∧ blankB c = false ∧ c ≠ 37 ∧ remB l = false
theorem begins_skip {l : List UInt8} (h : Begins l) (a : Nat) : skipL a l = .good () a l := by
  obtain ⟨c, q, rfl, h1, h2, h3⟩ := h
  exact skip_end h1 h2 h3
theorem begins_app {t : Tk} {p r r' : List UInt8} (h : Begins (p ++ r)) (hp : p ≠ []) (hf : Fol t r r') : Begins (p ++ r') := by
  obtain ⟨c, p2, rfl⟩ := List.exists_cons_of_ne_nil hp
  obtain ⟨c', q, hl, h1, h2, h3⟩ := h
  have : c' = c := by simp at hl; exact hl.1.symm
  subst this
  exact ⟨c', p2 ++ r', rfl, h1, h2, remB_keep hf hp h3⟩
theorem skip_begins {a : Nat} {l : List UInt8} {n : Nat} {p r : List UInt8} (h : skipL a l = .good () n (p ++ r)) (hp : p ≠ []) : Begins (p ++ r) := by
  obtain ⟨c, p2, rfl⟩ := List.exists_cons_of_ne_nil hp
  exact ⟨c, p2 ++ r, rfl, skip_stop a l h⟩
/-- The i-th token, and what stands ahead of it and behind it. -/
structure At (a : Nat) (e : Bool) (l : List UInt8) (ts : List Tok) (i : Nat) (l1 g p r : List UInt8) (t : Tk) : Prop where
  text : l = l1 ++ (g ++ (p ++ r))
  tok : ts.getD i tok0 = ⟨t, a + l1.length + g.length, (decide (i = 0) && e) || decide (0 < g.length)⟩
  read : tokL 0 (p ++ r) = .good t p.length r
  ne : p ≠ []
  stop : Begins (p ++ r)
  next : i + 1 < ts.length → ∃ g' p' r', r = g' ++ (p' ++ r') ∧ p' ≠ [] ∧ skipL 0 r = .good () g'.length (p' ++ r') ∧ (ts.getD (i + 1) tok0).pos = a + l1.length + g.length + p.length + g'.length ∧ (ts.getD (i + 1) tok0).apart = decide (0 < g'.length)
  last : i + 1 = ts.length → skipL 0 r = .good () r.length []
theorem seg_at {l : List UInt8} {ss : List Seg} {z : List UInt8} (h : Lexed l ss z) : ∀ a e i, i < ss.length → ∃ l1 g p r t, At a e l (place a e ss) i l1 g p r t := by
  induction h with
  | nil z hz => intro a e i hi; simp at hi
  | cons g p r t ss z hs hp ht hL ih =>
    intro a e i hi
    cases i with
    | zero =>
      refine ⟨[], g, p, r, t, rfl, ?_, ht, hp, skip_begins hs hp, ?_, ?_⟩
      · simp [place]
      · intro h1
        rw [place_length] at h1
        cases hL with
        | nil z hz => simp at h1
        | cons g' p' r' t' ss' z' hs' hp' ht' hL' =>
          exact ⟨g', p', r', rfl, hp', hs', by simp [place], by simp [place]⟩
      · intro h1
        rw [place_length] at h1
        cases hL with
        | nil z hz => exact hz
        | cons g' p' r' t' ss' z' hs' hp' ht' hL' => simp at h1
    | succ i =>
      obtain ⟨l1, g1, p1, r1, t1, ha⟩ := ih (a + g.length + p.length) false i (by simpa using hi)
      refine ⟨g ++ (p ++ l1), g1, p1, r1, t1, ?_, ?_, ha.read, ha.ne, ha.stop, ?_, ?_⟩
      · rw [List.append_assoc, List.append_assoc, ← ha.text]
      · have := ha.tok
        simp only [place, List.getD_cons_succ]
        rw [this]
        simp; omega
      · intro h1
        rw [place_length] at h1
        obtain ⟨g', p', r', h2, h3, h4, h5, h6⟩ := ha.next (by rw [place_length]; simpa using h1)
        refine ⟨g', p', r', h2, h3, h4, ?_, ?_⟩
        · simp only [place, List.getD_cons_succ]; rw [h5]; simp; omega
        · simp only [place, List.getD_cons_succ]; rw [h6]
      · intro h1
        rw [place_length] at h1
        exact ha.last (by rw [place_length]; simpa using h1)
theorem tokens_lexed {l : List UInt8} {ts : List Tok} {n : Nat} {r : List UInt8} (h : tokens l = .good ts n r) : l.length ≤ 16384 ∧ ∃ ss z, Lexed l ss z ∧ ts = place 0 true ss := by
  unfold tokens at h
  split at h
  · cases h
  · obtain ⟨ss, z, h1, h2, _⟩ := lexed_of_toks _ _ _ h
    exact ⟨by omega, ss, z, h1, h2⟩
theorem tokens_of {l : List UInt8} {ss : List Seg} {z : List UInt8} (h : Lexed l ss z) (hl : l.length ≤ 16384) : tokens l = .good (place 0 true ss) l.length [] := by
  unfold tokens
  rw [if_neg (by omega), toks_of_lexed h]; simp
/-- LexAlone, plain. -/
theorem alone_plain {l : List UInt8} {ts : List Tok} {n : Nat} {r : List UInt8} (h : tokens l = .good ts n r) (i : Nat) (hi : i < ts.length) (hd : ¬ dot (ts.getD i tok0).tk) (E : Nat) (hE : E = if i + 1 < ts.length then (ts.getD (i + 1) tok0).pos else l.length) :
    (ts.getD i tok0).pos ≤ E ∧ E ≤ l.length ∧ ∃ m q, tokens ((l.drop (ts.getD i tok0).pos).take (E - (ts.getD i tok0).pos)) = .good [⟨(ts.getD i tok0).tk, 0, true⟩] m q := by
  obtain ⟨hlen, ss, z, hL, rfl⟩ := tokens_lexed h
  rw [place_length] at hi
  obtain ⟨l1, g, p, r, t, ha⟩ := seg_at hL 0 true i hi
  have hpos : ((place 0 true ss).getD i tok0).pos = (l1 ++ g).length := by rw [ha.tok]; simp
  have htk : ((place 0 true ss).getD i tok0).tk = t := by rw [ha.tok]
  rw [htk] at hd ⊢
  rw [hpos]
  have hdrop : l.drop (l1 ++ g).length = p ++ r := by rw [ha.text, ← List.append_assoc, List.drop_left]
  rw [hdrop]
  have fin : ∀ g' q, r = g' ++ q → skipL 0 r = .good () g'.length q → E = (l1 ++ g).length + p.length + g'.length → (l1 ++ g).length ≤ E ∧ E ≤ l.length ∧ ∃ m q, tokens ((p ++ r).take (E - (l1 ++ g).length)) = .good [⟨t, 0, true⟩] m q := by
    intro g' q hr hs hE2
    have hlen2 : l.length = (l1 ++ g).length + p.length + g'.length + q.length := by rw [ha.text, hr]; simp; omega
    refine ⟨by omega, by omega, ?_⟩
    have htake : (p ++ r).take (E - (l1 ++ g).length) = p ++ g' := by
      have : E - (l1 ++ g).length = (p ++ g').length := by rw [@List.length_append _ p g']; omega
      rw [this, hr, ← List.append_assoc, List.take_left']
      rfl
    rw [htake]
    have hf : Fol t r g' := by
      by_cases hg : g' = []
      · subst hg; exact .inr ⟨fun c hc => by simp at hc, hd⟩
      · have := gap_fol (t := t) (g := g') (q := q) (by rw [← hr]; exact hs) hg hd []
        rw [List.append_nil, ← hr] at this; exact this
    have h1 := tok_app ha.read (by simp) ha.ne hf
    have h2 := gap_alone (g := g') (q := q) (by rw [← hr]; exact hs)
    have hst : Lexed ([] ++ (p ++ g')) [⟨[], p, t⟩] g' := by
      refine .cons [] p g' t [] g' ?_ ha.ne h1 (.nil g' h2)
      exact begins_skip (begins_app ha.stop ha.ne hf) 0
    have := tokens_of hst (by rw [List.nil_append, List.length_append]; omega)
    exact ⟨_, _, this⟩
  by_cases hn : i + 1 < ss.length
  · obtain ⟨g', p', r', h1, h2, h3, h4, _⟩ := ha.next (by rw [place_length]; exact hn)
    refine fin g' (p' ++ r') h1 h3 ?_
    rw [hE, place_length, if_pos hn, h4]; simp
  · have h3 := ha.last (by rw [place_length]; omega)
    refine fin r [] (by simp) h3 ?_
    rw [hE, place_length, if_neg hn, ha.text]; simp [Nat.add_assoc]
end Go.Proofs.YtjaaoljfkbbjpaaGreatDoor
