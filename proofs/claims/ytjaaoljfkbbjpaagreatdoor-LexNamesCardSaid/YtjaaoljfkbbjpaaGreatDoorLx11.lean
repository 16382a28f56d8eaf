/-
  Tokens, plain: a name in quotes (LexQuotes). No condition.
-/
import Derived.Test.YtjaaoljfkbbjpaaGreatDoorLx6
namespace Go.Proofs.YtjaaoljfkbbjpaaGreatDoor
set_option linter.unusedVariables false
set_option linter.unusedSimpArgs false

def okB (c : UInt8) : Bool := decide (32 ≤ c) && decide (c ≤ 126)
def escB (c : UInt8) : List UInt8 := if c == 39 || c == 92 then [c, c] else [c]
def escS (l : List UInt8) : List UInt8 := l.flatMap escB
def quoS (l : List UInt8) : List UInt8 := 39 :: (escS l ++ [39])
theorem inQ_esc {c : UInt8} (h : okB c = true) (r : List UInt8) : inQ (escB c ++ r) = .byte c (escB c).length := by
  unfold escB
  by_cases h1 : c = 39
  · subst h1; rfl
  · by_cases h2 : c = 92
    · subst h2; rfl
    · have e1 : (c == 39) = false := beq_eq_false_iff_ne.2 h1
      have e2 : (c == 92) = false := beq_eq_false_iff_ne.2 h2
      rw [e1, e2]
      show inQ (c :: r) = _
      rw [inQ, e1, e2]
      unfold okB at h
      simp only [Bool.false_eq_true, if_false, h, if_true]
      rfl
theorem quot_esc (o : Nat) (r : List UInt8) (hr : r.head? ≠ some 39) : ∀ (l : List UInt8), (∀ c ∈ l, okB c = true) → ∀ a, quotL o a (escS l ++ 39 :: r) = .good l (a + (escS l).length + 1) r := by
  intro l
  induction l with
  | nil =>
    intro _ a
    have : inQ (39 :: r) = .close := by
      rw [inQ]
      have : (r.head? == some 39) = false := beq_eq_false_iff_ne.2 hr
      simp [this]
    show quotL o a (39 :: r) = _
    rw [quot_close this]
    rfl
  | cons c l ih =>
    intro h a
    have hc := inQ_esc (h c List.mem_cons_self) (escS l ++ 39 :: r)
    have e : escS (c :: l) = escB c ++ escS l := rfl
    rw [e, List.append_assoc, quot_byte hc, List.drop_left, ih (fun x hx => h x (List.mem_cons_of_mem _ hx))]
    simp; omega
theorem quoted_esc {l r : List UInt8} (h : ∀ c ∈ l, okB c = true) (hr : r.head? ≠ some 39) (a : Nat) : tokL a (quoS l ++ r) = if 64 < l.length then .bad 2 a else .good ⟨1, l, 0, true⟩ (a + (quoS l).length) r := by
  have e : quoS l ++ r = 39 :: (escS l ++ 39 :: r) := by simp [quoS]
  rw [e, tok_cons]
  rw [if_neg (by decide), if_neg (by decide), if_neg (by unfold codeB; cases escS l ++ 39 :: r <;> simp), if_neg (by decide), if_neg (by decide), if_neg (by decide), if_pos (by decide)]
  unfold quotedL
  rw [List.drop_succ_cons, List.drop_zero, quot_esc a r hr l h]
  dsimp only
  split
  · rfl
  · simp [quoS]; omega
theorem toks_one {a n : Nat} {e : Bool} {l r : List UInt8} {t : Tk} (hb : Begins l) (ht : tokL a l = .good t n r) : toks a e l = after [⟨t, a, e⟩] (toks n false r) := by
  rw [toks_eq, begins_skip hb]
  obtain ⟨c, q, rfl, h1, h2, h3⟩ := hb
  dsimp only
  rw [ht]
  dsimp only
  cases toks n false r with
  | bad c p => rfl
  | good ts x y => simp [after]
theorem toks_blank {a : Nat} {l : List UInt8} (hb : Begins l) : toks a false (32 :: l) = toks (a + 1) true l := by
  rw [toks_eq, toks_eq, skip_blank (by decide), begins_skip hb]
  obtain ⟨c, q, rfl, h1, h2, h3⟩ := hb
  dsimp only
  cases tokL (a + 1) (c :: q) with
  | bad c p => rfl
  | good t m r' => simp
theorem begins_quo (l r : List UInt8) : Begins (quoS l ++ r) := by
  refine ⟨39, escS l ++ [39] ++ r, by simp [quoS], by decide, by decide, ?_⟩
  have : quoS l ++ r = 39 :: (escS l ++ [39] ++ r) := by simp [quoS]
  rw [this, remB_cons]; rfl
def quoText (l : List UInt8) : List UInt8 := quoS l ++ (32 :: 120 :: 32 :: quoS l)
theorem escS_length (l : List UInt8) : (escS l).length ≤ 2 * l.length := by
  induction l with
  | nil => simp [escS]
  | cons c l ih =>
    have e : escS (c :: l) = escB c ++ escS l := rfl
    have h2 : (escB c).length ≤ 2 := by unfold escB; split <;> simp
    rw [e, List.length_append, List.length_cons]; omega
theorem quotes_long {l : List UInt8} (h : ∀ c ∈ l, okB c = true) (hl : 64 < l.length) : ∃ p, tokens (quoText l) = .bad 2 p := by
  unfold tokens
  split
  · exact ⟨_, rfl⟩
  · refine ⟨0, ?_⟩
    have hb := begins_quo l (32 :: 120 :: 32 :: quoS l)
    have ht := quoted_esc (r := 32 :: 120 :: 32 :: quoS l) h (by simp) 0
    rw [if_pos hl] at ht
    unfold quoText
    rw [toks_eq, begins_skip hb]
    obtain ⟨c, q, hq, h1, h2, h3⟩ := hb
    rw [hq] at ht ⊢
    dsimp only
    rw [ht]
theorem quotes_short {l : List UInt8} (h : ∀ c ∈ l, okB c = true) (hl : l.length ≤ 64) :
    ∃ n, tokens (quoText l) = .good [⟨⟨1, l, 0, true⟩, 0, true⟩, ⟨⟨1, [120], 0, false⟩, (quoS l).length + 1, true⟩, ⟨⟨1, l, 0, true⟩, (quoS l).length + 3, true⟩] n [] := by
  have he := escS_length l
  have hq : (quoS l).length = (escS l).length + 2 := by simp [quoS]
  have hlen : (quoText l).length ≤ 16384 := by unfold quoText; simp [hq]; omega
  unfold tokens
  rw [if_neg (by omega)]
  have ht := quoted_esc (r := 32 :: 120 :: 32 :: quoS l) h (by simp) 0
  rw [if_neg (by omega), Nat.zero_add] at ht
  unfold quoText
  rw [toks_one (begins_quo l _) ht, toks_blank ⟨120, 32 :: quoS l, rfl, by decide, by decide, by rw [remB_cons]; rfl⟩]
  have hx : tokL ((quoS l).length + 1) (120 :: 32 :: quoS l) = .good ⟨1, [120], 0, false⟩ ((quoS l).length + 1 + 1) (32 :: quoS l) := by
    rw [tok_cons, if_pos (by decide)]
    have e : letLen (120 :: 32 :: quoS l) = 1 := by unfold letLen; rw [List.takeWhile_cons, if_pos (by decide), List.takeWhile_cons, if_neg (by decide)]; rfl
    unfold nameL
    rw [e, if_neg (by decide)]
    rfl
  rw [toks_one ⟨120, 32 :: quoS l, rfl, by decide, by decide, by rw [remB_cons]; rfl⟩ hx]
  have hb := begins_quo l []
  rw [List.append_nil] at hb
  rw [toks_blank hb]
  have ht2 := quoted_esc (l := l) (r := []) h (by simp) ((quoS l).length + 1 + 1 + 1)
  rw [if_neg (by omega), List.append_nil] at ht2
  rw [toks_one hb ht2]
  refine ⟨_, rfl⟩
/-- One token that isn't quoted: what Bare asks. -/
def bareL (l : List UInt8) : Bool := match tokens l with
  | .good [t] _ _ => t.tk.kind == 1 && t.tk.text == l
  | _ => false
theorem quot_shorter (o a : Nat) (l : List UInt8) : ∀ {s : List UInt8} {n : Nat} {r : List UInt8}, quotL o a l = .good s n r → s.length + r.length < l.length := by
  refine quot_ind (fun a l => ∀ {s : List UInt8} {n : Nat} {r : List UInt8}, quotL o a l = .good s n r → s.length + r.length < l.length) ?_ ?_ ?_ ?_ a l
  · intro a l c k hq ih s n r h
    have hp := inQ_pos hq
    rw [quot_byte hq] at h
    cases h2 : quotL o (a + k) (l.drop k) with
    | bad e p => rw [h2] at h; cases h
    | good s2 n2 r2 =>
      rw [h2] at h
      injection h with h3 h4 h5
      subst h3 h5
      have := ih h2
      rw [List.length_drop] at this
      simp; omega
  · intro a l hq s n r h
    obtain ⟨q, hl, _⟩ := inQ_close hq
    rw [quot_close hq] at h
    injection h with h3 h4 h5
    subst h3 h5 hl
    simp
  · intro a l hq s n r h
    rw [quot_over hq] at h; cases h
  · intro a l e hq s n r h
    rw [quot_bad hq] at h; cases h
theorem bare_plain {l : List UInt8} (h : bareL l = true) : ∃ t n r, tokens l = .good [t] n r ∧ t.tk.kind = 1 ∧ t.tk.text = l ∧ t.tk.quoted = false := by
  unfold bareL at h
  split at h
  · rename_i t n r ht
    simp only [Bool.and_eq_true, beq_iff_eq] at h
    refine ⟨t, n, r, ht, h.1, h.2, ?_⟩
    rw [Bool.eq_false_iff]
    intro hq
    obtain ⟨hlen, ss, z, hL, hts⟩ := tokens_lexed ht
    have hi : 0 < ss.length := by have := congrArg List.length hts; rw [place_length] at this; simp at this; omega
    obtain ⟨l1, g, p, r', t', ha⟩ := seg_at hL 0 true 0 hi
    have h1 : t.tk = t' := by
      have := ha.tok
      rw [← hts] at this
      simp at this
      rw [this]
    rw [h1] at hq h
    have hh := (tok_text ha.read ha.ne).2 hq
    obtain ⟨c, p2, hp2⟩ := List.exists_cons_of_ne_nil ha.ne
    subst hp2
    have hc : c = 39 := by simpa using hh.1
    subst hc
    have hrd := ha.read
    rw [List.cons_append, tok_cons, if_neg (by decide), if_neg (by decide), if_neg (by unfold codeB; cases p2 ++ r' <;> simp), if_neg (by decide), if_neg (by decide), if_neg (by decide), if_pos (by decide)] at hrd
    unfold quotedL at hrd
    rw [List.drop_succ_cons, List.drop_zero] at hrd
    cases hqq : quotL 0 (0 + 1) (p2 ++ r') with
    | bad e q => rw [hqq] at hrd; cases hrd
    | good s m q =>
      rw [hqq] at hrd
      dsimp only at hrd
      split at hrd
      · cases hrd
      · injection hrd with h2 h3 h4
        have h5 := quot_shorter _ _ _ hqq
        have h6 : s = l := by rw [← h.2, ← h2]
        have h7 := congrArg List.length ha.text
        rw [h6] at h5
        simp at h5 h7
        omega
  · cases h
end Go.Proofs.YtjaaoljfkbbjpaaGreatDoor
