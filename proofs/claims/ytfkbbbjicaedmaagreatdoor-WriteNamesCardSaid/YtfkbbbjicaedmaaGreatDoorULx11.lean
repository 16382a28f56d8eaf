/-
  Tokens, plain: a name in quotes (LexQuotes). No condition.
-/
import Derived.Test.YtfkbbbjicaedmaaGreatDoorULx0
namespace Go.Proofs.YtfkbbbjicaedmaaGreatDoor
set_option linter.unusedVariables false
set_option linter.unusedSimpArgs false
def okB (c : UInt8) : Bool := decide (32 ≤ c) && decide (c ≤ 126)
def escB (c : UInt8) : List UInt8 := if c == 39 || c == 92 then [c, c] else [c]
def escS (l : List UInt8) : List UInt8 := l.flatMap escB
def bareL (l : List UInt8) : Bool := match tokens l with
  | .good [t] _ _ => t.tk.kind == 1 && t.tk.text == l
  | _ => false
theorem quot_shorter (o a : Nat) (l : List UInt8) : ∀ {s : List UInt8} {n : Nat} {r : List UInt8}, quotL o a l = .good s n r → s.length + r.length < l.length := by
  refine quot_ind (fun a l => ∀ {s : List UInt8} {n : Nat} {r : List UInt8}, quotL o a l = .good s n r → s.length + r.length < l.length) ?_ ?_ ?_ ?_ a l
  · intro a l c k hq ih s n r h
    have hp := inQ_pos hq
    rw [quot_byte hq] at h
    cases h2 : quotL o (a + k) (l.drop k) with
    | bad e p => rw [h2] at h; cases h
    | good s2 n2 r2 =>
      rw [h2] at h
      injection h with h3 h4 h5
      subst h3 h5
      have := ih h2
      rw [List.length_drop] at this
      simp; omega
  · intro a l hq s n r h
    obtain ⟨q, hl, _⟩ := inQ_close hq
    rw [quot_close hq] at h
    injection h with h3 h4 h5
    subst h3 h5 hl
    simp
  · intro a l hq s n r h
    rw [quot_over hq] at h; cases h
  · intro a l e hq s n r h
    rw [quot_bad hq] at h; cases h
theorem bare_plain {l : List UInt8} (h : bareL l = true) : ∃ t n r, tokens l = .good [t] n r ∧ t.tk.kind = 1 ∧ t.tk.text = l ∧ t.tk.quoted = false := by
  unfold bareL at h
  split at h
  · rename_i t n r ht
    simp only [Bool.and_eq_true, beq_iff_eq] at h
    refine ⟨t, n, r, ht, h.1, h.2, ?_⟩
    rw [Bool.eq_false_iff]
    intro hq
    obtain ⟨hlen, ss, z, hL, hts⟩ := tokens_lexed ht
    have hi : 0 < ss.length := by have := congrArg List.length hts; rw [place_length] at this; simp at this; omega
    obtain ⟨l1, g, p, r', t', ha⟩ := seg_at hL 0 true 0 hi
    have h1 : t.tk = t' := by
      have := ha.tok
      rw [← hts] at this
      simp at this
      rw [this]
    rw [h1] at hq h
    have hh := (tok_text ha.read ha.ne).2 hq
    obtain ⟨c, p2, hp2⟩ := List.exists_cons_of_ne_nil ha.ne
    subst hp2
    have hc : c = 39 := by simpa using hh.1
    subst hc
    have hrd := ha.read
    rw [List.cons_append, tok_cons, if_neg (by decide), if_neg (by decide), if_neg (by unfold codeB; cases p2 ++ r' <;> simp), if_neg (by decide), if_neg (by decide), if_neg (by decide), if_pos (by decide)] at hrd
    unfold quotedL at hrd
    rw [List.drop_succ_cons, List.drop_zero] at hrd
    cases hqq : quotL 0 (0 + 1) (p2 ++ r') with
    | bad e q => rw [hqq] at hrd; cases hrd
    | good s m q =>
      rw [hqq] at hrd
      dsimp only at hrd
      split at hrd
      · cases hrd
      · injection hrd with h2 h3 h4
        have h5 := quot_shorter _ _ _ hqq
        have h6 : s = l := by rw [← h.2, ← h2]
        have h7 := congrArg List.length ha.text
        rw [h6] at h5
        simp at h5 h7
        omega
  · cases h
end Go.Proofs.YtfkbbbjicaedmaaGreatDoor
