/-
  What a bare name holds: a small letter and letters; or signs; or one of two marks. No condition.
-/
import Derived.Test.YtfkbbbjicaedmaaGreatDoorQWrE
import Derived.Test.YtfkbbbjicaedmaaGreatDoorQWrC
import Derived.Test.YtfkbbbjicaedmaaGreatDoorQLx11
namespace Go.Proofs.YtfkbbbjicaedmaaGreatDoor
open Go.RowKit Go.Maps
set_option linter.unusedVariables false
set_option linter.unusedSimpArgs false
theorem bareC_L (l : List UInt8) : bareC l = bareL l := by
  unfold bareC bareL bareR
  rfl
theorem bare_one {l : List UInt8} (h : bareC l = true) : ∃ t, l ≠ [] ∧ tokL 0 l = .good t l.length [] ∧ t.kind = 1 ∧ t.quoted = false := by
  rw [bareC_L] at h
  obtain ⟨t, n, r, ht, hk, htx, hq⟩ := bare_plain h
  obtain ⟨hlen, ss, z, hL, hts⟩ := tokens_lexed ht
  have hi : 0 < ss.length := by have := congrArg List.length hts; rw [place_length] at this; simp at this; omega
  obtain ⟨l1, g, p, r', t', ha⟩ := seg_at hL 0 true 0 hi
  have h1 : t.tk = t' := by
    have := ha.tok
    rw [← hts] at this
    simp at this
    rw [this]
  have hp : t'.text = p := (tok_text ha.read ha.ne).1 (by rw [← h1]; exact hq)
  have h7 := congrArg List.length ha.text
  have h8 : p = l := by rw [← hp, ← h1]; exact htx
  rw [h8] at h7
  simp only [List.length_append] at h7
  have hr : r' = [] := List.length_eq_zero_iff.1 (by omega)
  have hrd := ha.read
  have hne := ha.ne
  subst h8 hr
  rw [List.append_nil] at hrd
  exact ⟨t', hne, hrd, by rw [← h1]; exact hk, by rw [← h1]; exact hq⟩
theorem take_all {α : Type} {f : α → Bool} : ∀ {l : List α}, (l.takeWhile f).length = l.length → ∀ c ∈ l, f c = true
  | [], _, c, hc => by cases hc
  | x :: l, h, c, hc => by
    rw [List.takeWhile_cons] at h
    split at h
    · rename_i hx
      rcases List.mem_cons.1 hc with rfl | hc
      · exact hx
      · exact take_all (by simpa using h) c hc
    · simp at h
theorem sign_len : ∀ (l : List UInt8), signLen l ≤ l.length ∧ (signLen l = l.length → ∀ c ∈ l, signB c = true)
  | [] => ⟨Nat.le_refl _, fun _ c hc => by cases hc⟩
  | x :: l => by
    obtain ⟨h1, h2⟩ := sign_len l
    rw [signLen]
    split
    · rename_i hx
      refine ⟨by simpa using h1, fun h c hc => ?_⟩
      rcases List.mem_cons.1 hc with rfl | hc
      · exact (Bool.and_eq_true _ _ ▸ hx).1
      · exact h2 (by simpa using h) c hc
    · exact ⟨Nat.zero_le _, fun h => by simp at h⟩
theorem let_mid {c : UInt8} (h : letB c = true) : midX c = true := by
  unfold midX
  simp only [Bool.not_eq_true', Bool.or_eq_false_iff, beq_eq_false_iff_ne, ne_eq]
  refine ⟨⟨⟨⟨⟨⟨⟨?_, ?_⟩, ?_⟩, ?_⟩, ?_⟩, ?_⟩, ?_⟩, ?_⟩ <;> (rintro rfl; revert h; decide)
theorem sign_mid {c : UInt8} (h : signB c = true) : midX c = true ∧ digX c = false ∧ c ≠ 95 := by
  unfold signB at h
  simp only [List.contains_cons, List.contains_nil, Bool.or_false, Bool.or_eq_true, beq_iff_eq] at h
  rcases h with h | h | h | h | h | h | h | h | h | h | h | h | h | h | h | h | h <;> (subst h; decide)
theorem small_not {c : UInt8} (h : smallB c = true) : digX c = false ∧ c ≠ 95 := by
  constructor
  · rw [Bool.eq_false_iff]
    intro h2
    unfold smallB at h
    unfold digX at h2
    simp only [Bool.and_eq_true, decide_eq_true_eq] at h h2
    have h3 := UInt8.le_iff_toNat_le.1 h.1
    have h4 := h2.2
    rw [show (97 : UInt8).toNat = 97 by rfl] at h3
    omega
  · rintro rfl
    revert h; decide
theorem bare_nb (l : List UInt8) (h : bareC l = true) : NB l := by
  obtain ⟨t, hne, ht, hk, hq⟩ := bare_one h
  obtain ⟨c, q, rfl⟩ := List.exists_cons_of_ne_nil hne
  rw [tok_way] at ht
  cases hw : way (c :: q) with
  | name =>
    rw [hw] at ht
    change nameL 1 0 (c :: q) (letLen (c :: q)) = _ at ht
    unfold nameL at ht
    split at ht
    · cases ht
    injection ht with h1 h2 h3
    have hl := take_all (f := letB) (l := c :: q) (by rw [Nat.zero_add] at h2; exact h2)
    have hs := way_name hw
    obtain ⟨h4, h5⟩ := small_not hs
    refine ⟨fun d hd => let_mid (hl d hd), ⟨c, q, rfl, h4, h5⟩, fun d r e => ?_⟩
    injection e with e1 e2
    subst e1
    exact absurd hs (by decide)
  | solo =>
    rw [hw] at ht
    change oneL 1 0 (c :: q) = _ at ht
    unfold oneL at ht
    injection ht with h1 h2 h3
    have hq0 : q = [] := h3
    subst hq0
    have hc : c = 33 ∨ c = 59 := by
      rw [way_cons] at hw
      repeat' split at hw
      all_goals first | cases hw | skip
      rename_i hh
      simpa using hh
    rcases hc with rfl | rfl
    · exact ⟨fun d hd => by rw [List.mem_singleton.1 hd]; decide, ⟨_, _, rfl, by decide, by decide⟩, fun d r e => by cases e⟩
    · exact ⟨fun d hd => by rw [List.mem_singleton.1 hd]; decide, ⟨_, _, rfl, by decide, by decide⟩, fun d r e => by cases e⟩
  | signs =>
    rw [hw] at ht
    change nameL 1 0 (c :: q) (signLen (c :: q)) = _ at ht
    unfold nameL at ht
    split at ht
    · cases ht
    injection ht with h1 h2 h3
    have hl := (sign_len (c :: q)).2 (by rw [Nat.zero_add] at h2; exact h2)
    obtain ⟨_, h4, h5⟩ := sign_mid (hl c (List.mem_cons_self ..))
    refine ⟨fun d hd => (sign_mid (hl d hd)).1, ⟨c, q, rfl, h4, h5⟩, fun d r e => ?_⟩
    exact (sign_mid (hl d (by rw [e]; simp))).2.1
  | var =>
    exfalso
    rw [hw] at ht
    change nameL 2 0 (c :: q) (letLen (c :: q)) = _ at ht
    unfold nameL at ht
    split at ht
    · cases ht
    injection ht with h1 h2 h3
    rw [← h1] at hk
    cases hk
  | char =>
    exfalso
    rw [hw] at ht
    change charL 0 (c :: q) = _ at ht
    unfold charL at ht
    split at ht
    · injection ht with h1 h2 h3
      rw [← h1] at hk
      cases hk
    · split at ht <;> cases ht
    · cases ht
    · cases ht
  | digits =>
    exfalso
    rw [hw] at ht
    change digitsL 0 (c :: q) = _ at ht
    unfold digitsL at ht
    split at ht
    · cases ht
    injection ht with h1 h2 h3
    rw [← h1] at hk
    cases hk
  | punct =>
    exfalso
    rw [hw] at ht
    injection ht with h1 h2 h3
    rw [← h1] at hk
    cases hk
  | quoted =>
    exfalso
    rw [hw] at ht
    change quotedL 0 (c :: q) = _ at ht
    unfold quotedL at ht
    split at ht
    · cases ht
    · split at ht
      · cases ht
      injection ht with h1 h2 h3
      rw [← h1] at hq
      cases hq
  | stop =>
    exfalso
    rw [hw] at ht
    injection ht with h1 h2 h3
    rw [← h1] at hk
    cases hk
  | none =>
    rw [hw] at ht
    cases ht
theorem text_inj (t u : T) : t.tx bareC = u.tx bareC ↔ t = u := ⟨fun h => tx_inj bare_nb h, fun h => by rw [h]⟩
end Go.Proofs.YtfkbbbjicaedmaaGreatDoor
