/-
  Tokens, plain: a token stays the same, whatever stands behind it, as long as the next byte is the same, or ends every token. No condition.
-/
import Derived.Test.YtjaaoljfkbbjpaaGreatDoorLx2
namespace Go.Proofs.YtjaaoljfkbbjpaaGreatDoor
set_option linter.unusedVariables false
set_option linter.unusedSimpArgs false

def Cut (l : List UInt8) : Prop := ∀ c, l.head? = some c → blankB c = true ∨ c = 37
/-- What may stand behind a token t in the place of r. -/
def Fol (t : Tk) (r r' : List UInt8) : Prop := Alike r r' ∨ (Cut r' ∧ ¬ (t.kind = 1 ∧ t.text = [46] ∧ t.quoted = false))

theorem blank_cases {c : UInt8} (h : blankB c = true) : c = 9 ∨ c = 10 ∨ c = 13 ∨ c = 32 := by
  simpa [blankB, or_assoc] using h
theorem cut_cases {l : List UInt8} (h : Cut l) {c : UInt8} (hc : l.head? = some c) : c = 9 ∨ c = 10 ∨ c = 13 ∨ c = 32 ∨ c = 37 := by
  rcases h c hc with h | h
  · rcases blank_cases h with h | h | h | h <;> simp [h]
  · simp [h]
theorem cut_not {l : List UInt8} (h : Cut l) (f : UInt8 → Bool) (hf : f 9 = false ∧ f 10 = false ∧ f 13 = false ∧ f 32 = false ∧ f 37 = false) : ∀ c, l.head? = some c → f c = false := by
  intro c hc
  rcases cut_cases h hc with rfl | rfl | rfl | rfl | rfl
  · exact hf.1
  · exact hf.2.1
  · exact hf.2.2.1
  · exact hf.2.2.2.1
  · exact hf.2.2.2.2
theorem fol_not {t : Tk} {r r' : List UInt8} (h : Fol t r r') (f : UInt8 → Bool) (hf : f 9 = false ∧ f 10 = false ∧ f 13 = false ∧ f 32 = false ∧ f 37 = false) (hr : ∀ c, r.head? = some c → f c = false) : ∀ c, r'.head? = some c → f c = false := by
  rcases h with h | h
  · intro c hc; exact hr c (h.1.trans hc)
  · exact cut_not h.1 f hf
theorem while_app (f : UInt8 → Bool) (p r : List UInt8) : ((p ++ r).takeWhile f).length = p.length ↔ (∀ c ∈ p, f c = true) ∧ (∀ c, r.head? = some c → f c = false) := by
  induction p with
  | nil =>
    cases r with
    | nil => simp
    | cons c r =>
      simp only [List.nil_append, List.takeWhile_cons, List.length_nil, List.head?_cons]
      cases hc : f c <;> simp [hc]
  | cons d p ih =>
    simp only [List.cons_append, List.takeWhile_cons]
    cases hd : f d with
    | true => simp [hd] ; simpa using ih
    | false => simp [hd]
theorem sign_nought {r : List UInt8} : signLen r = 0 ↔ ∀ c, r.head? = some c → signB c = false ∨ remB r = true := by
  cases r with
  | nil => simp [signLen]
  | cons c r =>
    rw [signLen]
    cases h1 : signB c <;> cases h2 : remB (c :: r) <;> simp [h1, h2]
theorem remB_cons (c : UInt8) (r : List UInt8) : remB (c :: r) = (c == 47 && r.head? == some 42) := by
  cases r with
  | nil => simp [remB]
  | cons d r => simp [remB]
theorem remB_append (c d : UInt8) (p r : List UInt8) : remB (c :: d :: p ++ r) = (c == 47 && d == 42) := rfl
theorem remB_next {t : Tk} {r r' : List UInt8} (h : Fol t r r') {c : UInt8} (hr : remB (c :: r) = false) : remB (c :: r') = false := by
  rw [remB_cons] at hr ⊢
  rcases h with h | h
  · rw [← h.1]; exact hr
  · cases hh : r'.head? with
    | none => simp
    | some d => rcases cut_cases h.1 hh with rfl | rfl | rfl | rfl | rfl <;> simp
theorem remB_keep {t : Tk} {p r r' : List UInt8} (h : Fol t r r') (hp : p ≠ []) (hr : remB (p ++ r) = false) : remB (p ++ r') = false := by
  match p, hp with
  | [c], _ => exact remB_next h hr
  | c :: d :: p, _ => rw [remB_append] at hr ⊢; exact hr
theorem signs_app {t : Tk} {p r r' : List UInt8} (h : Fol t r r') (hp : p ≠ []) (hl : signLen (p ++ r) = p.length) : signLen (p ++ r') = p.length := by
  induction p with
  | nil => exact absurd rfl hp
  | cons c p ih =>
    rw [List.cons_append, signLen] at hl
    split at hl
    · rename_i hc
      simp only [Bool.and_eq_true, Bool.not_eq_true'] at hc
      have hrem : remB (c :: (p ++ r')) = false := remB_keep (p := c :: p) h (by simp) hc.2
      rw [List.cons_append, signLen, if_pos (by simp [hc.1, hrem])]
      have hl' : signLen (p ++ r) = p.length := by simpa using hl
      by_cases hp2 : p = []
      · subst hp2
        rw [List.nil_append, List.length_nil] at hl'
        rw [List.nil_append]
        have h0 : signLen r' = 0 := by
          rw [sign_nought] at hl' ⊢
          intro d hd
          rcases h with h | h
          · rw [← h.2]; exact hl' d (h.1.trans hd)
          · left; rcases cut_cases h.1 hd with rfl | rfl | rfl | rfl | rfl <;> rfl
        rw [h0]; rfl
      · rw [ih hp2 hl']; rfl
    · simp at hl
theorem inQ_app {q r r' : List UInt8} {c : UInt8} (h : inQ (q ++ r) = .byte c q.length) (hq : q ≠ []) : inQ (q ++ r') = .byte c q.length := by
  match q, hq with
  | [x], _ =>
    simp only [List.cons_append, List.nil_append, List.length_singleton] at h ⊢
    rw [inQ] at h ⊢
    split at h
    · cases r with
      | nil => cases h
      | cons e r => rw [escL] at h; repeat' split at h
                    all_goals first | (injection h with h1 h2; cases h2) | cases h
    · rename_i h92
      rw [if_neg h92]
      split at h
      · split at h
        · injection h with h1 h2; cases h2
        · cases h
      · rename_i h39
        rw [if_neg h39]
        exact h
  | [x, y], _ =>
    simp only [List.cons_append, List.nil_append] at h ⊢
    rw [inQ] at h ⊢
    split at h
    · rename_i h92; rw [if_pos h92]; rw [escL] at h ⊢; exact h
    · rename_i h92
      rw [if_neg h92]
      split at h
      · rename_i h39; rw [if_pos h39]; simpa using h
      · rename_i h39; rw [if_neg h39]; exact h
  | x :: y :: z :: q, _ =>
    have := inQ_pos h
    simp at this
theorem inQ_close_app {r r' : List UInt8} (h : inQ (39 :: r) = .close) (hr : ∀ c, r'.head? = some c → (c == 39) = false) : inQ (39 :: r') = .close := by
  rw [inQ]
  simp only [show ((39 : UInt8) == 92) = false from rfl, show ((39 : UInt8) == 39) = true from rfl]
  have : (r'.head? == some 39) = false := by
    cases hh : r'.head? with
    | none => rfl
    | some c => have := hr c hh; simpa using this
  simp [this]
/-- Behind the last quote no further one stands. -/
theorem quot_end (o a : Nat) (l : List UInt8) : ∀ {s : List UInt8} {n : Nat} {r : List UInt8}, quotL o a l = .good s n r → ∀ x, r.head? = some x → (x == 39) = false := by
  refine quot_ind (fun a l => ∀ {s : List UInt8} {n : Nat} {r : List UInt8}, quotL o a l = .good s n r → ∀ x, r.head? = some x → (x == 39) = false) ?_ ?_ ?_ ?_ a l
  · intro a l c k hq ih s n r h
    rw [quot_byte hq] at h
    split at h
    · rename_i h2
      injection h with h3 h4 h5
      subst h5
      exact ih h2
    · cases h
  · intro a l hq s n r h x hx
    rw [quot_close hq] at h
    obtain ⟨r2, rfl, h2⟩ := inQ_close hq
    injection h with h3 h4 h5
    subst h5
    cases hh : x == 39 with
    | false => rfl
    | true => exact absurd (hx.trans (by rw [show x = 39 by simpa using hh])) h2
  · intro a l hq s n r h; rw [quot_over hq] at h; cases h
  · intro a l e hq s n r h; rw [quot_bad hq] at h; cases h
theorem quot_app (o : Nat) (r r' : List UInt8) (hr : ∀ c, r'.head? = some c → (c == 39) = false) (a : Nat) (l : List UInt8) : ∀ (q : List UInt8), l = q ++ r → ∀ {s : List UInt8} {n : Nat}, quotL o a l = .good s n r → n = a + q.length → quotL o a (q ++ r') = .good s n r' := by
  refine quot_ind (fun a l => ∀ (q : List UInt8), l = q ++ r → ∀ {s : List UInt8} {n : Nat}, quotL o a l = .good s n r → n = a + q.length → quotL o a (q ++ r') = .good s n r') ?_ ?_ ?_ ?_ a l
  · intro a l c k hq ih q hl s n h hn
    rw [quot_byte hq] at h
    have hk := inQ_pos hq
    split at h
    · rename_i s' n' r'' h2
      injection h with h3 h4 h5
      subst h4; subst h5
      obtain ⟨q2, hq1, hq2, hne⟩ := quot_split _ _ _ h2
      have hkq : k < q.length := by have := List.length_pos_iff.2 hne; omega
      have hd : l.drop k = q.drop k ++ r'' := by rw [hl, List.drop_append_of_le_length (by omega)]
      have hin : inQ (q ++ r') = .byte c k := by
        have e1 : q = q.take k ++ q.drop k := (List.take_append_drop k q).symm
        have e2 : (q.take k).length = k := by rw [List.length_take]; omega
        have h5 : inQ (q.take k ++ (q.drop k ++ r'')) = .byte c (q.take k).length := by rw [e2, ← List.append_assoc, ← e1, ← hl]; exact hq
        have h6 := inQ_app (r' := q.drop k ++ r') h5 (by intro h0; rw [h0] at e2; simp at e2; omega)
        rw [e2, ← List.append_assoc, ← e1] at h6
        exact h6
      rw [quot_byte hin, List.drop_append_of_le_length (by omega), ih (q.drop k) hd h2 (by rw [List.length_drop]; omega)]
      simp only [h3]
    · cases h
  · intro a l hq q hl s n h hn
    rw [quot_close hq] at h
    obtain ⟨r2, rfl, _⟩ := inQ_close hq
    injection h with h3 h4 h5
    have : q = [39] := by
      have h1 : q.length = 1 := by omega
      match q, h1 with
      | [x], _ => simp at hl; rw [hl.1]
    subst this
    have h6 := inQ_close_app hq hr
    show quotL o a (39 :: r') = _
    rw [quot_close h6, ← h3, ← h4]; rfl
  · intro a l hq q hl s n h; rw [quot_over hq] at h; cases h
  · intro a l e hq q hl s n h; rw [quot_bad hq] at h; cases h
theorem codeB_not_dig {c : UInt8} (h : digB c = false) (l : List UInt8) : codeB (c :: l) = false := by
  cases l with
  | nil => rfl
  | cons e r =>
    have : (c == 48) = false := by
      cases hc : c == 48 with
      | false => rfl
      | true =>
        have : c = 48 := by simpa using hc
        subst this; exact absurd h (by decide)
    simp [codeB, this]
theorem way_app {t : Tk} {a n : Nat} {p r r' : List UInt8} (h : tokL a (p ++ r) = .good t n r) (hn : n = a + p.length) (hp : p ≠ []) (hf : Fol t r r') : way (p ++ r') = way (p ++ r) := by
  match p, hp with
  | c :: d :: p, _ => rfl
  | [c], _ =>
    have hcode : codeB (c :: r') = codeB (c :: r) ∨ digB c = false := by
      rcases hf with hf | hf
      · left
        obtain ⟨h1, _⟩ := hf
        cases r <;> cases r' <;> simp_all [codeB]
      · by_cases hd : c = 48
        · left
          subst hd
          have hw : codeB (48 :: r) = false := by
            cases hc : codeB (48 :: r) with
            | false => rfl
            | true =>
              exfalso
              have : tokL a ([48] ++ r) = charL a (48 :: r) := by
                show tokL a (48 :: r) = _
                rw [tok_cons, if_neg (by decide), if_neg (by decide), if_pos hc]
              rw [this] at h
              unfold charL at h
              split at h
              · injection h with h1 h2 h3; simp at hn; omega
              · split at h <;> cases h
              · cases h
              · cases h
          rw [hw]
          cases r' with
          | nil => rfl
          | cons e r' => rcases cut_cases hf.1 (c := e) rfl with rfl | rfl | rfl | rfl | rfl <;> rfl
        · left
          have hd2 : (c == 48) = false := by simpa using hd
          cases r <;> cases r' <;> simp [codeB, hd2]
    have hstop : stopB (c :: r') = stopB (c :: r) := by
      by_cases hd : c = 46
      · subst hd
        rcases hf with hf | hf
        · obtain ⟨h1, _⟩ := hf
          cases r <;> cases r' <;> simp_all [stopB]
        · have h1 : stopB (46 :: r') = true := by
            cases r' with
            | nil => rfl
            | cons e r' => rcases cut_cases hf.1 (c := e) rfl with rfl | rfl | rfl | rfl | rfl <;> rfl
          rw [h1]
          cases hs : stopB (46 :: r) with
          | true => rfl
          | false =>
            exfalso
            have hcd : codeB (46 :: r) = false := by cases r <;> rfl
            have : tokL a ([46] ++ r) = nameL 1 a (46 :: r) (signLen (46 :: r)) := by
              show tokL a (46 :: r) = _
              rw [tok_cons, if_neg (by decide), if_neg (by decide), hcd, if_neg (by decide), if_neg (by decide), if_neg (by decide), if_neg (by decide), if_neg (by decide), hs, if_neg (by decide), if_pos (by decide)]
            rw [this] at h
            unfold nameL at h
            split at h
            · cases h
            · injection h with h2 h3 h4
              have hk : signLen (46 :: r) = 1 := by simp at hn; omega
              rw [hk] at h2
              exact hf.2 ⟨by rw [← h2], by rw [← h2]; rfl, by rw [← h2]⟩
      · have hd2 : (c == 46) = false := by simpa using hd
        simp [stopB, hd2]
    show way (c :: r') = way (c :: r)
    rcases hcode with hcode | hcode
    · rw [way_cons, way_cons, hcode, hstop]
    · have hc1 := codeB_not_dig hcode r'
      have hc2 := codeB_not_dig hcode r
      rw [way_cons, way_cons, hc1, hc2, hstop]
theorem tok_app {t : Tk} {a n : Nat} {p r r' : List UInt8} (h : tokL a (p ++ r) = .good t n r) (hn : n = a + p.length) (hp : p ≠ []) (hf : Fol t r r') : tokL a (p ++ r') = .good t n r' := by
  have hw := way_app h hn hp hf
  rw [tok_way, hw]
  rw [tok_way] at h
  have htk : ∀ x : List UInt8, (p ++ x).take p.length = p := fun x => by simp
  have hdr : ∀ x : List UInt8, (p ++ x).drop p.length = x := fun x => by simp
  have hname : ∀ kind k k', k' = p.length → (k = p.length → k' = p.length) → nameL kind a (p ++ r) k = .good t n r → nameL kind a (p ++ r') k' = .good t n r' := by
    intro kind k k' hk' _ h1
    unfold nameL at h1 ⊢
    split at h1
    · cases h1
    · rename_i h64
      injection h1 with h2 h3 h4
      have hk : k = p.length := by omega
      subst hk; subst hk'
      rw [if_neg h64, htk, hdr, hn]
      rw [htk] at h2; rw [h2]
  have hlen : ∀ {kind k}, nameL kind a (p ++ r) k = .good t n r → k = p.length := by
    intro kind k h1
    unfold nameL at h1
    split at h1
    · cases h1
    · injection h1 with h2 h3 h4; omega
  have hone : ∀ kind, oneL kind a (p ++ r) = .good t n r → oneL kind a (p ++ r') = .good t n r' := by
    intro kind h1
    unfold oneL at h1 ⊢
    injection h1 with h2 h3 h4
    have hk : p.length = 1 := by omega
    have e1 := htk r; have e2 := htk r'; have e3 := hdr r'
    rw [hk] at e1 e2 e3
    rw [e1] at h2
    rw [e2, e3, h2, h3]
  cases hv : way (p ++ r) with
  | none => rw [hv] at h; cases h
  | name =>
    rw [hv] at h
    have hk := hlen h
    refine hname _ _ _ ?_ (fun _ => ?_) h <;>
    · obtain ⟨h1, h2⟩ := (while_app letB p r).1 hk
      exact (while_app letB p r').2 ⟨h1, fol_not hf letB ⟨rfl, rfl, rfl, rfl, rfl⟩ h2⟩
  | var =>
    rw [hv] at h
    have hk := hlen h
    refine hname _ _ _ ?_ (fun _ => ?_) h <;>
    · obtain ⟨h1, h2⟩ := (while_app letB p r).1 hk
      exact (while_app letB p r').2 ⟨h1, fol_not hf letB ⟨rfl, rfl, rfl, rfl, rfl⟩ h2⟩
  | signs =>
    rw [hv] at h
    have hk := hlen h
    exact hname _ _ _ (signs_app hf hp hk) (fun _ => signs_app hf hp hk) h
  | punct => rw [hv] at h; exact hone _ h
  | solo => rw [hv] at h; exact hone _ h
  | stop => rw [hv] at h; exact hone _ h
  | digits =>
    rw [hv] at h
    simp only [wayL, digitsL] at h ⊢
    split at h
    · cases h
    · rename_i hd
      injection h with h2 h3 h4
      have hk : digLen (p ++ r) = p.length := by omega
      have hk' : digLen (p ++ r') = p.length := by
        obtain ⟨h5, h6⟩ := (while_app digB p r).1 hk
        exact (while_app digB p r').2 ⟨h5, fol_not hf digB ⟨rfl, rfl, rfl, rfl, rfl⟩ h6⟩
      rw [hk, htk] at hd h2
      rw [hk', htk, if_neg hd, hdr, h2, hn]
  | char =>
    rw [hv] at h
    simp only [wayL, charL] at h ⊢
    split at h
    · rename_i c k hq
      have hpos := inQ_pos hq
      injection h with h2 h3 h4
      have hk : p.length = 2 + k := by omega
      have hd : ∀ x : List UInt8, (p ++ x).drop 2 = p.drop 2 ++ x := fun x => List.drop_append_of_le_length (by omega)
      have hq' : inQ (p.drop 2 ++ r') = .byte c k := by
        have e : (p.drop 2).length = k := by rw [List.length_drop]; omega
        rw [hd, ← e] at hq
        have := inQ_app (r' := r') hq (by intro h0; rw [h0] at e; simp at e; omega)
        rw [e] at this; exact this
      rw [hd, hq']
      simp only
      rw [← hk, htk, hdr]
      rw [← hk, htk] at h2
      rw [h2, hn]
    · split at h <;> cases h
    · cases h
    · cases h
  | quoted =>
    rw [hv] at h
    simp only [wayL, quotedL] at h ⊢
    split at h
    · cases h
    · rename_i s m q hq
      split at h
      · cases h
      · rename_i h64
        injection h with h5 h6 h7
        subst h6; subst h7
        match p, hp with
        | c :: p2, _ =>
          simp only [List.cons_append, List.drop_succ_cons, List.drop_zero] at hq ⊢
          have hnot : ∀ x, q.head? = some x → (x == 39) = false := by
            exact quot_end _ _ _ hq
          rw [quot_app a q r' (fol_not hf (· == 39) ⟨rfl, rfl, rfl, rfl, rfl⟩ hnot) (a + 1) _ p2 rfl hq (by simp at hn; omega)]
          simp only
          rw [if_neg h64, h5]
end Go.Proofs.YtjaaoljfkbbjpaaGreatDoor
