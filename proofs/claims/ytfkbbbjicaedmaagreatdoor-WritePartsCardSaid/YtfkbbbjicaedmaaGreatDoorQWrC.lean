/-
  Texts with a terminator behind them tell the tree (the whole). Condition: as in the text ahead.
-/
import Derived.Test.YtfkbbbjicaedmaaGreatDoorQWrB
namespace Go.Proofs.YtfkbbbjicaedmaaGreatDoor
set_option linter.unusedVariables false
set_option linter.unusedSimpArgs false
set_option linter.unusedSectionVars false
theorem itF_back : ∀ (n : Nat) (t : T), (itF n t).1.foldr (fun a b => T.c [46] [a, b]) (itF n t).2 = t
  | 0, t => by simp [itF]
  | n + 1, .v x => by simp [itF]
  | n + 1, .n x => by simp [itF]
  | n + 1, .a x => by simp [itF]
  | n + 1, .c nm [] => by simp [itF]
  | n + 1, .c nm [x] => by simp [itF]
  | n + 1, .c nm [x, l] => by
    by_cases h : nm = [46]
    · have e : itF (n + 1) (.c nm [x, l]) = (x :: (itF n l).1, (itF n l).2) := by simp [itF, h]
      rw [e, List.foldr_cons, itF_back n l, h]
    · have e : itF (n + 1) (.c nm [x, l]) = ([], .c nm [x, l]) := by simp [itF, h]
      rw [e]; rfl
  | n + 1, .c nm (x :: y :: z :: r) => by simp [itF]
theorem items_some {nm : List UInt8} {args : List T} (h : nm = [46] ∧ args.length = 2) : ∃ a ls, (T.items (.c nm args)).1 = a :: ls := by
  match args, h with
  | [x, l], ⟨hn, _⟩ =>
    obtain ⟨m, hm⟩ : ∃ m, (T.c nm [x, l]).nd = m + 1 := ⟨_, by simp only [T.nd]; exact Nat.add_comm _ _⟩
    refine ⟨x, (itF m l).1, ?_⟩
    unfold T.items
    rw [hm]
    simp [itF, hn]
variable {bare : List UInt8 → Bool} (hb : ∀ nm, bare nm = true → NB nm)
theorem join_some (a : T) (ls : List T) : ∃ z, joinX ((a :: ls).map (T.tx bare)) = a.tx bare ++ z := by
  cases ls with
  | nil => exact ⟨[], by simp [joinX]⟩
  | cons b bs => exact ⟨44 :: joinX ((b :: bs).map (T.tx bare)), by simp [joinX]⟩
include hb
theorem a_c {nm nm2 x y : List UInt8} {args : List T} (hx : Trm x) (hy : Trm y) (h : (T.a nm).tx bare ++ x = (T.c nm2 args).tx bare ++ y) : False := by
  have ht : tagX (.a nm) = tagX (.c nm2 args) := by rw [← cls_tx hb _ hx, ← cls_tx hb _ hy, h]
  by_cases hl : nm2 = [46] ∧ args.length = 2
  · have hn : nm = [91, 93] := by
      rw [tag_a hb, tag_c hb, if_pos hl] at ht
      split at ht
      · assumption
      · split at ht <;> simp at ht
    subst hn
    obtain ⟨a, ls, ha⟩ := items_some hl
    obtain ⟨z, hz⟩ := join_some (bare := bare) a ls
    obtain ⟨c, r, hc, _, _, h3, _⟩ := tx_head hb a
    rw [tx_list bare hl, ha, hz, hc, tx_a] at h
    simp [atmX] at h
    exact h3 h.1.symm
  · have hn : ¬ (nm = [91, 93] ∨ nm = [123, 125]) := by
      intro hn
      rw [tag_a hb, tag_c hb, if_neg hl] at ht
      rcases hn with rfl | rfl <;> simp at ht
    rw [tx_comp bare hl, tx_a] at h
    unfold atmX at h
    rw [if_neg hn, List.append_assoc, List.cons_append] at h
    obtain ⟨_, h2⟩ := fun_inj hb hx.stp (fun c r e => .inl (by simp at e; exact e.1.symm)) h
    rcases hx _ _ h2 with e | e | e | e <;> exact absurd e (by decide)
theorem end_cls (f : T → List UInt8) (e : T) (x : List UInt8) : Cls (endX f e ++ x) := by
  unfold endX
  split
  · exact ⟨_, _, rfl, .inr (.inl rfl)⟩
  · exact ⟨_, _, rfl, .inr (.inr rfl)⟩
theorem nil_of {e : T} (h : isNilX e = true) : e = .a [91, 93] := by
  cases e with
  | a nm => simp [isNilX] at h; rw [h]
  | v n => simp [isNilX] at h
  | n n => simp [isNilX] at h
  | c nm args => simp [isNilX] at h
theorem close_trm (x : List UInt8) : Trm (93 :: x) := fun c r e => by cases e; exact .inr (.inr (.inl rfl))
theorem tx_one : ∀ (k : Nat) (t : T), t.ns ≤ k → One bare t := by
  intro k
  induction k with
  | zero => intro t ht; have := ns_pos t; omega
  | succ k ih =>
    intro t ht u x y hx hy h
    have htag : tagX t = tagX u := by rw [← cls_tx hb t hx, ← cls_tx hb u hy, h]
    have ta : ∀ nm, 2 ≤ tagX (.a nm) := fun nm => by rw [tag_a hb]; split; omega; split <;> omega
    have tc : ∀ nm args, 2 ≤ tagX (.c nm args) := fun nm args => by rw [tag_c hb]; split <;> omega
    cases t with
    | v n =>
      cases u with
      | v m =>
        rw [tx_v, tx_v] at h
        simp only [List.cons_append, List.cons.injEq, true_and] at h
        obtain ⟨h1, h2⟩ := itoa_inj hx.dig hy.dig h
        exact ⟨by rw [h1], h2⟩
      | n m => exact absurd htag (by simp [tagX])
      | a nm => have := ta nm; rw [← htag] at this; simp [tagX] at this
      | c nm args => have := tc nm args; rw [← htag] at this; simp [tagX] at this
    | n n =>
      cases u with
      | v m => exact absurd htag (by simp [tagX])
      | n m =>
        rw [tx_n, tx_n] at h
        obtain ⟨h1, h2⟩ := itoa_inj hx.dig hy.dig h
        exact ⟨by rw [h1], h2⟩
      | a nm => have := ta nm; rw [← htag] at this; simp [tagX] at this
      | c nm args => have := tc nm args; rw [← htag] at this; simp [tagX] at this
    | a nm =>
      cases u with
      | v m => have := ta nm; rw [htag] at this; simp [tagX] at this
      | n m => have := ta nm; rw [htag] at this; simp [tagX] at this
      | c nm2 args => exact (a_c hb hx hy h).elim
      | a nm2 =>
        by_cases h1 : nm = [91, 93] ∨ nm = [123, 125]
        · have h2 : nm = nm2 := by
            rw [tag_a hb, tag_a hb] at htag
            rcases h1 with rfl | rfl
            · rw [if_pos rfl] at htag
              split at htag
              · rename_i h; exact h.symm
              · split at htag <;> simp at htag
            · rw [if_neg (by decide), if_pos rfl] at htag
              split at htag
              · simp at htag
              · split at htag
                · rename_i h; exact h.symm
                · simp at htag
          subst h2
          exact ⟨rfl, List.append_cancel_left h⟩
        · have h2 : ¬ (nm2 = [91, 93] ∨ nm2 = [123, 125]) := by
            intro h2
            rw [tag_a hb, tag_a hb] at htag
            rw [if_neg (fun h => h1 (.inl h)), if_neg (fun h => h1 (.inr h))] at htag
            rcases h2 with rfl | rfl <;> simp at htag
          rw [tx_a, tx_a] at h
          unfold atmX at h
          rw [if_neg h1, if_neg h2] at h
          obtain ⟨h3, h4⟩ := fun_inj hb hx.stp hy.stp h
          exact ⟨by rw [h3], h4⟩
    | c nm args =>
      cases u with
      | v m => have := tc nm args; rw [htag] at this; simp [tagX] at this
      | n m => have := tc nm args; rw [htag] at this; simp [tagX] at this
      | a nm2 => exact (a_c hb hy hx h.symm).elim
      | c nm2 args2 =>
        by_cases h1 : nm = [46] ∧ args.length = 2
        · have h2 : nm2 = [46] ∧ args2.length = 2 := by
            rw [tag_c hb, tag_c hb, if_pos h1] at htag
            split at htag
            · assumption
            · simp at htag
          obtain ⟨hl1, hl2⟩ := items_less h1
          rw [tx_list bare h1, tx_list bare h2] at h
          simp only [List.cons_append, List.append_assoc, List.cons.injEq, true_and] at h
          obtain ⟨h3, h4⟩ := join_inj hb _ _ _ _ (fun a ha => ih a (by have := hl1 a ha; omega)) (end_cls hb _ _ _) (end_cls hb _ _ _) h
          have h5 : (T.items (.c nm args)).2 = (T.items (.c nm2 args2)).2 ∧ x = y := by
            unfold endX at h4
            by_cases e1 : isNilX (T.items (.c nm args)).2 = true <;> by_cases e2 : isNilX (T.items (.c nm2 args2)).2 = true
            · rw [if_pos e1, if_pos e2] at h4
              exact ⟨by rw [nil_of hb e1, nil_of hb e2], by simpa using h4⟩
            · rw [if_pos e1, if_neg e2] at h4
              simp at h4
            · rw [if_neg e1, if_pos e2] at h4
              simp at h4
            · rw [if_neg e1, if_neg e2] at h4
              simp only [List.cons_append, List.append_assoc, List.nil_append, List.cons.injEq, true_and] at h4
              obtain ⟨h6, h7⟩ := ih _ (by omega) _ _ _ (close_trm hb _) (close_trm hb _) h4
              exact ⟨h6, by simpa using h7⟩
          refine ⟨?_, h5.2⟩
          have b1 := itF_back (T.c nm args).nd (.c nm args)
          have b2 := itF_back (T.c nm2 args2).nd (.c nm2 args2)
          change (T.items (.c nm args)).1.foldr _ (T.items (.c nm args)).2 = _ at b1
          change (T.items (.c nm2 args2)).1.foldr _ (T.items (.c nm2 args2)).2 = _ at b2
          rw [← b1, ← b2, h3, h5.1]
        · have h2 : ¬ (nm2 = [46] ∧ args2.length = 2) := by
            intro h2
            rw [tag_c hb, tag_c hb, if_neg h1, if_pos h2] at htag
            simp at htag
          rw [tx_comp bare h1, tx_comp bare h2, List.append_assoc, List.append_assoc, List.cons_append, List.cons_append, List.append_assoc, List.append_assoc] at h
          have so : ∀ z : List UInt8, Stp (40 :: z) := fun z c r e => .inl (by simp at e; exact e.1.symm)
          obtain ⟨h3, h4⟩ := fun_inj hb (so _) (so _) h
          simp only [List.cons.injEq, true_and] at h4
          have hc : ∀ z : List UInt8, Cls ([41] ++ z) := fun z => ⟨_, _, rfl, .inl rfl⟩
          have h3n : (T.c nm args).ns = 1 + nsT args := by simp [T.ns]
          obtain ⟨h5, h6⟩ := join_inj hb _ _ _ _ (fun a ha => ih a (by have := ns_mem ha; omega)) (hc _) (hc _) h4
          exact ⟨by rw [h3, h5], by simpa using h6⟩
theorem tx_inj {t u : T} (h : t.tx bare = u.tx bare) : t = u :=
  (tx_one hb t.ns t (Nat.le_refl _) u [] [] (fun c r e => by cases e) (fun c r e => by cases e) (by rw [List.append_nil, List.append_nil]; exact h)).1
end Go.Proofs.YtfkbbbjicaedmaaGreatDoor
