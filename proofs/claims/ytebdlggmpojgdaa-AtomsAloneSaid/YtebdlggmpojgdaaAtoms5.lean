/-
  Package atoms, plain: one of many operations takes a step. Condition: there are few.
-/
import Derived.Test.YtebdlggmpojgdaaAtoms4
namespace Go.Proofs.Ytebdlggmpojgdaa
open Go.RowKit Go.Maps
set_option linter.unusedVariables false

section
variable {A : AS} {T : TS} {P : List Int} {m : Int} {os : List OS} {B i : Nat} {M : Int} {o : OS}
theorem AInv.owns (h : AInv A T P m os B M) (hr : A.allocErr 1 = 0) (hi : os[i]? = some o) (h10 : o.next < 10) : Go.Proofs.Ytebdlggmpojgdaa.owns (os.set i (stepO A T o)) = Go.Proofs.Ytebdlggmpojgdaa.owns os + if o.next = 6 then 1 else 0 := by
  have hs := sum_set (f := fun o => if o.block = 0 then 0 else 1) (x := stepO A T o) hi
  have hm0 := h.ok.made0
  have ho := h.ops i o hi
  rw [stepO_block A T o hr] at hs
  unfold Go.Proofs.Ytebdlggmpojgdaa.owns
  by_cases h6 : o.next = 6
  · have h0 := ho.hasnt (.inr h6)
    have h1 : ¬ A.made + 1 = 0 := by omega
    simp only [h6, if_true, h0, h1, if_false] at hs ⊢
    omega
  · simp only [h6, if_false] at hs ⊢
    omega
theorem AInv.next (h : AInv A T P m os B M) (hB : B + os.length ≤ 60000) (hM : (B : Int) + os.length < M) (hi : os[i]? = some o) (h10 : o.next < 10) :
    ∃ P' m', AInv (stepA A T o) (stepT A T o) P' m' (os.set i (stepO A T o)) B M ∧ ((stepO A T o).next ≠ 10 → P' = P ∧ m' = m ∧ pots P.length P m (os.set i (stepO A T o)) + 1 ≤ pots P.length P m os) := by
  have hr := h.room hM
  have ho := h.ops i o hi
  obtain ⟨k1, k2, k3, k4, k5⟩ := stepA_ok h hr hi h10
  have hown := h.owns hr hi h10
  have hset := h.set hr hi h10
  have hlt : i < os.length := by
    rcases Nat.lt_or_ge i os.length with h | h
    · exact h
    · rw [List.getElem?_eq_none h] at hi; cases hi
  have hlive : ∀ (k : Nat) (a : OS), os[k]? = some a → a.block ≠ 0 → a.next ≤ 9 → a.block ≠ A.made + 1 := fun k a ha h0 h9 e => by
    obtain ⟨_, _, c, ec, _⟩ := (h.ops k a ha).own h0 (((h.ops k a ha).none h9).resolve_left h0) h9
    have := (h.ok.key ec).2
    omega
  by_cases hp : o.next = 8 ∧ o.seen = m
  · obtain ⟨h8, hs⟩ := hp
    have hmade : A.made < 281474976710656 := by
      have := h.made; have := owns_le os; omega
    obtain ⟨eT, eO, hL, hfr, _⟩ := h.lst.putS h.ok ho h8 hs hmade
    refine ⟨o.block :: P, mWith m o.block, ⟨k1, k2.trans h.most, k3.trans h.flt, ?_, ?_, by rw [eT]; exact hL, ?_, hset⟩, fun hn => ?_⟩
    · rw [hown]; have := h.used; split at k4 <;> simp_all <;> omega
    · rw [hown]; have := h.made; split at k5 <;> simp_all <;> omega
    · intro k a hk
      rw [eT]
      by_cases e : k = i
      · subst e
        rw [List.getElem?_set_self hlt] at hk
        obtain rfl := Option.some.inj hk
        rw [eO]
        exact OpInv.mk10 ho.list (ho.head.imp id (fun hh => List.mem_cons_of_mem _ hh)) rfl
      · rw [List.getElem?_set_ne (fun e' => e e'.symm)] at hk
        exact (h.ops k a hk).put (fun h9 h0 => h.apart i k o a hi hk (fun e' => e e'.symm) (by omega) h9 h0) hfr
    · rw [eO] at hn; exact absurd rfl hn
  · refine ⟨P, m, ⟨k1, k2.trans h.most, k3.trans h.flt, ?_, ?_, h.lst.step h.ok ho hp h10, ?_, hset⟩, fun _ => ⟨rfl, rfl, ?_⟩⟩
    · rw [hown]; have := h.used; split at k4 <;> simp_all <;> omega
    · rw [hown]; have := h.made; split at k5 <;> simp_all <;> omega
    · intro k a hk
      by_cases e : k = i
      · subst e
        rw [List.getElem?_set_self hlt] at hk
        obtain rfl := Option.some.inj hk
        exact OpInv.step h.lst h.ok ho hp h10 hr
      · rw [List.getElem?_set_ne (fun e' => e e'.symm)] at hk
        exact OpInv.other h.lst h.ok (h.ops k a hk) (fun h0 h9 => h.apart i k o a hi hk (fun e' => e e'.symm) (by omega) h9 h0) (hlive k a hk)
    · have h1 := sum_set (f := pot P.length P m) (x := stepO A T o) hi
      have h2 := pot_step h.lst ho h10 hr
      unfold pots
      omega
theorem lives_set (hi : os[i]? = some o) (x : OS) (h10 : o.next ≠ 10) : lives (os.set i x) + (if x.next = 10 then 1 else 0) = lives os := by
  have := sum_set (f := fun o => if o.next = 10 then 0 else 1) (x := x) hi
  unfold lives
  simp only [h10, if_false] at this
  split at this <;> rename_i hx <;> simp only [hx, if_true, if_false] <;> omega
/-- An operation is begun. -/
theorem AInv.begin (h : AInv A T P m os B M) {x : OS} (hx : x.next ≤ 1) (hb : x.block = 0) (hh : x.head = 0) (hl : 0 ≤ x.list ∧ x.list < T.lists) : AInv A T P m (os ++ [x]) B M := by
  have hg : ∀ (k : Nat) (a : OS), (os ++ [x])[k]? = some a → os[k]? = some a ∨ a = x := fun k a hk => by
    rcases Nat.lt_or_ge k os.length with h1 | h1
    · rw [List.getElem?_append_left h1] at hk; exact .inl hk
    · rw [List.getElem?_append_right h1] at hk
      right
      rcases Nat.eq_zero_or_pos (k - os.length) with e | e
      · rw [e] at hk; simpa using hk.symm
      · rw [List.getElem?_eq_none (by simp; omega)] at hk; cases hk
  have hmono : Go.Proofs.Ytebdlggmpojgdaa.owns (os ++ [x]) = Go.Proofs.Ytebdlggmpojgdaa.owns os := by unfold Go.Proofs.Ytebdlggmpojgdaa.owns; simp [hb]
  refine ⟨h.ok, h.most, h.flt, by rw [hmono]; exact h.used, by rw [hmono]; exact h.made, h.lst, fun k a hk => ?_, fun k j a b hk hj hkj ha hb9 hb0 => ?_⟩
  · rcases hg k a hk with h1 | rfl
    · exact h.ops k a h1
    · exact ⟨by omega, hl, by omega, .inl hh, by omega, fun h0 => absurd hb h0, fun _ => .inl hb, by omega, fun _ => hb⟩
  · rcases hg j b hj with h1 | rfl
    · rcases hg k a hk with h2 | rfl
      · exact h.apart k j a b h2 h1 hkj ha hb9 hb0
      · rw [hb]; exact hb0
    · exact absurd hb hb0
/-- All operations are over: they are forgotten. -/
theorem AInv.forget (h : AInv A T P m os B M) : AInv A T P m [] (B + Go.Proofs.Ytebdlggmpojgdaa.owns os) M :=
  ⟨h.ok, h.most, h.flt, by have := h.used; simp [Go.Proofs.Ytebdlggmpojgdaa.owns] at this ⊢; omega, by have := h.made; simp [Go.Proofs.Ytebdlggmpojgdaa.owns] at this ⊢; omega, h.lst, by simp, by simp⟩
end
end Go.Proofs.Ytebdlggmpojgdaa
