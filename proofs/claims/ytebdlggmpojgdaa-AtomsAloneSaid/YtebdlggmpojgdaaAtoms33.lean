/-
  Package atoms, plain: what a step makes of the cells of the table's lists; an arena's step with what is put told. Conditions: a table with operations under way.
-/
import Derived.Test.YtebdlggmpojgdaaAtoms32
import Derived.Test.YtebdlggmpojgdaaAtoms5
namespace Go.Proofs.Ytebdlggmpojgdaa
open Go.RowKit Go.Maps
set_option linter.unusedVariables false

section
variable {A A' : AS} {T T' : TS} {P : List Int} {m : Int} {o : OS} {os : List OS} {B i : Nat} {M : Int}
theorem val_of_look {b : Int} (h : look A'.bl b = look A.bl b) (i : Int) : A'.val b i = A.val b i := by unfold AS.val; rw [h]
theorem swap_other {f k x y b : Int} (hb : b ≠ f) (i : Int) (hf : (look A.bl f).isSome) : (A.swapAt f k x y).val b i = A.val b i := by
  apply val_of_look
  unfold AS.swapAt
  cases h : look A.bl f with
  | none => rw [h] at hf; cases hf
  | some cs =>
    dsimp only
    split
    · exact look_set' _ _ _ hb
    · rfl
theorem swap_first {f k x y : Int} {cs : List Int} (el : look A.bl f = some cs) (k0 : 0 ≤ k) (k1 : k < cs.length) {i : Int} (i0 : 0 ≤ i) (i1 : i < cs.length) :
    (A.swapAt f k x y).val f i = if i = k ∧ A.val f k = x then y else A.val f i := by
  have hv : ∀ j : Int, 0 ≤ j → j < cs.length → A.val f j = cs.getD j.toNat 0 := fun j j0 j1 => by
    unfold AS.val; rw [el]; dsimp only; rw [if_pos ⟨j0, j1⟩]
  rw [hv k k0 k1, hv i i0 i1]
  unfold AS.swapAt
  rw [el]
  dsimp only
  by_cases hx : cs.getD k.toNat 0 = x
  · rw [if_pos ⟨k0, k1, hx⟩]
    unfold AS.val
    rw [look_set_self A _ el]
    dsimp only
    rw [if_pos ⟨i0, by simpa using i1⟩]
    by_cases hik : i = k
    · subst hik
      have : i.toNat < cs.length := by omega
      rw [if_pos ⟨rfl, hx⟩]
      simp [List.getD, this]
    · rw [if_neg (fun e => hik e.1)]
      have : ¬ k.toNat = i.toNat := by omega
      simp [List.getD, this]
  · rw [if_neg (fun e => hx e.2.2), if_neg (fun e => hx e.2), hv i i0 i1]
/-- A step, with what is put. -/
theorem AInv.nextP (h : AInv A T P m os B M) (hB : B + os.length ≤ 60000) (hM : (B : Int) + os.length < M) (hi : os[i]? = some o) (h10 : o.next < 10) :
    AInv (stepA A T o) (stepT A T o) (if o.next = 8 ∧ o.seen = m then o.block :: P else P) (if o.next = 8 ∧ o.seen = m then mWith m o.block else m) (os.set i (stepO A T o)) B M := by
  have hr := h.room hM
  have ho := h.ops i o hi
  obtain ⟨k1, k2, k3, k4, k5⟩ := stepA_ok h hr hi h10
  have hown := h.owns hr hi h10
  have hset := h.set hr hi h10
  have hlt : i < os.length := by
    rcases Nat.lt_or_ge i os.length with h | h
    · exact h
    · rw [List.getElem?_eq_none h] at hi; cases hi
  have hlive : ∀ (k : Nat) (a : OS), os[k]? = some a → a.block ≠ 0 → a.next ≤ 9 → a.block ≠ A.made + 1 := fun k a ha h0 h9 e => by
    obtain ⟨_, _, c, ec, _⟩ := (h.ops k a ha).own h0 (((h.ops k a ha).none h9).resolve_left h0) h9
    have := (h.ok.key ec).2
    omega
  by_cases hp : o.next = 8 ∧ o.seen = m
  · rw [if_pos hp, if_pos hp]
    obtain ⟨h8, hs⟩ := hp
    have hmade : A.made < 281474976710656 := by
      have := h.made; have := owns_le os; omega
    obtain ⟨eT, eO, hL, hfr, _⟩ := h.lst.putS h.ok ho h8 hs hmade
    refine ⟨k1, k2.trans h.most, k3.trans h.flt, ?_, ?_, by rw [eT]; exact hL, ?_, hset⟩
    · rw [hown]; have := h.used; split at k4 <;> simp_all <;> omega
    · rw [hown]; have := h.made; split at k5 <;> simp_all <;> omega
    · intro k a hk
      rw [eT]
      by_cases e : k = i
      · subst e
        rw [List.getElem?_set_self hlt] at hk
        obtain rfl := Option.some.inj hk
        rw [eO]
        exact OpInv.mk10 ho.list (ho.head.imp id (fun hh => List.mem_cons_of_mem _ hh)) rfl
      · rw [List.getElem?_set_ne (fun e' => e e'.symm)] at hk
        exact (h.ops k a hk).put (fun h9 h0 => h.apart i k o a hi hk (fun e' => e e'.symm) (by omega) h9 h0) hfr
  · rw [if_neg hp, if_neg hp]
    refine ⟨k1, k2.trans h.most, k3.trans h.flt, ?_, ?_, h.lst.step h.ok ho hp h10, ?_, hset⟩
    · rw [hown]; have := h.used; split at k4 <;> simp_all <;> omega
    · rw [hown]; have := h.made; split at k5 <;> simp_all <;> omega
    · intro k a hk
      by_cases e : k = i
      · subst e
        rw [List.getElem?_set_self hlt] at hk
        obtain rfl := Option.some.inj hk
        exact OpInv.step h.lst h.ok ho hp h10 hr
      · rw [List.getElem?_set_ne (fun e' => e e'.symm)] at hk
        exact OpInv.other h.lst h.ok (h.ops k a hk) (fun h0 h9 => h.apart i k o a hi hk (fun e' => e e'.symm) (by omega) h9 h0) (hlive k a hk)
end
end Go.Proofs.Ytebdlggmpojgdaa
