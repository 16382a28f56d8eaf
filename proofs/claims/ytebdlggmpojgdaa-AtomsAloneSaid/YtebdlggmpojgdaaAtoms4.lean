/-
  Package atoms, plain: many operations at a table, one of which takes a step. Condition: there are few.
-/
import Derived.Test.YtebdlggmpojgdaaAtoms3
namespace Go.Proofs.Ytebdlggmpojgdaa
open Go.RowKit Go.Maps
set_option linter.unusedVariables false

def lives (os : List OS) : Nat := (os.map (fun o => if o.next = 10 then 0 else 1)).sum
def owns (os : List OS) : Nat := (os.map (fun o => if o.block = 0 then 0 else 1)).sum
def pots (n : Nat) (P : List Int) (m : Int) (os : List OS) : Nat := (os.map (pot n P m)).sum
theorem sum_set {f : OS → Nat} {os : List OS} {i : Nat} {o x : OS} (h : os[i]? = some o) : ((os.set i x).map f).sum + f o = (os.map f).sum + f x := by
  induction os generalizing i with
  | nil => cases h
  | cons a l ih =>
    cases i with
    | zero =>
      obtain rfl : a = o := by simpa using h
      simp; omega
    | succ i =>
      have := ih (i := i) (by simpa using h)
      simp only [List.set_cons_succ, List.map_cons, List.sum_cons]
      omega
theorem sum_le {f g : OS → Nat} {os : List OS} (h : ∀ o ∈ os, f o ≤ g o) : (os.map f).sum ≤ (os.map g).sum := by
  induction os with
  | nil => exact Nat.le_refl _
  | cons a l ih =>
    have h1 := h a (by simp)
    have h2 := ih (fun o ho => h o (by simp [ho]))
    simp only [List.map_cons, List.sum_cons]
    omega
theorem owns_le (os : List OS) : owns os ≤ os.length := by
  induction os with
  | nil => exact Nat.le_refl _
  | cons a l ih =>
    unfold owns at ih ⊢
    simp only [List.map_cons, List.sum_cons, List.length_cons]
    split <;> omega
theorem lives_mul (c : Nat) (os : List OS) : (os.map (fun o => if o.next = 10 then 0 else c)).sum = lives os * c := by
  induction os with
  | nil => simp [lives]
  | cons a l ih =>
    unfold lives at ih ⊢
    simp only [List.map_cons, List.sum_cons]
    rw [ih, Nat.add_mul]
    split <;> simp
theorem pots_le (P : List Int) (m : Int) (os : List OS) : pots P.length P m os ≤ lives os * (2 * P.length + 13) := by
  rw [← lives_mul]
  apply sum_le
  intro o _
  split
  · rename_i h
    unfold pot; simp [h]
  · exact pot_le P m o
theorem lives_pos {os : List OS} (h : 0 < lives os) : ∃ (i : Nat) (o : OS), os[i]? = some o ∧ o.next ≠ 10 := by
  induction os with
  | nil => simp [lives] at h
  | cons a l ih =>
    by_cases ha : a.next = 10
    · have : 0 < lives l := by
        unfold lives at h ⊢
        simpa [ha] using h
      obtain ⟨i, o, hi, ho⟩ := ih this
      exact ⟨i + 1, o, by simpa using hi, ho⟩
    · exact ⟨0, a, by simp, ha⟩

/-- A table with operations under way. B: what else is there. -/
structure AInv (A : AS) (T : TS) (P : List Int) (m : Int) (os : List OS) (B : Nat) (M : Int) : Prop where
  ok : A.Ok
  most : A.most = M
  flt : A.faults = 0
  used : A.used ≤ B + owns os
  made : A.made ≤ B + owns os
  lst : LInv A T P m
  ops : ∀ (i : Nat) (o : OS), os[i]? = some o → OpInv A T P o
  apart : ∀ (i j : Nat) (o o' : OS), os[i]? = some o → os[j]? = some o' → i ≠ j → o.next ≤ 9 → o'.next ≤ 9 → o'.block ≠ 0 → o'.block ≠ o.block
section
variable {A : AS} {T : TS} {P : List Int} {m : Int} {os : List OS} {B i : Nat} {M : Int} {o : OS}
theorem AInv.room (h : AInv A T P m os B M) (hM : (B : Int) + os.length < M) : A.allocErr 1 = 0 := by
  have := h.used; have := owns_le os; have := h.most
  unfold AS.allocErr
  rw [if_neg (by omega), if_neg (by omega)]
/-- The block of an operation behind its step: the old one, or the new one. -/
theorem stepO_block (A : AS) (T : TS) (o : OS) (hr : A.allocErr 1 = 0) : (stepO A T o).block = if o.next = 6 then A.made + 1 else o.block := by
  have hd : ∀ o : OS, (o.decide T).block = o.block := fun o => by
    unfold OS.decide OS.fin
    repeat (first | rfl | split)
  have hl : ∀ (o : OS) (x : Int), (o.look T x).block = o.block := fun o x => by
    unfold OS.look OS.fin
    split
    · exact hd _
    · split <;> rfl
  unfold stepO
  split
  · rename_i e; simp [e, OS.fin]
  · rename_i e; simp [e]
  · rename_i e; simp [e]
  · rename_i e; simp [e]
  · rename_i e; simp [e, hl]
  · rename_i e; simp [e, hl]
  · rename_i e; simp [e, hr, AS.allocNo]
  · rename_i e; simp [e]
  · rename_i e; split <;> simp [e]
  · rename_i e; simp [e]
  · rename_i h0 h1 h2 h3 h4 h5 h6 h7 h8 h9
    rw [if_neg h6]
/-- What a step makes of the arena as a whole. -/
theorem stepA_ok (h : AInv A T P m os B M) (hr : A.allocErr 1 = 0) (hi : os[i]? = some o) (h10 : o.next < 10) :
    (stepA A T o).Ok ∧ (stepA A T o).most = A.most ∧ (stepA A T o).faults = A.faults ∧ (stepA A T o).used ≤ A.used + (if o.next = 6 then 1 else 0) ∧ (stepA A T o).made = A.made + (if o.next = 6 then 1 else 0) := by
  have ho := h.ops i o hi
  have hok := h.ok
  obtain ⟨hs, el, _⟩ := h.lst.fst
  have hown : o.block ≠ 0 → ∃ c, look A.bl o.block = some [c] := fun hb => by
    obtain ⟨_, _, c, e, _⟩ := ho.own hb ((ho.none (by omega)).resolve_left hb) (by omega)
    exact ⟨c, e⟩
  have hsw : ∀ k x y, (A.swapAt T.first k x y).Ok ∧ (A.swapAt T.first k x y).most = A.most ∧ (A.swapAt T.first k x y).faults = A.faults ∧ (A.swapAt T.first k x y).used = A.used ∧ (A.swapAt T.first k x y).made = A.made := fun k x y => by
    unfold AS.swapAt
    rw [el]
    dsimp only
    split
    · exact ⟨hok.set el (by simp), rfl, rfl, rfl, rfl⟩
    · exact ⟨hok, rfl, rfl, rfl, rfl⟩
  unfold stepA
  split
  · rename_i e
    obtain ⟨a1, a2, a3, a4, a5⟩ := hsw (1 + T.list (T.name (mNew o.seen))) o.behind (mNew o.seen)
    exact ⟨a1, a2, a3, by omega, by rw [a5]; simp [e]⟩
  · rename_i e
    unfold AS.allocAt
    rw [if_pos hr]
    have hu : A.used + 1 ≤ A.most := by
      unfold AS.allocErr at hr
      rw [if_neg (by omega)] at hr
      split at hr
      · cases hr
      · omega
    refine ⟨hok.alloc (n := 1) (by omega) (by omega) (by simpa using hu), rfl, rfl, ?_, ?_⟩
    · show A.used + 1 ≤ _; simp [e]
    · show A.made + 1 = _; simp [e]
  · rename_i e
    obtain ⟨c, ec⟩ := hown (ho.has (by omega) (by omega))
    unfold AS.storeAt
    rw [ec]
    dsimp only
    rw [if_pos (by simp)]
    exact ⟨hok.set ec (by simp), rfl, rfl, by show A.used ≤ _; omega, by show A.made = _; simp [e]⟩
  · rename_i e
    obtain ⟨a1, a2, a3, a4, a5⟩ := hsw 0 o.seen (mWith o.seen o.block)
    exact ⟨a1, a2, a3, by omega, by rw [a5]; simp [e]⟩
  · rename_i e
    obtain ⟨c, ec⟩ := hown (ho.has (by omega) (by omega))
    unfold AS.freeAt
    rw [ec]
    exact ⟨hok.free ec, rfl, rfl, by show A.used - 1 ≤ _; omega, by show A.made = _; simp [e]⟩
  · rename_i h3 h6 h7 h8 h9
    exact ⟨hok, rfl, rfl, by omega, by rw [if_neg h6]; omega⟩
/-- The other operations' blocks. -/
theorem AInv.set (h : AInv A T P m os B M) (hr : A.allocErr 1 = 0) (hi : os[i]? = some o) (h10 : o.next < 10) :
    ∀ (k j : Nat) (a b : OS), (os.set i (stepO A T o))[k]? = some a → (os.set i (stepO A T o))[j]? = some b → k ≠ j → a.next ≤ 9 → b.next ≤ 9 → b.block ≠ 0 → b.block ≠ a.block := by
  have hb := stepO_block A T o hr
  have hlt : i < os.length := by
    rcases Nat.lt_or_ge i os.length with h | h
    · exact h
    · rw [List.getElem?_eq_none h] at hi; cases hi
  have hold : ∀ (k : Nat) (a : OS), os[k]? = some a → a.next ≤ 9 → a.block ≠ 0 → a.block ≠ A.made + 1 := fun k a ha h9 h0 e => by
    obtain ⟨_, _, c, ec, _⟩ := (h.ops k a ha).own h0 (((h.ops k a ha).none h9).resolve_left h0) h9
    have := (h.ok.key ec).2
    omega
  have hm0 := h.ok.made0
  intro k j a b hk hj hkj ha9 hb9 hb0
  by_cases e1 : k = i
  · subst e1
    rw [List.getElem?_set_self hlt] at hk
    obtain rfl := Option.some.inj hk
    rw [List.getElem?_set_ne hkj] at hj
    rw [hb]
    split
    · exact hold j b hj hb9 hb0
    · exact h.apart k j o b hi hj hkj (by omega) hb9 hb0
  · rw [List.getElem?_set_ne (fun e => e1 e.symm)] at hk
    by_cases e2 : j = i
    · subst e2
      rw [List.getElem?_set_self hlt] at hj
      obtain rfl := Option.some.inj hj
      rw [hb] at hb0 ⊢
      split
      · intro e
        by_cases ha0 : a.block = 0
        · omega
        · exact hold k a hk ha9 ha0 e.symm
      · rename_i h6
        rw [if_neg h6] at hb0
        exact h.apart k j a o hk hi hkj ha9 (by omega) hb0
    · rw [List.getElem?_set_ne (fun e => e2 e.symm)] at hj
      exact h.apart k j a b hk hj hkj ha9 hb9 hb0
end
end Go.Proofs.Ytebdlggmpojgdaa
