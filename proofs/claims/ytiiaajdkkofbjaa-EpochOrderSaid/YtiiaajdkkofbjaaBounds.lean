/-
  EpochBounds: never do more blocks of a thread wait than may, none that waits is freed, none waits twice, and behind a Sweep with nobody inside none waits. Condition: the script is shorter than 2^60 (the reach of the reading pays it).
-/
import Derived.Test.YtiiaajdkkofbjaaScripts
namespace Go.Proofs.Ytiiaajdkkofbjaa
open Go.RowKit Go.Maps
set_option linter.unusedVariables false

/-! ### plain: who can't be inside -/
def OutOk (Y : YS) : Prop := ∀ i : Nat, (i = 0 ∨ Y.threads < i) → Y.ent.getD i 0 = 0
theorem getD_set_ne {l : List Int} {i j : Nat} {v : Int} (h : i ≠ j) : (l.set i v).getD j 0 = l.getD j 0 := by
  simp [List.getD, h]
theorem getD_set_self {l : List Int} {i : Nat} {v : Int} (h : i < l.length) : (l.set i v).getD i 0 = v := by
  simp [List.getD, h]
theorem OutOk.enter {Y : YS} (h : OutOk Y) (t : Int) : OutOk (Y.enterAt t) := by
  unfold YS.enterAt
  split
  · rename_i he
    have ht : 1 ≤ t ∧ t ≤ Y.threads := by
      unfold YS.enterErr at he
      by_cases hb : 1 ≤ t ∧ t ≤ Y.threads
      · exact hb
      · rw [if_neg hb] at he; omega
    intro i hi
    have hi' : i = 0 ∨ Y.threads < i := hi
    show (Y.ent.set t.toNat (Y.now + 1)).getD i 0 = 0
    rw [getD_set_ne (by omega)]
    exact h i hi
  · exact h
theorem OutOk.leave {Y : YS} (h : OutOk Y) (t : Int) : OutOk (Y.leaveAt t) := by
  unfold YS.leaveAt
  split
  · intro i hi
    show (Y.ent.set t.toNat 0).getD i 0 = 0
    by_cases e : t.toNat = i
    · subst e
      by_cases hl : t.toNat < Y.ent.length
      · exact getD_set_self hl
      · rw [List.set_eq_of_length_le (by omega)]; exact h _ hi
    · rw [getD_set_ne e]; exact h i hi
  · exact h
theorem OutOk.retire {Y : YS} {S : AS} (h : OutOk Y) (t b : Int) : OutOk (Y.retAt S t b) := by
  unfold YS.retAt
  (repeat' split) <;> exact h
theorem OutOk.step {Y : YS} {S : AS} (h : OutOk Y) (k t b : Int) : OutOk (stepY Y S k t b) := by
  unfold stepY
  split
  · exact h.enter t
  · split
    · exact h.leave t
    · split
      · exact h.retire t b
      · split
        · exact h
        · exact h
theorem held_none {ent : List Int} (h : ∀ i, i < 9 → ent.getD i 0 = 0) (whn : Int) : held ent whn = false := by
  have key : ∀ n, n ≤ 9 → heldTo ent whn n = false := by
    intro n
    induction n with
    | zero => intro _; rfl
    | succ n ih =>
      intro hn
      show (heldTo ent whn n || (ent.getD n 0 != 0 && decide (ent.getD n 0 < whn))) = false
      rw [ih (by omega), h n (by omega)]
      simp
  exact key 9 (Nat.le_refl _)
/-- Everybody has left. -/
structure AllOut (Y : YS) (n : Nat) : Prop where
  out : OutOk Y
  low : ∀ i : Nat, 1 ≤ i → i < n → Y.ent.getD i 0 = 0
theorem AllOut.leave {Y : YS} {n : Nat} (h : AllOut Y n) (hok : Y.Ok) (hn : 1 ≤ n) : AllOut (Y.leaveAt n) (n + 1) := by
  refine ⟨h.out.leave n, fun i hi1 hi2 => ?_⟩
  have h9 := hok.len
  have h8 := hok.th8
  unfold YS.leaveAt
  split
  · rename_i he
    have ht : 1 ≤ (n : Int) ∧ (n : Int) ≤ Y.threads := by
      unfold YS.leaveErr at he
      by_cases hb : 1 ≤ (n : Int) ∧ (n : Int) ≤ Y.threads
      · exact hb
      · rw [if_neg hb] at he; omega
    show (Y.ent.set (n : Int).toNat 0).getD i 0 = 0
    rw [Int.toNat_natCast]
    by_cases e : n = i
    · subst e; exact getD_set_self (by omega)
    · rw [getD_set_ne e]; exact h.low i hi1 (by omega)
  · rename_i he
    by_cases e : i = n
    · subst e
      unfold YS.leaveErr at he
      by_cases hb : 1 ≤ (i : Int) ∧ (i : Int) ≤ Y.threads
      · rw [if_pos hb] at he
        by_cases hz : Y.at_ i = 0
        · unfold YS.at_ at hz; simpa using hz
        · rw [if_neg hz] at he; exact absurd rfl he
      · exact h.out i (by omega)
    · exact h.low i hi1 (by omega)
theorem AllOut.none {Y : YS} (h : AllOut Y 9) (whn : Int) : held Y.ent whn = false :=
  held_none (fun i hi => by
    by_cases h0 : i = 0
    · exact h.out i (.inl h0)
    · exact h.low i (by omega) hi) whn
theorem sweep_none {Y : YS} (h : ∀ w, held Y.ent w = false) : Y.sweepAt.wt = [] := by
  show Y.wt.filter (hld Y) = []
  rw [List.filter_eq_nil_iff]
  intro r _
  unfold hld
  rw [h]; simp
theorem Right.all {Y : YS} {S : AS} (h : Right Y S) (hn : ∀ w, held Y.ent w = false) : sweepN Y S = Y.wt.length := by
  rw [h.count]
  congr 2
  rw [List.filter_eq_self]
  intro r _
  rw [hn]; rfl
theorem sweepN_nil {Y : YS} {S : AS} (h : Y.wt = []) : sweepN Y S = 0 := by unfold sweepN; rw [h]; rfl

def sumTo (l : List Wt) : Nat → Nat
  | 0 => 0
  | k + 1 => sumTo l k + lim l ((k + 1 : Nat) : Int)
theorem sumTo_le (l : List Wt) (hl : l.length ≤ 512) (k : Nat) (hk : k ≤ 8) : sumTo l k ≤ 4096 := by
  have h : ∀ k, sumTo l k ≤ k * 512 := by
    intro k
    induction k with
    | zero => simp [sumTo]
    | succ k ih => have := lim_le l ((k + 1 : Nat) : Int); simp only [sumTo]; omega
  have := h k
  omega
theorem sumTo_8 (l : List Wt) (h : ∀ r ∈ l, 1 ≤ r.thread ∧ r.thread ≤ 8) : sumTo l 8 = l.length := by
  rw [← lim_sum l h]
  simp [sumTo]
theorem among_before (l : List Wt) (h : (l.map (·.block)).Nodup) (k : Nat) (hk : k < l.length) : among ((blocksOf l).take k) l[k].block = false := by
  unfold among
  rw [List.any_eq_false]
  intro x hx
  obtain ⟨i, hi, rfl⟩ := List.getElem_of_mem hx
  simp only [List.length_take, blocksOf, List.length_map] at hi
  simp only [blocksOf, List.getElem_take, List.getElem_map]
  have hne := List.pairwise_iff_getElem.1 h i k (by simp; omega) (by simpa using hk) (by omega)
  simp only [List.getElem_map] at hne
  simpa using hne

/-- What holds at the head of a round of the script. -/
structure BRel (w wr : World) (pa py : Nat) (top : Int) (k : Nat) : Prop where
  kp : Keep (fun k => k < w.heap.size) w wr
  st : ∃ Y S, Yd wr (fun k => k < w.heap.size) pa py Y S ∧ Right Y S ∧ OutOk Y ∧ Y.bound = top ∧ Y.now ≤ k ∧ S.made ≤ k
end Go.Proofs.Ytiiaajdkkofbjaa
