/-
  EpochHolds, plain: what holds of the block 1 while the scripts go on. Conditions: the plain states are right.
-/
import Derived.Test.YtiiaajdkkofbjaaBounds
namespace Go.Proofs.Ytiiaajdkkofbjaa
open Go.RowKit Go.Maps
set_option linter.unusedVariables false

theorem i64_and7 (n : Int) : bits .and .i64 n 7 = n % 8 := by
  have h7 : (BitVec.ofInt 64 7).toNat = 2 ^ 3 - 1 := by decide
  have key : (BitVec.ofInt 64 n &&& BitVec.ofInt 64 7).toNat = (n % ((2 ^ 64 : Nat) : Int)).toNat % 2 ^ 3 := by
    rw [BitVec.toNat_and, BitVec.toNat_ofInt, h7, Nat.and_two_pow_sub_one_eq_mod]
  show IntKind.i64.wrap ((BitVec.ofInt 64 n &&& BitVec.ofInt 64 7).toNat : Nat) = n % 8
  rw [key, IntKind.wrap_i64]
  omega

/-- No moment is ahead of now. -/
def EntOk (Y : YS) : Prop := ∀ i, 0 ≤ Y.ent.getD i 0 ∧ Y.ent.getD i 0 ≤ Y.now
theorem EntOk.enter {Y : YS} (h : EntOk Y) (h0 : 0 ≤ Y.now) (t : Int) : EntOk (Y.enterAt t) := by
  unfold YS.enterAt
  split
  · intro i
    show 0 ≤ (Y.ent.set t.toNat (Y.now + 1)).getD i 0 ∧ (Y.ent.set t.toNat (Y.now + 1)).getD i 0 ≤ Y.now + 1
    by_cases e : t.toNat = i
    · subst e
      by_cases hl : t.toNat < Y.ent.length
      · rw [getD_set_self hl]; omega
      · rw [List.set_eq_of_length_le (by omega)]; have := h t.toNat; omega
    · rw [getD_set_ne e]; have := h i; omega
  · exact h
theorem EntOk.leave {Y : YS} (h : EntOk Y) (h0 : 0 ≤ Y.now) (t : Int) : EntOk (Y.leaveAt t) := by
  unfold YS.leaveAt
  split
  · intro i
    show 0 ≤ (Y.ent.set t.toNat 0).getD i 0 ∧ (Y.ent.set t.toNat 0).getD i 0 ≤ Y.now
    by_cases e : t.toNat = i
    · subst e
      by_cases hl : t.toNat < Y.ent.length
      · rw [getD_set_self hl]; omega
      · rw [List.set_eq_of_length_le (by omega)]; exact h _
    · rw [getD_set_ne e]; exact h i
  · exact h
theorem EntOk.retire {Y : YS} {S : AS} (h : EntOk Y) (t b : Int) : EntOk (Y.retAt S t b) := by
  unfold YS.retAt
  split
  · exact h
  · split
    · intro i
      show 0 ≤ Y.ent.getD i 0 ∧ Y.ent.getD i 0 ≤ Y.now + 1
      have := h i; omega
    · exact h
theorem EntOk.step {Y : YS} {S : AS} (h : EntOk Y) (h0 : 0 ≤ Y.now) (k t b : Int) : EntOk (stepY Y S k t b) := by
  unfold stepY
  split
  · exact h.enter h0 t
  · split
    · exact h.leave h0 t
    · split
      · exact h.retire t b
      · split
        · exact h
        · exact h

theorem alloc_old {S : AS} (hok : S.Ok) (n : Int) {b : Int} {cs : List Int} (hl : look S.bl b = some cs) : look (S.allocAt n).bl b = some cs := by
  unfold AS.allocAt
  split
  · show look ((S.made + 1, List.replicate n.toNat 0) :: S.bl) b = some cs
    rw [look_cons, if_neg (by have := (hok.key hl).2; simp only; omega)]
    exact hl
  · exact hl
theorem waits_sub {l m : List Wt} (h : l.Sublist m) {b : Int} (hw : waits m b = false) : waits l b = false := by
  unfold waits at hw ⊢
  rw [List.any_eq_false] at hw ⊢
  exact fun r hr => hw r (h.subset hr)
theorem waits_append (l : List Wt) (r : Wt) (b : Int) : waits (l ++ [r]) b = (waits l b || r.block == b) := by
  unfold waits; simp

/-- The block 1 is live, and doesn't wait. -/
structure Free1 (Y : YS) (S : AS) : Prop where
  live : ∃ cs, look S.bl 1 = some cs ∧ cs.length = 3
  no : waits Y.wt 1 = false
theorem Free1.sweep {Y : YS} {S : AS} (h : Free1 Y S) (hr : Right Y S) : Free1 Y.sweepAt (S.sweepAt Y) :=
  ⟨by rw [(hr.look 1).2 (fun ⟨x, hx, e, _⟩ => waits_no h.no hx e)]; exact h.live, waits_sub List.filter_sublist h.no⟩
theorem Free1.step {Y : YS} {S : AS} (h : Free1 Y S) (hr : Right Y S) (hok : S.Ok) (k t b : Int) (hb : b ≠ 1) : Free1 (stepY Y S k t b) (stepS Y S k t b) := by
  unfold stepY stepS
  by_cases k1 : k = 1
  · subst k1; exact ⟨h.live, by rw [if_pos rfl, enter_wt]; exact h.no⟩
  · by_cases k2 : k = 2
    · subst k2; exact ⟨h.live, by rw [if_neg (by decide), if_pos rfl, leave_wt]; exact h.no⟩
    · by_cases k3 : k = 3
      · subst k3
        simp only [if_neg (show ¬ (3 : Int) = 1 by decide), if_neg (show ¬ (3 : Int) = 2 by decide), if_true]
        rcases ret_cases Y S t b with ⟨he, _⟩ | ⟨he, _⟩ | ⟨he, _⟩ | ⟨he, _⟩ | ⟨he, _⟩
        · rw [ret_same (.inl he), ret_sameS (.inl he)]; exact h
        · rw [ret_same (.inr (.inl he)), ret_sameS (.inr he)]; exact h
        · rw [ret_same (.inr (.inr he)), ret_20 he]; exact ⟨h.live, h.no⟩
        · rw [(ret_43 he).1, (ret_43 he).2]; exact h.sweep hr
        · rw [(ret_0 he).1, (ret_0 he).2]
          have hs := h.sweep hr
          refine ⟨hs.live, ?_⟩
          show waits (Y.sweepAt.wt ++ [(⟨b, t, Y.now + 1⟩ : Wt)]) 1 = false
          rw [waits_append, hs.no]
          simpa using hb
      · by_cases k4 : k = 4
        · subst k4; simpa using h.sweep hr
        · by_cases k5 : k = 5
          · subst k5
            obtain ⟨cs, hc, hl⟩ := h.live
            simp only [if_neg (show ¬ (5 : Int) = 1 by decide), if_neg (show ¬ (5 : Int) = 2 by decide), if_neg (show ¬ (5 : Int) = 3 by decide), if_neg (show ¬ (5 : Int) = 4 by decide), if_true]
            exact ⟨⟨cs, alloc_old hok b hc, hl⟩, h.no⟩
          · simpa [k1, k2, k3, k4, k5] using h

theorem held_yes {ent : List Int} {i : Nat} (hi : i < 9) {T : Int} (h0 : ent.getD i 0 ≠ 0) (h1 : ent.getD i 0 < T) : held ent T = true := by
  have key : ∀ n, i < n → heldTo ent T n = true := by
    intro n
    induction n with
    | zero => intro h; omega
    | succ n ih =>
      intro hn
      show (heldTo ent T n || (ent.getD n 0 != 0 && decide (ent.getD n 0 < T))) = true
      by_cases e : i = n
      · subst e
        rw [show (ent.getD i 0 != 0) = true by simpa using h0, show decide (ent.getD i 0 < T) = true by simpa using h1]
        simp
      · rw [ih (by omega)]; rfl
  exact key 9 hi

/-- The block 1 waits since T, and is held by tt, that came in before. -/
structure Held1 (Y : YS) (S : AS) (tt : Nat) (T : Int) : Prop where
  live : ∃ cs, look S.bl 1 = some cs ∧ cs.length = 3
  mem : ∃ r ∈ Y.wt, r.block = 1 ∧ r.whn = T
  inn : Y.ent.getD tt 0 ≠ 0
  old : Y.ent.getD tt 0 < T
theorem Held1.sweep {Y : YS} {S : AS} {tt : Nat} {T : Int} (h : Held1 Y S tt T) (hr : Right Y S) (htt : tt < 9) : Held1 Y.sweepAt (S.sweepAt Y) tt T := by
  obtain ⟨r, hm, hb, hT⟩ := h.mem
  have hh : held Y.ent r.whn = true := by rw [hT]; exact held_yes htt h.inn h.old
  refine ⟨?_, ⟨r, List.mem_filter.2 ⟨hm, hh⟩, hb, hT⟩, h.inn, h.old⟩
  have := (hr.look r.block).2 (hr.kept hm hh)
  rw [hb] at this
  rw [this]
  exact h.live
theorem enter_other {Y : YS} {tt : Nat} (t : Int) (h0 : Y.ent.getD tt 0 ≠ 0) : (Y.enterAt t).ent.getD tt 0 = Y.ent.getD tt 0 := by
  unfold YS.enterAt
  split
  · rename_i he
    show (Y.ent.set t.toNat (Y.now + 1)).getD tt 0 = _
    by_cases e : t.toNat = tt
    · exfalso
      unfold YS.enterErr at he
      by_cases hb : 1 ≤ t ∧ t ≤ Y.threads
      · rw [if_pos hb] at he
        by_cases hz : Y.at_ t = 0
        · unfold YS.at_ at hz; rw [e] at hz; exact h0 hz
        · rw [if_neg hz] at he; omega
      · rw [if_neg hb] at he; omega
    · exact getD_set_ne e
  · rfl
theorem leave_other {Y : YS} {tt : Nat} (t : Int) (h0 : t ≠ tt) : (Y.leaveAt t).ent.getD tt 0 = Y.ent.getD tt 0 := by
  unfold YS.leaveAt
  split
  · rename_i he
    show (Y.ent.set t.toNat 0).getD tt 0 = _
    by_cases e : t.toNat = tt
    · exfalso
      unfold YS.leaveErr at he
      by_cases hb : 1 ≤ t ∧ t ≤ Y.threads
      · omega
      · rw [if_neg hb] at he; omega
    · exact getD_set_ne e
  · rfl
theorem Held1.step {Y : YS} {S : AS} {tt : Nat} {T : Int} (h : Held1 Y S tt T) (hr : Right Y S) (hok : S.Ok) (htt : tt < 9) (k t b : Int) (hk : k = 2 → t ≠ tt) : Held1 (stepY Y S k t b) (stepS Y S k t b) tt T := by
  unfold stepY stepS
  by_cases k1 : k = 1
  · subst k1
    simp only [if_true, if_neg (show ¬ (1 : Int) = 3 by decide), if_neg (show ¬ (1 : Int) = 4 by decide), if_neg (show ¬ (1 : Int) = 5 by decide)]
    exact ⟨h.live, by rw [enter_wt]; exact h.mem, by rw [enter_other t h.inn]; exact h.inn, by rw [enter_other t h.inn]; exact h.old⟩
  · by_cases k2 : k = 2
    · subst k2
      simp only [if_true, if_neg (show ¬ (2 : Int) = 1 by decide), if_neg (show ¬ (2 : Int) = 3 by decide), if_neg (show ¬ (2 : Int) = 4 by decide), if_neg (show ¬ (2 : Int) = 5 by decide)]
      exact ⟨h.live, by rw [leave_wt]; exact h.mem, by rw [leave_other t (hk rfl)]; exact h.inn, by rw [leave_other t (hk rfl)]; exact h.old⟩
    · by_cases k3 : k = 3
      · subst k3
        simp only [if_neg (show ¬ (3 : Int) = 1 by decide), if_neg (show ¬ (3 : Int) = 2 by decide), if_true]
        rcases ret_cases Y S t b with ⟨he, _⟩ | ⟨he, _⟩ | ⟨he, _⟩ | ⟨he, _⟩ | ⟨he, _⟩
        · rw [ret_same (.inl he), ret_sameS (.inl he)]; exact h
        · rw [ret_same (.inr (.inl he)), ret_sameS (.inr he)]; exact h
        · rw [ret_same (.inr (.inr he)), ret_20 he]; exact ⟨h.live, h.mem, h.inn, h.old⟩
        · rw [(ret_43 he).1, (ret_43 he).2]; exact h.sweep hr htt
        · rw [(ret_0 he).1, (ret_0 he).2]
          have hs := h.sweep hr htt
          obtain ⟨r, hm, hb⟩ := hs.mem
          exact ⟨hs.live, ⟨r, List.mem_append_left _ hm, hb⟩, h.inn, h.old⟩
      · by_cases k4 : k = 4
        · subst k4; simpa using h.sweep hr htt
        · by_cases k5 : k = 5
          · subst k5
            obtain ⟨cs, hc, hl⟩ := h.live
            simp only [if_neg (show ¬ (5 : Int) = 1 by decide), if_neg (show ¬ (5 : Int) = 2 by decide), if_neg (show ¬ (5 : Int) = 3 by decide), if_neg (show ¬ (5 : Int) = 4 by decide), if_true]
            exact ⟨⟨cs, alloc_old hok b hc, hl⟩, h.mem, h.inn, h.old⟩
          · simpa [k1, k2, k3, k4, k5] using h
theorem insideTo_mem {ent : List Int} {i : Nat} (h0 : ent.getD i 0 ≠ 0) {n : Nat} (hn : i < n) : (i : Int) ∈ insideTo ent n := by
  induction n with
  | zero => omega
  | succ n ih =>
    simp only [insideTo, List.mem_append]
    by_cases e : i = n
    · subst e; right; rw [if_neg h0]; simp
    · left; exact ih (by omega)
theorem insideTo_none {ent : List Int} (h : ∀ i, i < 9 → ent.getD i 0 = 0) : insideTo ent 9 = [] := by
  have key : ∀ n, n ≤ 9 → insideTo ent n = [] := by
    intro n
    induction n with
    | zero => intro _; rfl
    | succ n ih =>
      intro hn
      simp only [insideTo]
      rw [ih (by omega), if_pos (h n (by omega))]; rfl
  exact key 9 (Nat.le_refl _)
theorem AllOut.zero {Y : YS} (h : AllOut Y 9) : ∀ i, i < 9 → Y.ent.getD i 0 = 0 := fun i hi => by
  by_cases h0 : i = 0
  · exact h.out i (.inl h0)
  · exact h.low i (by omega) hi
theorem among_mem {xs : List Int} {x : Int} (h : x ∈ xs) : among xs x = true := by
  unfold among; rw [List.any_eq_true]; exact ⟨x, h, by simp⟩
theorem among_not {xs : List Int} {x : Int} (h : x ∉ xs) : among xs x = false := by
  unfold among; rw [List.any_eq_false]; intro y hy; simp; rintro rfl; exact h hy
end Go.Proofs.Ytiiaajdkkofbjaa
