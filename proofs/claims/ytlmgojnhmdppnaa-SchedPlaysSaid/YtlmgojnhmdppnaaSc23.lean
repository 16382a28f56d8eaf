/-
  SchedNumbers, plainly: what each call does to the states of all numbers. No condition.
-/
import Derived.Test.YtlmgojnhmdppnaaSc21
namespace Go.Proofs.Ytlmgojnhmdppnaa
open Go.RowKit Go.Maps
set_option linter.unusedVariables false

theorem stOf_nil (u : Int) : stOf [] u = 0 := rfl
theorem stOf_cons (r : Th) (l : List Th) (u : Int) : stOf (r :: l) u = if r.no = u then r.st else stOf l u := by
  unfold stOf idx
  rw [List.findIdx?_cons]
  by_cases h : r.no = u
  · simp [h]
  · have : (r.no == u) = false := by simpa using h
    simp only [this, h, if_false]
    cases hx : List.findIdx? (fun r => r.no == u) l <;> simp
theorem stOf_setT (l : List Th) (t s k u : Int) : stOf (setT l t s k) u = if u = t ∧ stOf l u ≠ 0 then s else if u = t then (if (l.any (fun r => r.no == t)) = true then s else 0) else stOf l u := by
  induction l with
  | nil => simp [setT, stOf_nil]
  | cons r l ih =>
    have e : setT (r :: l) t s k = (if r.no == t then ⟨r.no, s, k⟩ else r) :: setT l t s k := rfl
    rw [e, stOf_cons, stOf_cons, ih]
    by_cases hr : r.no = t
    · by_cases hu : u = t
      · subst hu; simp [hr]
      · have : ¬ t = u := fun h => hu h.symm
        simp [hr, hu, this]
    · have hrb : (r.no == t) = false := by simpa using hr
      by_cases hu : u = t
      · subst hu; simp [hr]
      · simp [hr, hu]
theorem stOf_set {l : List Th} {t : Int} (s k u : Int) (h : stOf l t ≠ 0) : stOf (setT l t s k) u = if u = t then s else stOf l u := by
  rw [stOf_setT]
  by_cases hu : u = t
  · subst hu; simp [h]
  · simp [hu]
theorem stOf_cut (l : List Th) (t u : Int) : stOf (cutT l t) u = if u = t then 0 else stOf l u := by
  induction l with
  | nil => simp [cutT, stOf_nil]
  | cons r l ih =>
    by_cases hr : r.no = t
    · have e : cutT (r :: l) t = cutT l t := by simp [cutT, hr]
      rw [e, ih, stOf_cons]
      by_cases hu : u = t
      · simp [hu]
      · have : ¬ r.no = u := fun h => hu (h ▸ hr)
        simp [hu, this]
    · have e : cutT (r :: l) t = r :: cutT l t := by simp [cutT, hr]
      rw [e, stOf_cons, ih, stOf_cons]
      by_cases hu : u = t
      · subst hu; simp [hr]
      · simp [hu]
theorem stOf_wake (l : List Th) (key u : Int) : stOf (wakeT l key) u = stOf l u ∨ (stOf l u = 2 ∧ stOf (wakeT l key) u = 1) := by
  induction l with
  | nil => exact .inl rfl
  | cons r l ih =>
    have e : wakeT (r :: l) key = (if r.st == 2 && r.key == key then ⟨r.no, 1, r.key⟩ else r) :: wakeT l key := rfl
    rw [e, stOf_cons, stOf_cons]
    by_cases hk : (r.st == 2 && r.key == key) = true
    · rw [if_pos hk]
      by_cases hu : r.no = u
      · rw [Bool.and_eq_true] at hk
        have h2 : r.st = 2 := by simpa using hk.1
        simp [hu, h2]
      · simpa [hu] using ih
    · rw [if_neg hk]
      by_cases hu : r.no = u
      · simp [hu]
      · simpa [hu] using ih
theorem stOf_snoc (l : List Th) (r : Th) (u : Int) : stOf (l ++ [r]) u = if l.any (fun x => x.no == u) = true then stOf l u else if r.no = u then r.st else 0 := by
  induction l with
  | nil => simp [stOf_cons, stOf_nil]
  | cons x l ih =>
    rw [List.cons_append, stOf_cons, stOf_cons, ih]
    by_cases hx : x.no = u
    · simp [hx]
    · simp [hx]
theorem stOf_out {l : List Th} {u : Int} (h : ∀ r ∈ l, r.no ≠ u) : stOf l u = 0 := by
  induction l with
  | nil => rfl
  | cons r l ih =>
    rw [stOf_cons, if_neg (h r (by simp))]
    exact ih (fun x hx => h x (by simp [hx]))
theorem stOf_new {n : Int} {l : List Th} (hr : Rising n l) (s k u : Int) : stOf (l ++ [⟨n + 1, s, k⟩]) u = if u = n + 1 then s else stOf l u := by
  rw [stOf_snoc]
  by_cases hu : u = n + 1
  · subst hu
    have : ¬ l.any (fun x => x.no == n + 1) = true := by
      rw [List.any_eq_true]
      rintro ⟨x, hx, he⟩
      have := hr.2 x hx
      have : x.no = n + 1 := by simpa using he
      omega
    rw [if_neg this]; simp
  · have hne : ¬ n + 1 = u := fun h => hu h.symm
    by_cases ha : l.any (fun x => x.no == u) = true
    · rw [if_pos ha, if_neg hu]
    · rw [if_neg ha, if_neg hne, if_neg hu]
      refine (stOf_out ?_).symm
      intro r hr' he
      exact ha (List.any_eq_true.2 ⟨r, hr', by simpa using he⟩)
theorem stOf_far {n : Int} {l : List Th} (hr : Rising n l) {u : Int} (h : u < 1 ∨ n < u) : stOf l u = 0 := stOf_out (fun r hm e => by have := hr.2 r hm; omega)

/-- Who is over, or was freed, is known. -/
structure NInv (Z : ZS) (ov : List Int) : Prop where
  seen : ∀ t ∈ ov, 1 ≤ t ∧ t ≤ Z.spawned ∧ (stOf Z.ths t = 3 ∨ stOf Z.ths t = 0)
  all : ∀ t, stOf Z.ths t = 3 → t ∈ ov
theorem NInv.new (n : Int) : NInv ⟨n, 0, [], 0, 0⟩ [] := ⟨by simp, fun t h => by rw [stOf_nil] at h; omega⟩
theorem NInv.same {Z Z' : ZS} {ov : List Int} (h : NInv Z ov) (hs : Z.spawned ≤ Z'.spawned) (h3 : ∀ t, 1 ≤ t → t ≤ Z.spawned → (stOf Z.ths t = 3 → stOf Z'.ths t = 3) ∧ (stOf Z.ths t = 0 → stOf Z'.ths t = 0)) (hb : ∀ t, stOf Z'.ths t = 3 → stOf Z.ths t = 3) : NInv Z' ov := by
  refine ⟨fun t ht => ?_, fun t ht => h.all t (hb t ht)⟩
  obtain ⟨h1, h2, hh⟩ := h.seen t ht
  obtain ⟨q1, q2⟩ := h3 t h1 h2
  refine ⟨h1, by omega, ?_⟩
  rcases hh with hh | hh
  · exact .inl (q1 hh)
  · exact .inr (q2 hh)
theorem NInv.spawn {Z : ZS} {ov : List Int} (h : NInv Z ov) (hok : Z.Ok) : NInv Z.spawn ov := by
  unfold ZS.spawn
  split
  · refine h.same (by dsimp only; omega) (fun t h1 h2 => ?_) (fun t ht => ?_)
    · dsimp only
      rw [stOf_new hok.ris, if_neg (by omega)]
      exact ⟨fun x => x, fun x => x⟩
    · dsimp only at ht
      rw [stOf_new hok.ris] at ht
      split at ht
      · omega
      · exact ht
  · exact h
theorem inErr_st {Z : ZS} {st t : Int} (h : Z.inErr st t = 0) : stOf Z.ths t = st ∧ stOf Z.ths t ≠ 0 := by
  unfold ZS.inErr at h
  split at h
  · omega
  · split at h
    · exact ⟨by assumption, by assumption⟩
    · omega
theorem NInv.stop0 {Z : ZS} {ov : List Int} {t : Int} (h : NInv Z ov) (he : Z.inErr 1 t ≠ 0) : NInv (Z.stop t) ov := by
  unfold ZS.stop; rw [if_neg he]; exact h
theorem NInv.stop1 {Z : ZS} {ov : List Int} {t : Int} (h : NInv Z ov) (hok : Z.Ok) (he : Z.inErr 1 t = 0) : NInv (Z.stop t) (ov ++ [t]) := by
  obtain ⟨hs, hn⟩ := inErr_st he
  unfold ZS.stop; rw [if_pos he]
  refine ⟨fun u hu => ?_, fun u hu => ?_⟩
  · dsimp only
    rw [stOf_set _ _ _ hn]
    rcases List.mem_append.1 hu with hu | hu
    · obtain ⟨h1, h2, hh⟩ := h.seen u hu
      refine ⟨h1, h2, ?_⟩
      split
      · exact .inl rfl
      · exact hh
    · rw [List.mem_singleton] at hu
      subst hu
      refine ⟨?_, ?_, by simp⟩
      · by_cases hlt : u < 1
        · exact absurd (stOf_far hok.ris (.inl hlt)) hn
        · omega
      · by_cases hlt : Z.spawned < u
        · exact absurd (stOf_far hok.ris (.inr hlt)) hn
        · omega
  · dsimp only at hu
    rw [stOf_set _ _ _ hn] at hu
    rw [List.mem_append, List.mem_singleton]
    split at hu
    · right; assumption
    · exact .inl (h.all u hu)
theorem NInv.free {Z : ZS} {ov : List Int} (t : Int) (h : NInv Z ov) : NInv (Z.free t) ov ∧ (Z.inErr 3 t = 0 → t ∈ ov) := by
  refine ⟨?_, fun he => h.all t (inErr_st he).1⟩
  unfold ZS.free
  split
  · refine ⟨fun u hu => ?_, fun u hu => ?_⟩
    · obtain ⟨h1, h2, hh⟩ := h.seen u hu
      refine ⟨h1, h2, ?_⟩
      dsimp only
      rw [stOf_cut]
      split
      · exact .inr rfl
      · exact hh
    · dsimp only at hu
      rw [stOf_cut] at hu
      split at hu
      · omega
      · exact h.all u hu
  · exact h
theorem NInv.step {Z : ZS} {ov : List Int} {k : Int} (t key : Int) (h : NInv Z ov) (h1 : k ≠ 1) (h3 : k ≠ 3) (h4 : k ≠ 4) : NInv (Z.step k t key) ov := by
  unfold ZS.step
  rw [if_neg h1]
  split
  · unfold ZS.block
    split
    · rename_i he
      obtain ⟨hs, hn⟩ := inErr_st he
      refine h.same (Int.le_refl _) (fun u _ _ => ?_) (fun u hu => ?_)
      · dsimp only
        rw [stOf_set _ _ _ hn]
        split
        · rename_i e; subst e; exact ⟨fun x => by omega, fun x => by omega⟩
        · exact ⟨fun x => x, fun x => x⟩
      · dsimp only at hu
        rw [stOf_set _ _ _ hn] at hu
        split at hu
        · omega
        · exact hu
    · exact h
  · try rw [if_neg h3]
    try rw [if_neg h4]
    split
    · unfold ZS.wake
      refine h.same (Int.le_refl _) (fun u _ _ => ?_) (fun u hu => ?_)
      · rcases stOf_wake Z.ths key u with e | ⟨e1, e2⟩
        · dsimp only; rw [e]; exact ⟨fun x => x, fun x => x⟩
        · exact ⟨fun x => by omega, fun x => by omega⟩
      · dsimp only at hu
        rcases stOf_wake Z.ths key u with e | ⟨e1, e2⟩
        · rw [e] at hu; exact hu
        · omega
    · split
      · refine h.same (by unfold ZS.pick; split <;> exact Int.le_refl _) (fun u _ _ => ?_) (fun u hu => ?_)
        · rw [pick_ths]; exact ⟨fun x => x, fun x => x⟩
        · rw [pick_ths] at hu; exact hu
      · exact h

/-! ### How many aren't gone -/
def cntS (l : List Th) : Nat → Nat
  | 0 => 0
  | m + 1 => cntS l m + if 0 < stOf l ((m : Int) + 1) then 1 else 0
theorem cntS_le (l : List Th) (m : Nat) : cntS l m ≤ (l.filter (fun r => decide (r.no ≤ (m : Int)))).length := by
  induction m with
  | zero => exact Nat.zero_le _
  | succ m ih =>
    have key : (l.filter (fun r => decide (r.no ≤ ((m + 1 : Nat) : Int)))).length = (l.filter (fun r => decide (r.no ≤ (m : Int)))).length + (l.filter (fun r => decide (r.no = (m : Int) + 1))).length := by
      clear ih
      induction l with
      | nil => rfl
      | cons r l ih =>
        by_cases h1 : r.no ≤ (m : Int)
        · have h2 : r.no ≤ ((m + 1 : Nat) : Int) := by omega
          have h3 : ¬ r.no = (m : Int) + 1 := by omega
          rw [List.filter_cons_of_pos (by simpa using h2), List.filter_cons_of_pos (by simpa using h1), List.filter_cons_of_neg (by simpa using h3)]
          simp only [List.length_cons]; omega
        · by_cases h3 : r.no = (m : Int) + 1
          · have h2 : r.no ≤ ((m + 1 : Nat) : Int) := by omega
            rw [List.filter_cons_of_pos (by simpa using h2), List.filter_cons_of_neg (by simpa using h1), List.filter_cons_of_pos (by simpa using h3)]
            simp only [List.length_cons]; omega
          · have h2 : ¬ r.no ≤ ((m + 1 : Nat) : Int) := by omega
            rw [List.filter_cons_of_neg (by simpa using h2), List.filter_cons_of_neg (by simpa using h1), List.filter_cons_of_neg (by simpa using h3)]
            exact ih
    rw [key]
    show cntS l m + _ ≤ _
    split
    · rename_i hp
      have hne : 0 < (l.filter (fun r => decide (r.no = (m : Int) + 1))).length := by
        rw [List.length_pos_iff_exists_mem]
        refine Classical.byContradiction fun hc => ?_
        have : stOf l ((m : Int) + 1) = 0 := stOf_out (fun r hr e => hc ⟨r, List.mem_filter.2 ⟨hr, by simpa using e⟩⟩)
        omega
      omega
    · omega
theorem cntS_few (l : List Th) (m : Nat) : cntS l m ≤ l.length := Nat.le_trans (cntS_le l m) (List.length_filter_le _ _)
theorem step_most (Z : ZS) (k t key : Int) : (Z.step k t key).most = Z.most := by
  unfold ZS.step ZS.spawn ZS.block ZS.stop ZS.free ZS.wake ZS.pick
  repeat' split
  all_goals rfl
theorem step_sp (Z : ZS) (k t key : Int) (h : k ≠ 1) : (Z.step k t key).spawned = Z.spawned := by
  unfold ZS.step ZS.block ZS.stop ZS.free ZS.wake ZS.pick
  rw [if_neg h]
  repeat' split
  all_goals rfl
end Go.Proofs.Ytlmgojnhmdppnaa
