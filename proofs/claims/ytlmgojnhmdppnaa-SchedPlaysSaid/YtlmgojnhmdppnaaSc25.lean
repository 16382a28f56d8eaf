/-
  SchedWakes, plainly: who waits for a key waits on, until that key is woken. No condition.
-/
import Derived.Test.YtlmgojnhmdppnaaSc23
namespace Go.Proofs.Ytlmgojnhmdppnaa
open Go.RowKit Go.Maps
set_option linter.unusedVariables false

theorem keyOf_nil (u : Int) : keyOf [] u = 0 := rfl
theorem keyOf_cons (r : Th) (l : List Th) (u : Int) : keyOf (r :: l) u = if r.no = u then r.key else keyOf l u := by
  unfold keyOf idx
  rw [List.findIdx?_cons]
  by_cases h : r.no = u
  · simp [h]
  · have : (r.no == u) = false := by simpa using h
    simp only [this, h, if_false]
    cases hx : List.findIdx? (fun r => r.no == u) l <;> simp
theorem keyOf_setT (l : List Th) (t s k u : Int) (h : u ≠ t) : keyOf (setT l t s k) u = keyOf l u := by
  induction l with
  | nil => rfl
  | cons r l ih =>
    have e : setT (r :: l) t s k = (if r.no == t then ⟨r.no, s, k⟩ else r) :: setT l t s k := rfl
    rw [e, keyOf_cons, keyOf_cons, ih]
    by_cases hr : r.no = t
    · have : ¬ t = u := fun e => h e.symm
      simp [hr, this]
    · simp [hr]
theorem keyOf_setT_same (l : List Th) (t s k : Int) (h : stOf l t ≠ 0) : keyOf (setT l t s k) t = k := by
  induction l with
  | nil => exact absurd rfl h
  | cons r l ih =>
    have e : setT (r :: l) t s k = (if r.no == t then ⟨r.no, s, k⟩ else r) :: setT l t s k := rfl
    rw [e, keyOf_cons]
    by_cases hr : r.no = t
    · simp [hr]
    · rw [stOf_cons, if_neg hr] at h
      simp [hr, ih h]
theorem keyOf_cut (l : List Th) (t u : Int) (h : u ≠ t) : keyOf (cutT l t) u = keyOf l u := by
  induction l with
  | nil => rfl
  | cons r l ih =>
    by_cases hr : r.no = t
    · have e : cutT (r :: l) t = cutT l t := by simp [cutT, hr]
      have : ¬ t = u := fun e => h e.symm
      rw [e, ih, keyOf_cons, hr, if_neg this]
    · have e : cutT (r :: l) t = r :: cutT l t := by simp [cutT, hr]
      rw [e, keyOf_cons, ih, keyOf_cons]
theorem wake_both (l : List Th) (key u : Int) : keyOf (wakeT l key) u = keyOf l u ∧ stOf (wakeT l key) u = if stOf l u = 2 ∧ keyOf l u = key then 1 else stOf l u := by
  induction l with
  | nil => exact ⟨rfl, rfl⟩
  | cons r l ih =>
    have e : wakeT (r :: l) key = (if r.st == 2 && r.key == key then ⟨r.no, 1, r.key⟩ else r) :: wakeT l key := rfl
    rw [e, keyOf_cons, keyOf_cons, stOf_cons, stOf_cons, ih.1, ih.2]
    by_cases hk : (r.st == 2 && r.key == key) = true
    · rw [if_pos hk]
      rw [Bool.and_eq_true] at hk
      have h2 : r.st = 2 := by simpa using hk.1
      have h3 : r.key = key := by simpa using hk.2
      by_cases hu : r.no = u
      · simp [hu, h2, h3]
      · simp [hu]
    · rw [if_neg hk]
      have hk' : ¬ (r.st = 2 ∧ r.key = key) := fun h => hk (by simp [h.1, h.2])
      by_cases hu : r.no = u
      · simp [hu, hk']
      · simp [hu]

/-- All of R wait for the key. -/
def Wt (l : List Th) (R : List Int) (key : Int) : Prop := ∀ t ∈ R, stOf l t = 2 ∧ keyOf l t = key
theorem Wt.step {Z : ZS} {R : List Int} {key : Int} (h : Wt Z.ths R key) (k t ky : Int) (h1 : k ≠ 1) (h5 : ¬ (k = 5 ∧ ky = key)) : Wt (Z.step k t ky).ths R key := by
  intro u hu
  obtain ⟨hs, hk⟩ := h u hu
  unfold ZS.step
  rw [if_neg h1]
  split
  · unfold ZS.block
    split
    · rename_i he
      obtain ⟨e1, e2⟩ := inErr_st he
      have hne : u ≠ t := fun e => by subst e; omega
      dsimp only
      rw [stOf_set _ _ _ e2, keyOf_setT _ _ _ _ _ hne, if_neg hne]
      exact ⟨hs, hk⟩
    · exact ⟨hs, hk⟩
  · split
    · unfold ZS.stop
      split
      · rename_i he
        obtain ⟨e1, e2⟩ := inErr_st he
        have hne : u ≠ t := fun e => by subst e; omega
        dsimp only
        rw [stOf_set _ _ _ e2, keyOf_setT _ _ _ _ _ hne, if_neg hne]
        exact ⟨hs, hk⟩
      · exact ⟨hs, hk⟩
    · split
      · unfold ZS.free
        split
        · rename_i he
          obtain ⟨e1, e2⟩ := inErr_st he
          have hne : u ≠ t := fun e => by subst e; omega
          dsimp only
          rw [stOf_cut, keyOf_cut _ _ _ hne, if_neg hne]
          exact ⟨hs, hk⟩
        · exact ⟨hs, hk⟩
      · split
        · rename_i hk5
          obtain ⟨w1, w2⟩ := wake_both Z.ths ky u
          unfold ZS.wake
          dsimp only
          rw [w1, w2, if_neg (fun hh => h5 ⟨hk5, by rw [← hh.2, hk]⟩)]
          exact ⟨hs, hk⟩
        · split
          · rw [pick_ths]; exact ⟨hs, hk⟩
          · exact ⟨hs, hk⟩

/-- Of two rising lists, the one that the other has is no longer. -/
theorem rising_sub : ∀ (B A : List Int), A.Pairwise (· < ·) → B.Pairwise (· < ·) → (∀ x ∈ A, x ∈ B) → A.length ≤ B.length
  | [], A, _, _, h => by
    cases A with
    | nil => exact Nat.le_refl _
    | cons a A => exact absurd (h a (by simp)) (by simp)
  | b :: B, [], _, _, _ => Nat.zero_le _
  | b :: B, a :: A, ha, hb, h => by
    obtain ⟨ha1, ha2⟩ := List.pairwise_cons.1 ha
    obtain ⟨hb1, hb2⟩ := List.pairwise_cons.1 hb
    by_cases e : a = b
    · have := rising_sub B A ha2 hb2 (fun x hx => by
        have h1 := ha1 x hx
        rcases List.mem_cons.1 (h x (by simp [hx])) with e' | e'
        · omega
        · exact e')
      simp; omega
    · have hab : a ∈ B := by
        rcases List.mem_cons.1 (h a (by simp)) with e' | e'
        · exact absurd e' e
        · exact e'
      have hlt := hb1 a hab
      have := rising_sub B (a :: A) ha hb2 (fun x hx => by
        rcases List.mem_cons.1 (h x hx) with e' | e'
        · rcases List.mem_cons.1 hx with e2 | e2
          · omega
          · have := ha1 x e2; omega
        · exact e')
      simp at this ⊢; omega
theorem ready_rising {n : Int} {l : List Th} (hr : Rising n l) : (readyT l).Pairwise (· < ·) := by
  unfold readyT
  rw [List.pairwise_map]
  exact hr.1.filter _
theorem waits_ge {n key : Int} {l : List Th} {R : List Int} (hr : Rising n l) (hR : R.Pairwise (· < ·)) (h : Wt l R key) : R.length ≤ waits l key := by
  unfold waits
  have := rising_sub ((l.filter (fun r => r.st == 2 && r.key == key)).map (·.no)) R hR (by rw [List.pairwise_map]; exact hr.1.filter _) (fun t ht => by
    obtain ⟨hs, hk⟩ := h t ht
    cases hx : idx l t with
    | none => rw [stOf_none hx] at hs; omega
    | some i =>
      obtain ⟨hi, he⟩ := stOf_some hx
      obtain ⟨_, hk2⟩ := keyOf_some hx
      obtain ⟨_, hno⟩ := idx_some hx
      rw [List.mem_map]
      exact ⟨l[i], List.mem_filter.2 ⟨List.getElem_mem _, by rw [he] at hs; rw [hk2] at hk; simp [hs, hk]⟩, hno⟩)
  simpa using this
theorem wt_woken {l : List Th} {R : List Int} {key : Int} (h : Wt l R key) : ∀ t ∈ R, stOf (wakeT l key) t = 1 := fun t ht => by
  obtain ⟨hs, hk⟩ := h t ht
  rw [(wake_both l key t).2, if_pos ⟨hs, hk⟩]
/-- The first j of R are blocked, the others ready. -/
structure Blkd (l : List Th) (R : List Int) (key : Int) (j : Nat) : Prop where
  done : Wt l (R.take j) key
  todo : ∀ t ∈ R.drop j, stOf l t = 1
theorem Blkd.start {n : Int} {l : List Th} (hr : Rising n l) (key : Int) : Blkd l (readyT l) key 0 :=
  ⟨fun t ht => by simp at ht, fun t ht => by
    rw [List.drop_zero] at ht
    have := mem_ready hr t
    rw [(among_iff _ _).2 ht] at this
    simpa using this.symm⟩
theorem Blkd.next {Z : ZS} {R : List Int} {key : Int} {j : Nat} (h : Blkd Z.ths R key j) (hR : R.Pairwise (· < ·)) (hj : j < R.length) : Z.inErr 1 (R.getD j 0) = 0 ∧ Blkd (Z.block (R.getD j 0) key).ths R key (j + 1) ∧ stOf (Z.block (R.getD j 0) key).ths (R.getD j 0) = 2 := by
  have e : R.getD j 0 = R[j] := by simp [List.getD, hj]
  rw [e]
  have hd : R.drop j = R[j] :: R.drop (j + 1) := List.drop_eq_getElem_cons hj
  have h1 := h.todo R[j] (by rw [hd]; exact List.mem_cons_self)
  have he : Z.inErr 1 R[j] = 0 := by unfold ZS.inErr; rw [h1]; rfl
  obtain ⟨e1, e2⟩ := inErr_st he
  unfold ZS.block
  rw [if_pos he]
  refine ⟨he, ⟨fun t ht => ?_, fun t ht => ?_⟩, by dsimp only; rw [stOf_set _ _ _ e2, if_pos rfl]⟩
  · rw [List.take_succ_eq_append_getElem hj, List.mem_append, List.mem_singleton] at ht
    dsimp only
    rcases ht with ht | rfl
    · obtain ⟨i, hi, rfl⟩ := List.mem_take_iff_getElem.1 ht
      have hlt := List.pairwise_iff_getElem.1 hR i j (by omega) hj (by omega)
      have hne : R[i] ≠ R[j] := by omega
      rw [stOf_set _ _ _ e2, if_neg hne, keyOf_setT _ _ _ _ _ hne]
      exact h.done _ ht
    · rw [stOf_set _ _ _ e2, if_pos rfl, keyOf_setT_same _ _ _ _ e2]
      exact ⟨rfl, rfl⟩
  · dsimp only
    obtain ⟨i, hi, rfl⟩ := List.mem_drop_iff_getElem.1 ht
    have hlt := List.pairwise_iff_getElem.1 hR j (j + 1 + i) hj (by omega) (by omega)
    have hne : R[j + 1 + i] ≠ R[j] := by omega
    rw [stOf_set _ _ _ e2, if_neg hne]
    exact h.todo _ (by rw [hd]; exact List.mem_cons_of_mem _ ht)
theorem own_zero {w : World} {v : Value} {base sz n : Nat} {t : TypeId} {xs : List Value} (h : w.ownsRow base t sz v n xs) : w.ownsRow 0 t sz v n xs := by
  obtain ⟨h1, h2⟩ := h
  refine ⟨h1, ?_⟩
  rcases h2 with h2 | ⟨g, cap, cur, e, a1, a2⟩
  · exact .inl h2
  · exact .inr ⟨g, cap, cur, e, Nat.zero_le _, a2⟩
theorem own_at {w : World} {ar : Option Addr} {cr : Nat} {R : List Int} (h : w.ownsRow 0 3 1 (.slice ar R.length cr) R.length (R.map (Value.int .i64))) : IntsAt w ar R := by
  obtain ⟨ra, rcap, hre, hri⟩ := own_ints h
  injection hre with hre1 _ hre2
  subst hre1; exact hri
end Go.Proofs.Ytlmgojnhmdppnaa
