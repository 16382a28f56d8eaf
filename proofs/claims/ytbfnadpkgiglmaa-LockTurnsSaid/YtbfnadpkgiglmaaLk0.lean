/-
  The plain state of the mutexes: the n-th that was made at place n - 1; what each call does to it. No condition.
-/
import Derived.Test.YtbfnadpkgiglmaaRows
import Derived.Lib.SlKeysI
import Derived.Maps.OwnSet
import Derived.WalkKit
namespace Go.Proofs.Ytbfnadpkgiglmaa
open Go.RowKit Go.Maps
set_option linter.unusedVariables false
set_option linter.unusedSimpArgs false

structure Lk where
  is : Bool
  ow : Int
  ct : Int
abbrev LS := List Lk
def zLk : Lk := ⟨false, 0, 0⟩
def LS.isAt (L : LS) (k : Nat) : Bool := (L.getD k zLk).is
def LS.get (L : LS) (m : Int) : Option Lk := if 1 ≤ m ∧ m ≤ L.length ∧ LS.isAt L (m - 1).toNat = true then some (L.getD (m - 1).toNat zLk) else none
/-- The numbers among the first k of those for which f holds. -/
def upto (f : Nat → Bool) (k : Nat) : List Int := ((List.range k).filter f).map (fun i : Nat => (i : Int) + 1)
def LS.all (L : LS) : List Int := upto (LS.isAt L) L.length
theorem upto_zero (f : Nat → Bool) : upto f 0 = [] := rfl
theorem upto_succ (f : Nat → Bool) (k : Nat) : upto f (k + 1) = upto f k ++ (if f k = true then [(k : Int) + 1] else []) := by
  unfold upto
  rw [List.range_succ, List.filter_append, List.map_append]
  congr 1
  cases h : f k <;> simp [h]
theorem upto_len (f : Nat → Bool) (k : Nat) : (upto f k).length ≤ k := by
  unfold upto
  rw [List.length_map]
  exact Nat.le_trans (List.length_filter_le _ _) (by simp)
theorem mem_upto {f : Nat → Bool} {k : Nat} {m : Int} : m ∈ upto f k ↔ ∃ i, i < k ∧ f i = true ∧ m = (i : Int) + 1 := by
  unfold upto
  simp only [List.mem_map, List.mem_filter, List.mem_range]
  constructor
  · rintro ⟨i, ⟨h1, h2⟩, rfl⟩; exact ⟨i, h1, h2, rfl⟩
  · rintro ⟨i, h1, h2, rfl⟩; exact ⟨i, ⟨h1, h2⟩, rfl⟩
theorem upto_lt (f : Nat → Bool) (k : Nat) : (upto f k).Pairwise (· < ·) := by
  unfold upto
  rw [List.pairwise_map]
  refine (List.Pairwise.filter f List.pairwise_lt_range).imp ?_
  intro a b h; omega
theorem upto_nodup (f : Nat → Bool) (k : Nat) : (upto f k).Nodup := (upto_lt f k).imp (fun h => by omega)
theorem upto_and (f g : Nat → Bool) (k : Nat) : upto (fun i => f i && g i) k = (upto f k).filter (fun m => g (m - 1).toNat) := by
  induction k with
  | zero => rfl
  | succ k ih =>
    rw [upto_succ, upto_succ, List.filter_append, ih]
    congr 1
    have e : ((k : Int) + 1 - 1).toNat = k := by omega
    cases h1 : f k <;> cases h2 : g k <;> simp [h1, h2, e]
theorem upto_congr {f g : Nat → Bool} {k : Nat} (h : ∀ i, i < k → f i = g i) : upto f k = upto g k := by
  unfold upto
  congr 1
  apply List.filter_congr
  intro x hx
  exact h x (by simpa using hx)

section
variable {L : LS} {m : Int}
theorem get_some {x : Lk} (h : LS.get L m = some x) : ∃ i : Nat, m = (i : Int) + 1 ∧ i < L.length ∧ LS.isAt L i = true ∧ L.getD i zLk = x := by
  unfold LS.get at h
  split at h
  · rename_i hh
    obtain ⟨h1, h2, h3⟩ := hh
    exact ⟨(m - 1).toNat, by omega, by omega, h3, Option.some.inj h⟩
  · cases h
theorem get_at {i : Nat} (hi : i < L.length) : LS.get L ((i : Int) + 1) = if LS.isAt L i = true then some (L.getD i zLk) else none := by
  unfold LS.get
  have e : ((i : Int) + 1 - 1).toNat = i := by omega
  rw [e]
  by_cases h : LS.isAt L i = true
  · rw [if_pos ⟨by omega, by omega, h⟩, if_pos h]
  · rw [if_neg (fun hh => h hh.2.2), if_neg h]
theorem get_low (h : m < 1) : LS.get L m = none := by unfold LS.get; rw [if_neg (by omega)]
theorem get_high (h : (L.length : Int) < m) : LS.get L m = none := by unfold LS.get; rw [if_neg (by omega)]
theorem mem_all : m ∈ LS.all L ↔ (LS.get L m).isSome = true := by
  unfold LS.all
  rw [mem_upto]
  constructor
  · rintro ⟨i, h1, h2, rfl⟩; rw [get_at h1, if_pos h2]; rfl
  · intro h
    obtain ⟨x, hx⟩ := Option.isSome_iff_exists.1 h
    obtain ⟨i, rfl, h1, h2, _⟩ := get_some hx
    exact ⟨i, h1, h2, rfl⟩
theorem getD_set (i j : Nat) (x : Lk) (hi : i < L.length) : (L.set i x).getD j zLk = if j = i then x else L.getD j zLk := by
  simp only [List.getD_eq_getElem?_getD, List.getElem?_set]
  by_cases h : i = j
  · subst h; simp [hi]
  · have : ¬ j = i := fun e => h e.symm
    simp [h, this]
theorem isAt_set (i j : Nat) (x : Lk) (hi : i < L.length) : LS.isAt (L.set i x) j = if j = i then x.is else LS.isAt L j := by
  unfold LS.isAt
  rw [getD_set i j x hi]
  split <;> rfl
theorem get_set (i : Nat) (x : Lk) (hi : i < L.length) : LS.get (L.set i x) m = if m = (i : Int) + 1 then (if x.is = true then some x else none) else LS.get L m := by
  by_cases h : m = (i : Int) + 1
  · subst h
    rw [if_pos rfl, get_at (by simpa using hi), isAt_set i i x hi, getD_set i i x hi, if_pos rfl, if_pos rfl]
  · rw [if_neg h]
    unfold LS.get
    rw [List.length_set, isAt_set i _ x hi, getD_set i _ x hi]
    by_cases hm : 1 ≤ m
    · have e : ¬ (m - 1).toNat = i := by omega
      rw [if_neg e, if_neg e]
    · rw [if_neg (fun hh => hm hh.1), if_neg (fun hh => hm hh.1)]
theorem get_push (x : Lk) : LS.get (L ++ [x]) m = if m = (L.length : Int) + 1 then (if x.is = true then some x else none) else LS.get L m := by
  by_cases h : m = (L.length : Int) + 1
  · subst h
    rw [if_pos rfl, get_at (by simp)]
    simp [LS.isAt, List.getD]
  · rw [if_neg h]
    unfold LS.get LS.isAt
    by_cases hm : 1 ≤ m ∧ m ≤ L.length
    · have e : (L ++ [x]).getD (m - 1).toNat zLk = L.getD (m - 1).toNat zLk := by
        simp only [List.getD_eq_getElem?_getD]
        rw [List.getElem?_append_left (by omega)]
      rw [e]
      have : m ≤ ((L ++ [x]).length : Nat) := by simp; omega
      by_cases hb : (L.getD (m - 1).toNat zLk).is = true
      · rw [if_pos ⟨hm.1, this, hb⟩, if_pos ⟨hm.1, hm.2, hb⟩]
      · rw [if_neg (fun hh => hb hh.2.2), if_neg (fun hh => hb hh.2.2)]
    · rw [if_neg (by simp; omega), if_neg (by omega)]
theorem get_mem {x : Lk} (h : LS.get L m = some x) : x ∈ L := by
  obtain ⟨i, _, h1, _, h3⟩ := get_some h
  rw [← h3]
  simp [List.getD, h1]
end

/-! ### What holds of every state -/
structure LS.Ok (L : LS) (c : Int) : Prop where
  few : (LS.all L).length ≤ 8
  each : ∀ x ∈ L, (x.ct = 0 ∧ x.ow = 0) ∨ (1 ≤ x.ct ∧ x.ct ≤ c ∧ 1 ≤ x.ow)
theorem LS.Ok.get {L : LS} {c : Int} (h : LS.Ok L c) {m : Int} {x : Lk} (hx : LS.get L m = some x) : (x.ct = 0 ∧ x.ow = 0) ∨ (1 ≤ x.ct ∧ x.ct ≤ c ∧ 1 ≤ x.ow) := h.each _ (get_mem hx)
theorem LS.Ok.mono {L : LS} {c d : Int} (h : LS.Ok L c) (hcd : c ≤ d) : LS.Ok L d := ⟨h.few, fun x hx => (h.each x hx).imp id (fun ⟨a, b, e⟩ => ⟨a, by omega, e⟩)⟩
theorem all_set_len {L : LS} {i : Nat} {x : Lk} (hi : i < L.length) (h : LS.isAt L i = true) : (LS.all (L.set i x)).length ≤ (LS.all L).length := by
  have e : LS.all (L.set i x) = (LS.all L).filter (fun m => decide ((m - 1).toNat ≠ i) || x.is) := by
    unfold LS.all
    rw [List.length_set, ← upto_and (LS.isAt L) (fun j => decide (j ≠ i) || x.is)]
    apply upto_congr
    intro j hj
    rw [isAt_set i j x hi]
    by_cases hji : j = i
    · subst hji; rw [if_pos rfl, h]; simp
    · rw [if_neg hji]; simp [hji]
  rw [e]
  exact List.length_filter_le _ _
theorem LS.Ok.set {L : LS} {c d : Int} (h : LS.Ok L c) {i : Nat} {x : Lk} (hi : i < L.length) (hl : LS.isAt L i = true) (hcd : c ≤ d) (hx : (x.ct = 0 ∧ x.ow = 0) ∨ (1 ≤ x.ct ∧ x.ct ≤ d ∧ 1 ≤ x.ow)) : LS.Ok (L.set i x) d :=
  ⟨Nat.le_trans (all_set_len hi hl) h.few, fun y hy => by
    rcases List.mem_or_eq_of_mem_set hy with hy | rfl
    · exact (h.mono hcd).each y hy
    · exact hx⟩
theorem all_push (L : LS) (x : Lk) : LS.all (L ++ [x]) = LS.all L ++ (if x.is = true then [(L.length : Int) + 1] else []) := by
  unfold LS.all
  rw [List.length_append, List.length_singleton, upto_succ]
  have e1 : upto (LS.isAt (L ++ [x])) L.length = upto (LS.isAt L) L.length := by
    apply upto_congr
    intro i hi
    unfold LS.isAt
    simp only [List.getD_eq_getElem?_getD]
    rw [List.getElem?_append_left hi]
  have e2 : LS.isAt (L ++ [x]) L.length = x.is := by
    unfold LS.isAt
    simp [List.getD]
  rw [e1, e2]
theorem LS.Ok.push {L : LS} {c : Int} (h : LS.Ok L c) (hl : (LS.all L).length < 8) : LS.Ok (L ++ [⟨true, 0, 0⟩]) c := by
  refine ⟨by rw [all_push]; simp; omega, fun y hy => ?_⟩
  rcases List.mem_append.1 hy with hy | hy
  · exact h.each y hy
  · rw [List.mem_singleton] at hy; subst hy; exact .inl ⟨rfl, rfl⟩

/-! ### The calls -/
def LS.make (L : LS) : LS := if 8 ≤ (LS.all L).length then L else L ++ [⟨true, 0, 0⟩]
def LS.makeNo (L : LS) : Int := if 8 ≤ (LS.all L).length then 0 else (L.length : Int) + 1
def LS.makeErr (L : LS) : Int := if 8 ≤ (LS.all L).length then 3 else 0
def LS.put (L : LS) (m : Int) (x : Lk) : LS := L.set (m - 1).toNat x
def LS.drop (L : LS) (m : Int) : LS := match LS.get L m with | none => L | some x => if 0 < x.ct then L else LS.put L m ⟨false, 0, 0⟩
def LS.dropErr (L : LS) (m : Int) : Int := match LS.get L m with | none => 61 | some x => if 0 < x.ct then 150 else 0
def LS.take (L : LS) (m t : Int) : LS := match LS.get L m with | none => L | some x => if t < 1 then L else if 0 < x.ct ∧ x.ow ≠ t then L else LS.put L m ⟨true, t, x.ct + 1⟩
def LS.takeErr (L : LS) (m t : Int) : Int := match LS.get L m with | none => 61 | some x => if t < 1 then 1 else if 0 < x.ct ∧ x.ow ≠ t then 141 else 0
def LS.give (L : LS) (m t : Int) : LS := match LS.get L m with | none => L | some x => if t < 1 then L else if x.ct = 0 ∨ x.ow ≠ t then L else if x.ct = 1 then LS.put L m ⟨true, 0, 0⟩ else LS.put L m ⟨true, t, x.ct - 1⟩
def LS.giveErr (L : LS) (m t : Int) : Int := match LS.get L m with | none => 61 | some x => if t < 1 then 1 else if x.ct = 0 ∨ x.ow ≠ t then 150 else 0
/-- Does a thread have the mutex at this place? -/
def LS.hasAt (L : LS) (t : Int) (i : Nat) : Bool := decide (0 < (L.getD i zLk).ct) && decide ((L.getD i zLk).ow = t)
def LS.own (L : LS) (t : Int) : List Int := (LS.all L).filter (fun m => LS.hasAt L t (m - 1).toNat)
def LS.clr (L : LS) (ms : List Int) : LS := ms.foldl (fun L m => LS.put L m ⟨true, 0, 0⟩) L
def LS.leave (L : LS) (t : Int) : LS := LS.clr L (LS.own L t)
theorem own_upto (L : LS) (t : Int) : LS.own L t = upto (fun i => LS.isAt L i && LS.hasAt L t i) L.length := by unfold LS.own LS.all; rw [← upto_and]
theorem length_put (L : LS) (m : Int) (x : Lk) : (LS.put L m x).length = L.length := by simp [LS.put]
theorem length_clr (L : LS) (ms : List Int) : (LS.clr L ms).length = L.length := by
  unfold LS.clr
  induction ms generalizing L with
  | nil => rfl
  | cons m ms ih => rw [List.foldl_cons, ih, length_put]
theorem clr_snoc (L : LS) (ms : List Int) (m : Int) : LS.clr L (ms ++ [m]) = LS.put (LS.clr L ms) m ⟨true, 0, 0⟩ := by unfold LS.clr; rw [List.foldl_append]; rfl
theorem all_put {L : LS} {m : Int} (hm : m ∈ LS.all L) (a b : Int) : LS.all (LS.put L m ⟨true, a, b⟩) = LS.all L := by
  obtain ⟨i, hi, hl, rfl⟩ := mem_upto.1 hm
  have e : ((i : Int) + 1 - 1).toNat = i := by omega
  unfold LS.put LS.all
  rw [e, List.length_set]
  apply upto_congr
  intro j hj
  rw [isAt_set i j _ hi]
  by_cases hji : j = i
  · subst hji; rw [if_pos rfl]; exact hl.symm
  · rw [if_neg hji]
/-- The state with the mutexes of ms given back, at a place. -/
theorem getD_clr {L : LS} {ms : List Int} (hms : ∀ m ∈ ms, m ∈ LS.all L) (j : Nat) : (LS.clr L ms).getD j zLk = if ((j : Int) + 1) ∈ ms then ⟨true, 0, 0⟩ else L.getD j zLk := by
  induction ms generalizing L with
  | nil => simp [LS.clr]
  | cons m ms ih =>
    have hm := hms m (by simp)
    have ih := ih (L := LS.put L m ⟨true, 0, 0⟩) (fun x hx => by rw [all_put hm]; exact hms x (by simp [hx]))
    have e0 : LS.clr L (m :: ms) = LS.clr (LS.put L m ⟨true, 0, 0⟩) ms := rfl
    rw [e0, ih]
    obtain ⟨i, hi, _, rfl⟩ := mem_upto.1 hm
    have e : ((i : Int) + 1 - 1).toNat = i := by omega
    unfold LS.put
    rw [e, getD_set _ _ _ hi]
    by_cases hj : j = i
    · subst hj; simp
    · have : ¬ ((j : Int) = (i : Int)) := by omega
      simp [hj, this]
theorem isAt_clr {L : LS} {ms : List Int} (hms : ∀ m ∈ ms, m ∈ LS.all L) (j : Nat) : LS.isAt (LS.clr L ms) j = LS.isAt L j := by
  unfold LS.isAt
  rw [getD_clr hms]
  split
  · rename_i h
    obtain ⟨i, _, hl, e⟩ := mem_upto.1 (hms _ h)
    have : j = i := by omega
    subst this
    exact hl.symm
  · rfl
theorem all_clr {L : LS} {ms : List Int} (hms : ∀ m ∈ ms, m ∈ LS.all L) : LS.all (LS.clr L ms) = LS.all L := by
  unfold LS.all
  rw [length_clr]
  exact upto_congr (fun i _ => isAt_clr hms i)
theorem get_clr {L : LS} {ms : List Int} (hms : ∀ m ∈ ms, m ∈ LS.all L) (m : Int) : LS.get (LS.clr L ms) m = if m ∈ ms then some ⟨true, 0, 0⟩ else LS.get L m := by
  unfold LS.get
  rw [length_clr, isAt_clr hms, getD_clr hms]
  by_cases h : m ∈ ms
  · obtain ⟨i, hi, hl, rfl⟩ := mem_upto.1 (hms m h)
    have e : ((i : Int) + 1 - 1).toNat = i := by omega
    rw [e, if_pos ⟨by omega, by omega, hl⟩, if_pos h, if_pos h]
  · rw [if_neg h]
    by_cases hm : 1 ≤ m
    · have e : (((m - 1).toNat : Nat) : Int) + 1 = m := by omega
      rw [e, if_neg h]
    · rw [if_neg (by omega), if_neg (by omega)]
theorem LS.Ok.clr {L : LS} {c : Int} (h : LS.Ok L c) {ms : List Int} (hms : ∀ m ∈ ms, m ∈ LS.all L) : LS.Ok (LS.clr L ms) c := by
  refine ⟨by rw [all_clr hms]; exact h.few, fun x hx => ?_⟩
  obtain ⟨j, hj, rfl⟩ := List.mem_iff_getElem.1 hx
  have e : (LS.clr L ms)[j] = (LS.clr L ms).getD j zLk := by simp [List.getD, hj]
  rw [e, getD_clr hms]
  split
  · exact .inl ⟨rfl, rfl⟩
  · rw [length_clr] at hj
    refine h.each _ ?_
    simp [List.getD, hj]
theorem own_sub (L : LS) (t : Int) : ∀ m ∈ LS.own L t, m ∈ LS.all L := fun m hm => (List.mem_filter.1 hm).1
theorem LS.Ok.make {L : LS} {c : Int} (h : LS.Ok L c) : LS.Ok (LS.make L) c := by
  unfold LS.make
  split
  · exact h
  · exact h.push (by omega)
theorem get_place {L : LS} {m : Int} {x : Lk} (h : LS.get L m = some x) : (m - 1).toNat < L.length ∧ LS.isAt L (m - 1).toNat = true := by
  obtain ⟨i, rfl, h1, h2, _⟩ := get_some h
  have e : ((i : Int) + 1 - 1).toNat = i := by omega
  rw [e]; exact ⟨h1, h2⟩
theorem LS.Ok.put {L : LS} {c d : Int} (h : LS.Ok L c) {m : Int} {y x : Lk} (hy : LS.get L m = some y) (hcd : c ≤ d) (hx : (x.ct = 0 ∧ x.ow = 0) ∨ (1 ≤ x.ct ∧ x.ct ≤ d ∧ 1 ≤ x.ow)) : LS.Ok (LS.put L m x) d :=
  h.set (get_place hy).1 (get_place hy).2 hcd hx
theorem LS.Ok.drop {L : LS} {c : Int} (h : LS.Ok L c) (m : Int) : LS.Ok (LS.drop L m) c := by
  unfold LS.drop
  cases hg : LS.get L m with
  | none => exact h
  | some x => dsimp only; split; exact h; exact h.put hg (Int.le_refl _) (.inl ⟨rfl, rfl⟩)
theorem LS.Ok.take {L : LS} {c : Int} (h : LS.Ok L c) (hc : 0 ≤ c) (m t : Int) : LS.Ok (LS.take L m t) (c + 1) := by
  unfold LS.take
  cases hg : LS.get L m with
  | none => exact h.mono (by omega)
  | some x =>
    dsimp only
    split
    · exact h.mono (by omega)
    · split
      · exact h.mono (by omega)
      · have := h.get hg
        exact h.put hg (by omega) (.inr ⟨by dsimp only; omega, by dsimp only; omega, by dsimp only; omega⟩)
theorem LS.Ok.give {L : LS} {c : Int} (h : LS.Ok L c) (m t : Int) : LS.Ok (LS.give L m t) c := by
  unfold LS.give
  cases hg : LS.get L m with
  | none => exact h
  | some x =>
    have := h.get hg
    dsimp only
    split
    · exact h
    · split
      · exact h
      · split
        · exact h.put hg (Int.le_refl _) (.inl ⟨rfl, rfl⟩)
        · exact h.put hg (Int.le_refl _) (.inr ⟨by dsimp only; omega, by dsimp only; omega, by dsimp only; omega⟩)
theorem LS.Ok.leave {L : LS} {c : Int} (h : LS.Ok L c) (t : Int) : LS.Ok (LS.leave L t) c := h.clr (own_sub L t)
theorem LS.Ok.nil : LS.Ok [] 0 := ⟨by simp [LS.all, upto], fun x hx => by cases hx⟩

/-- One call, by its kind. -/
def LS.step (L : LS) (k m t : Int) : LS := if k = 1 then LS.make L else if k = 2 then LS.drop L m else if k = 3 then LS.take L m t else if k = 4 then LS.give L m t else if k = 5 then LS.leave L t else L
theorem LS.Ok.step {L : LS} {c : Int} (h : LS.Ok L c) (hc : 0 ≤ c) (k m t : Int) : LS.Ok (LS.step L k m t) (c + 1) := by
  unfold LS.step
  split
  · exact h.make.mono (by omega)
  · split
    · exact (h.drop m).mono (by omega)
    · split
      · exact h.take hc m t
      · split
        · exact (h.give m t).mono (by omega)
        · split
          · exact (h.leave t).mono (by omega)
          · exact h.mono (by omega)
theorem length_step (L : LS) (k m t : Int) : (LS.step L k m t).length ≤ L.length + 1 := by
  unfold LS.step LS.make LS.drop LS.take LS.give LS.leave
  split
  · split <;> simp
  · split
    · cases LS.get L m with
      | none => simp
      | some x => dsimp only; split <;> simp [length_put]
    · split
      · cases LS.get L m with
        | none => simp
        | some x => dsimp only; split; simp; split <;> simp [length_put]
      · split
        · cases LS.get L m with
          | none => simp
          | some x => dsimp only; split; simp; split; simp; split <;> simp [length_put]
        · split
          · rw [length_clr]; omega
          · omega
end Go.Proofs.Ytbfnadpkgiglmaa
