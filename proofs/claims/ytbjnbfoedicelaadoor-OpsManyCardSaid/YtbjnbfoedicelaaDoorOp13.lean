/-
  Operators: sorted by their order, plain. No condition.
-/
import Derived.Test.YtbjnbfoedicelaaDoorOp10
namespace Go.Proofs.YtbjnbfoedicelaaDoor
open Go.RowKit Go.Maps Go.Sort
set_option linter.unusedVariables false
set_option linter.unusedSimpArgs false

def ltV (a b : Opv) : Prop := a.nm < b.nm ∨ a.nm = b.nm ∧ rankV a.ty < rankV b.ty
theorem rank_cases (t : Int) : rankV t = 0 ∨ rankV t = 1 := by unfold rankV; cases isPre t <;> simp
theorem rank_pre {a b : Int} (h : rankV a = rankV b) : isPre a = isPre b := by
  unfold rankV at h
  cases ha : isPre a <;> cases hb : isPre b <;> simp [ha, hb] at h ⊢
theorem ord_lt (a b : Opv) : Go.Proofs.ltOf ordV a b = true ↔ ltV a b := by
  unfold Go.Proofs.ltOf ordV orV cmpS cmpI ltV
  simp only [decide_eq_true_eq]
  by_cases h1 : a.nm < b.nm
  · simp [h1]
  · by_cases h2 : a.nm = b.nm
    · simp only [h1, h2, if_false, if_true, false_or, true_and]
      have hbb : ¬ b.nm < b.nm := List.lt_irrefl b.nm
      simp only [hbb, if_false, if_true, false_or]
      by_cases h3 : rankV a.ty < rankV b.ty
      · simp [h3]
      · by_cases h4 : rankV b.ty < rankV a.ty <;> simp [h3, h4]
    · simp [h1, h2]
theorem ord_not (a b : Opv) : Go.Proofs.ltOf ordV a b = false ↔ ¬ ltV a b := by
  rw [← ord_lt]; simp
theorem ltV_irrefl (a : Opv) : ¬ ltV a a := by
  rintro (h | ⟨_, h⟩)
  · exact List.lt_irrefl _ h
  · omega
theorem ltV_trans {a b c : Opv} (h : ltV a b) (k : ltV b c) : ltV a c := by
  rcases h with h | ⟨h, h'⟩ <;> rcases k with k | ⟨k, k'⟩
  · exact .inl (List.lt_trans h k)
  · exact .inl (k ▸ h)
  · exact .inl (h ▸ k)
  · exact .inr ⟨h.trans k, by omega⟩
theorem nm_tri (x y : List UInt8) : x < y ∨ x = y ∨ y < x := by
  by_cases h : x < y
  · exact .inl h
  · by_cases h2 : y < x
    · exact .inr (.inr h2)
    · exact .inr (.inl (List.le_antisymm (List.not_lt.1 h2) (List.not_lt.1 h)))
theorem ltV_ntrans {a b c : Opv} (h : ¬ ltV a b) (k : ¬ ltV b c) : ¬ ltV a c := by
  unfold ltV at *
  simp only [not_or, not_and] at h k
  rintro (hl | ⟨he, hr⟩)
  · rcases nm_tri a.nm b.nm with h1 | h1 | h1
    · exact h.1 h1
    · exact k.1 (h1 ▸ hl)
    · exact k.1 (List.lt_trans h1 hl)
  · rcases nm_tri a.nm b.nm with h1 | h1 | h1
    · exact h.1 h1
    · have r1 := h.2 h1
      have r2 := k.2 (h1.symm.trans he)
      omega
    · exact k.1 (he ▸ h1)
theorem ordSWO : SWO (Go.Proofs.ltOf ordV) where
  irrefl x := (ord_not x x).2 (ltV_irrefl x)
  trans x y z h1 h2 := (ord_lt x z).2 (ltV_trans ((ord_lt x y).1 h1) ((ord_lt y z).1 h2))
  ntrans x y z h1 h2 := (ord_not x z).2 (ltV_ntrans ((ord_not x y).1 h1) ((ord_not y z).1 h2))
/-- All operators in order. -/
def leB' (a b : Opv) : Bool := !(Go.Proofs.ltOf ordV b a)
def allT (T : Tab) : Tab := T.mergeSort leB'
theorem leB_iff (a b : Opv) : leB' a b = true ↔ ¬ ltV b a := by unfold leB'; rw [← ord_lt]; simp
theorem allT_perm (T : Tab) : (allT T).Perm T := List.mergeSort_perm T leB'
theorem allT_length (T : Tab) : (allT T).length = T.length := (allT_perm T).length_eq
theorem allT_sorted (T : Tab) : (allT T).Pairwise (fun a b => leB' a b = true) := by
  refine List.pairwise_mergeSort (fun a b c h1 h2 => ?_) (fun a b => ?_) T
  · rw [leB_iff] at *
    exact ltV_ntrans h2 h1
  · rw [Bool.or_eq_true, leB_iff, leB_iff]
    by_cases h : ltV b a
    · exact .inr (fun h2 => ltV_irrefl a (ltV_trans h2 h))
    · exact .inl h
/-- A sorted list of the same operators is that one. -/
theorem sorted_is {T xs : Tab} (ha : Apart T) (hp : xs.Perm T) (hs : xs.Pairwise (fun a b => leB' a b = true)) : xs = allT T := by
  refine List.Perm.eq_of_pairwise (le := fun a b => leB' a b = true) (fun a b h1 h2 h3 h4 => ?_) hs (allT_sorted T) (hp.trans (allT_perm T).symm)
  have hA : a ∈ T := hp.mem_iff.1 h1
  have hB : b ∈ T := (allT_perm T).mem_iff.1 h2
  rw [leB_iff] at h3 h4
  unfold ltV at h3 h4
  simp only [not_or, not_and] at h3 h4
  have hn : a.nm = b.nm := by
    rcases nm_tri a.nm b.nm with h | h | h
    · exact absurd h h4.1
    · exact h
    · exact absurd h h3.1
  have hr := rank_pre (a := a.ty) (b := b.ty) (by have := h4.2 hn; have := h3.2 hn.symm; omega)
  have e1 := find_of_mem ha hA
  have e2 := find_of_mem ha hB
  rw [hn, hr, e2] at e1
  exact (Option.some.inj e1).symm
theorem allT_eq {T U : Tab} (ha : Apart T) (h : T = U) : allT T = allT U := by rw [h]
/-- What the sort leaves. -/
theorem sorted_of {T xs : Tab} {d' : Array Opv} (ha : Apart T) (hx : xs.Perm T) (hp : PermIn 0 xs.toArray.size xs.toArray d') (hs : SortedIn (Go.Proofs.ltOf ordV) 0 xs.toArray.size d') : d' = (allT T).toArray := by
  obtain ⟨h1, _, h3⟩ := hp
  have e1 : (xs.toArray.extract 0 xs.toArray.size).toList = xs := by simp
  have e2 : (d'.extract 0 xs.toArray.size).toList = d'.toList := by rw [← h1]; simp
  rw [e1, e2] at h3
  have : d'.toList = allT T := by
    refine sorted_is ha (h3.trans hx) (List.pairwise_iff_getElem.2 fun i j hi hj hij => ?_)
    have := hs i j (Nat.zero_le _) hij (by rw [← h1]; simpa using hj)
    unfold leB'
    rw [getElem!_pos d' j (by simpa using hj), getElem!_pos d' i (by simpa using hi)] at this
    simp [this]
  rw [← this]
end Go.Proofs.YtbjnbfoedicelaaDoor
