/-
  OpsMany, plain: a table that is filled with operators n<number>. No condition.
-/
import Derived.Test.YtbjnbfoedicelaaDoorOp27
import Derived.Test.YtbjnbfoedicelaaDoorDec
namespace Go.Proofs.YtbjnbfoedicelaaDoor
set_option linter.unusedVariables false
set_option linter.unusedSimpArgs false

def num (i : Nat) : List UInt8 := 110 :: digs i
def valF (l : List UInt8) : Nat := l.foldl (fun n c => n * 10 + (c.toNat - 48)) 0
theorem val_digs : ∀ i : Fin 300, valF (digs i.val) = i.val := by decide +kernel
theorem num_inj {i j : Nat} (hi : i < 300) (hj : j < 300) (h : num i = num j) : i = j := by
  have h2 : digs i = digs j := by unfold num at h; exact (List.cons.inj h).2
  have h3 := val_digs ⟨i, hi⟩
  have h4 := val_digs ⟨j, hj⟩
  dsimp only at h3 h4
  rw [h2, h4] at h3
  exact h3.symm
theorem num_length (i : Nat) : 1 ≤ (num i).length ∧ (num i).length ≤ 21 := by
  have := digs_length i
  unfold num
  simp; omega
def nMore : List UInt8 := [109, 111, 114, 101]
theorem num_more (i : Nat) : num i ≠ nMore := by
  unfold num nMore
  intro h
  exact absurd (List.cons.inj h).1 (by decide)
theorem tab0_n : (tab0.all fun o => o.nm.head? != some 110) = true := by decide +kernel
theorem tab0_more (p : Bool) : find tab0 nMore p = none := by cases p <;> decide +kernel
theorem tab0_size : 30 ≤ tab0.length ∧ tab0.length ≤ 60 := by decide +kernel
theorem tab0_num (i : Nat) (p : Bool) : find tab0 (num i) p = none := by
  rcases hf : find tab0 (num i) p with _ | o
  · rfl
  · have := mem_of_find hf
    have h2 := List.all_eq_true.1 tab0_n o this.1
    rw [this.2.1] at h2
    simp [num] at h2
def numOp (ty pr : Int) (i : Nat) : Opv := ⟨num i, ty, pr⟩
def fillT (ty pr : Int) : Nat → Tab
  | 0 => tab0
  | k + 1 => addT (fillT ty pr k) (numOp ty pr (tab0.length + k))
theorem num_reserved (i : Nat) : reserved (num i) = false := by
  unfold reserved num
  simp
theorem check_free {T : Tab} {nm : List UInt8} {ty pr : Int} (h1 : 1 ≤ ty ∧ ty ≤ 7) (h2 : 0 ≤ pr ∧ pr ≤ 1200) (hn : 1 ≤ nm.length ∧ nm.length ≤ 64) (hr : reserved nm = false)
    (hf : find T nm false = none) (hl : T.length < 200) : checkV T ⟨nm, ty, pr⟩ = 0 := by
  unfold checkV other
  dsimp only
  rw [if_neg (by omega), if_neg (by omega), hf, hr]
  rw [if_neg (by simp), if_neg (by omega)]
theorem check_full {T : Tab} {nm : List UInt8} {ty pr : Int} (h1 : 1 ≤ ty ∧ ty ≤ 7) (h2 : 0 < pr ∧ pr ≤ 1200) (hn : 1 ≤ nm.length ∧ nm.length ≤ 64) (hr : reserved nm = false)
    (hf : ∀ p, find T nm p = none) (hl : 200 ≤ T.length) : checkV T ⟨nm, ty, pr⟩ = 3 := by
  unfold checkV other
  dsimp only
  rw [if_neg (by omega), if_neg (by omega), hf, hr]
  rw [if_neg (by simp), if_pos ⟨h2.1, by rw [hf]; rfl, hl⟩]
theorem check_there {T : Tab} {nm : List UInt8} {ty pr pr' : Int} (h1 : 1 ≤ ty ∧ ty ≤ 7) (h2 : 0 ≤ pr ∧ pr ≤ 1200) (hn : 1 ≤ nm.length ∧ nm.length ≤ 64) (hr : reserved nm = false)
    (hf : find T nm (isPre ty) = some ⟨nm, ty, pr'⟩) (ho : find T nm (!isPre ty) = none) : checkV T ⟨nm, ty, pr⟩ = 0 := by
  have hot : other T ⟨nm, ty, pr⟩ = false := by
    unfold other
    dsimp only
    rcases hp : isPre ty with _ | _
    · rw [hp] at hf
      rw [hf]; simp
    · rw [hp] at ho
      rw [show (!true) = false from rfl] at ho
      rw [ho]
  unfold checkV
  dsimp only
  rw [if_neg (by omega), if_neg (by omega), hot, hr]
  rw [if_neg (by simp), if_neg (by rw [hf]; simp)]
/-- What a table that is filled up to k holds. -/
structure Filled (ty pr : Int) (k : Nat) (T : Tab) : Prop where
  len : T.length = tab0.length + k
  apart : Apart T
  more : ∀ p, find T nMore p = none
  free : ∀ i p, tab0.length + k ≤ i → i < 300 → find T (num i) p = none
  there : ∀ i, tab0.length ≤ i → i < tab0.length + k → find T (num i) (isPre ty) = some ⟨num i, ty, pr⟩ ∧ find T (num i) (!isPre ty) = none
theorem filled {ty pr : Int} (h1 : 1 ≤ ty ∧ ty ≤ 7) (h2 : 1 ≤ pr ∧ pr ≤ 1200) (h0 : Apart tab0) : ∀ k, tab0.length + k ≤ 200 → Filled ty pr k (fillT ty pr k) := by
  intro k
  induction k with
  | zero => intro _; exact ⟨rfl, h0, tab0_more, fun i p _ _ => tab0_num i p, fun i h3 h4 => by omega⟩
  | succ k ih =>
    intro hk
    have ih := ih (by omega)
    have hc : checkV (fillT ty pr k) (numOp ty pr (tab0.length + k)) = 0 :=
      check_free h1 (by omega) (by have := num_length (tab0.length + k); omega) (num_reserved _) (ih.free _ _ (by omega) (by omega)) (by rw [ih.len]; omega)
    have e : fillT ty pr (k + 1) = put (fillT ty pr k) (numOp ty pr (tab0.length + k)) := by
      show addT _ _ = _
      unfold addT
      rw [if_pos hc, if_neg (by show ¬ pr = 0; omega)]
    have hfr := ih.free (tab0.length + k) (isPre ty) (by omega) (by omega)
    rw [e]
    refine ⟨?_, ih.apart.put _, fun p => ?_, fun i p h3 h4 => ?_, fun i h3 h4 => ?_⟩
    · rw [length_put ih.apart, ih.len]
      show (if (find (fillT ty pr k) (num (tab0.length + k)) (isPre ty)).isSome then _ else _) = _
      rw [hfr]; simp; omega
    · rw [find_put, if_neg (fun h => num_more _ h.1.symm)]; exact ih.more p
    · rw [find_put, if_neg (fun h => by have := num_inj (by omega) (by omega) h.1; omega)]; exact ih.free i p (by omega) h4
    · by_cases hi : i = tab0.length + k
      · subst hi
        rw [find_put, if_pos ⟨rfl, rfl⟩, find_put, if_neg (fun h => by have := h.2; revert this; show (!isPre ty) = isPre ty → False; cases isPre ty <;> simp)]
        exact ⟨rfl, ih.free _ _ (by omega) (by omega)⟩
      · rw [find_put, if_neg (fun h => hi (num_inj (by omega) (by omega) h.1)), find_put, if_neg (fun h => hi (num_inj (by omega) (by omega) h.1))]
        exact ih.there i h3 (by omega)
/-- What a full table answers, to the law's end. -/
theorem full_last {ty pr : Int} (h1 : 1 ≤ ty ∧ ty ≤ 7) (h2 : 1 ≤ pr ∧ pr ≤ 1200) {T : Tab} {k : Nat} (hf : Filled ty pr k T) (hk : tab0.length + k = 200) {i : Nat} (hi : tab0.length ≤ i ∧ i < 200) :
    checkV T ⟨nMore, ty, pr⟩ = 3 ∧ addT T ⟨nMore, ty, pr⟩ = T ∧
    checkV T ⟨num i, ty, 1⟩ = 0 ∧ (addT T ⟨num i, ty, 1⟩).length = 200 ∧
    checkV (addT T ⟨num i, ty, 1⟩) ⟨num i, ty, 0⟩ = 0 ∧ (addT (addT T ⟨num i, ty, 1⟩) ⟨num i, ty, 0⟩).length = 199 ∧
    checkV (addT (addT T ⟨num i, ty, 1⟩) ⟨num i, ty, 0⟩) ⟨nMore, ty, pr⟩ = 0 ∧ (addT (addT (addT T ⟨num i, ty, 1⟩) ⟨num i, ty, 0⟩) ⟨nMore, ty, pr⟩).length = 200 := by
  have hln := num_length i
  have hth := hf.there i hi.1 (by omega)
  have hlen := hf.len
  have c1 : checkV T ⟨nMore, ty, pr⟩ = 3 := check_full h1 (by omega) (by decide) (by decide) hf.more (by omega)
  have c2 : checkV T ⟨num i, ty, 1⟩ = 0 := check_there h1 (by omega) (by omega) (num_reserved i) hth.1 hth.2
  have e2 : addT T ⟨num i, ty, 1⟩ = put T ⟨num i, ty, 1⟩ := by unfold addT; rw [if_pos c2, if_neg (by show ¬ (1 : Int) = 0; omega)]
  have l2 : (addT T ⟨num i, ty, 1⟩).length = 200 := by
    rw [e2, length_put hf.apart]
    dsimp only
    rw [hth.1]; simp; omega
  have c3 : checkV (addT T ⟨num i, ty, 1⟩) ⟨num i, ty, 0⟩ = 0 := check_nought c2
  have e3 : addT (addT T ⟨num i, ty, 1⟩) ⟨num i, ty, 0⟩ = drop (addT T ⟨num i, ty, 1⟩) (num i) (isPre ty) := by
    rw [addT.eq_def (addT T ⟨num i, ty, 1⟩), if_pos c3, if_pos rfl]
  have a2 : Apart (addT T ⟨num i, ty, 1⟩) := hf.apart.add _
  have l3 : (addT (addT T ⟨num i, ty, 1⟩) ⟨num i, ty, 0⟩).length = 199 := by
    have hs : find (addT T ⟨num i, ty, 1⟩) (num i) (isPre ty) = some ⟨num i, ty, 1⟩ := by rw [e2, find_put]; exact if_pos ⟨rfl, rfl⟩
    rw [e3, length_drop a2, l2, hs]
    rfl
  have hm : ∀ p, find (addT (addT T ⟨num i, ty, 1⟩) ⟨num i, ty, 0⟩) nMore p = none := by
    intro p
    rw [e3, find_drop, if_neg (fun h => num_more _ h.1.symm), e2, find_put, if_neg (fun h => num_more _ h.1.symm)]
    exact hf.more p
  have c4 : checkV (addT (addT T ⟨num i, ty, 1⟩) ⟨num i, ty, 0⟩) ⟨nMore, ty, pr⟩ = 0 := check_free h1 (by omega) (by decide) (by decide) (hm false) (by omega)
  refine ⟨c1, addT_refused (by rw [c1]; decide), c2, l2, c3, l3, c4, ?_⟩
  rw [addT.eq_def (addT (addT T ⟨num i, ty, 1⟩) ⟨num i, ty, 0⟩), if_pos c4, if_neg (by show ¬ pr = 0; omega), length_put (a2.add _)]
  dsimp only
  rw [hm, l3]; rfl
/-- An operator that is no right one is refused, or has precedence nought. -/
theorem check_wrong (T : Tab) (nm : List UInt8) (ty pr : Int) (h : ty < 1 ∨ 7 < ty ∨ pr < 1 ∨ 1200 < pr) : checkV T ⟨nm, ty, pr⟩ ≠ 0 ∨ pr = 0 := by
  by_cases hp : pr = 0
  · exact .inr hp
  · refine .inl ?_
    unfold checkV
    dsimp only
    rw [if_pos (by omega)]
    decide
end Go.Proofs.YtbjnbfoedicelaaDoor
