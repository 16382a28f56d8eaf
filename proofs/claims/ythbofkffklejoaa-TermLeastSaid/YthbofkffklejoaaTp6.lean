/-
  Whatever bindings make two terms the same are the solution's, further bound. No condition.
-/
import Derived.Test.YthbofkffklejoaaTp5
namespace Go.Proofs.Ythbofkffklejoaa
set_option linter.unusedVariables false

/-- What bindings put in for a variable. -/
def bdT (bs : List BP) : Int → T := fun y => match bdOf bs y with | some p => p.1.tree | none => .v y
theorem ap_ok {t x : Tm} {bs : List BP} (h : apV t bs = (x, 0)) : t.right = true ∧ x.right = true ∧ x.tree = t.tree.sub (bdT bs) := by
  unfold apV at h
  by_cases ht : t.right = true
  · rw [if_pos ht] at h
    by_cases hb : t.tree.vars.any (badB bs) = true
    · rw [if_pos hb] at h; have := (Prod.mk.inj h).2; exact absurd this (by decide)
    · rw [if_neg hb] at h
      have hR := right_of.1 ht
      have hc := cop_app (fun z => match bdOf bs z with | some q => q.1 | none => .node 1 [] z []) t hR.1
      have he : fBd (bdOf bs) = fApp (fun z => match bdOf bs z with | some q => q.1 | none => .node 1 [] z []) := by
        funext s z
        unfold fBd fApp
        cases hz : bdOf bs z <;> simp [hz]
      have hsub : (fun z => (match bdOf bs z with | some q => q.1 | none => Tm.node 1 [] z []).tree) = bdT bs := by
        funext z
        unfold bdT
        cases hz : bdOf bs z with
        | none => exact tree_1 rfl
        | some q => rfl
      by_cases hr : (t.cop (fBd (bdOf bs)) ()).1.right = true
      · rw [if_pos hr] at h
        obtain ⟨rfl, _⟩ := Prod.mk.inj h
        refine ⟨ht, right_of.2 ((T.tm_right _).2 (Tm.tree_right (right_of.1 hr))), ?_⟩
        rw [T.tm_tree, he, hc.1, hsub]
      · rw [if_neg hr] at h; have := (Prod.mk.inj h).2; exact absurd this (by decide)
  · rw [if_neg ht] at h; have := (Prod.mk.inj h).2; exact absurd this (by decide)
theorem same_tree {x y : Tm} (h : sameV x y = true) : x.tree = y.tree := by
  unfold sameV at h
  simp only [Bool.and_eq_true, beq_iff_eq] at h
  exact ((T.lin _).zero _).1 h.2
theorem least_sol {a b x y : Tm} {some : List BP} (hx : apV a some = (x, 0)) (hy : apV b some = (y, 0)) (hs : sameV x y = true) {bs : List BP} {ok : Bool} {er : Int} (h : SolR a b bs ok er) : er = 2 ∨ (ok = true ∧ er = 0 ∧ ∃ f, Sols a b bs f) := by
  obtain ⟨ra, _, ex⟩ := ap_ok hx
  obtain ⟨rb, _, ey⟩ := ap_ok hy
  have hu : Uni a.tree b.tree (bdT some) := by unfold Uni; rw [← ex, ← ey]; exact same_tree hs
  rcases h with h | ⟨h1, h2, h | h | h⟩
  · exact absurd ⟨right_of.1 ra, right_of.1 rb⟩ h.1
  · exact absurd hu (h.2.2.2 _)
  · exact .inl h.2.2.1
  · obtain ⟨e1, e2, f, p, q, c, d, e⟩ := h
    exact .inr ⟨e1, e2, f, h1, h2, p, q, c, d, e⟩
theorem least_fits {a b x y z : Tm} {some : List BP} (hx : apV a some = (x, 0)) (hy : apV b some = (y, 0)) (hs : sameV x y = true) {bs : List BP} {f : Int → T} (hf : Sols a b bs f) (hz : z.tree = a.tree.sub f) (hzr : z.right = true) {M : Int} (hM : 1 ≤ M) (hv : ∀ v ∈ vaV x, v < M) {ds : List BP} {ok : Bool} {er : Int} (h : SolR (z.tree.ren M).tm x ds ok er) : ok = true ∨ er = 2 := by
  obtain ⟨_, rx, ex⟩ := ap_ok hx
  obtain ⟨_, _, ey⟩ := ap_ok hy
  have hu : Uni a.tree b.tree (bdT some) := by unfold Uni; rw [← ex, ← ey]; exact same_tree hs
  have hg : z.tree.sub (bdT some) = x.tree := by
    rw [hz, T.sub_sub, ex]
    exact T.sub_same fun v _ => hf.sol.gen _ hu v
  have hvx : ∀ v, x.tree.has v → v < M := fun v h => hv v (by rw [vaV, if_pos rx]; exact (T.mem_vars _ _).2 h)
  have hU : Uni (z.tree.ren M) x.tree (fun v => if M ≤ v then bdT some (z.tree.vars.getD (v - M).toNat 0) else .v v) := by
    unfold Uni
    have e2 : x.tree.sub (fun v => if M ≤ v then bdT some (z.tree.vars.getD (v - M).toNat 0) else .v v) = x.tree := by
      rw [T.sub_same (g := .v) fun v h => ?_, T.sub_id]
      have := hvx v h
      rw [if_neg (by omega)]
    rw [e2, ← hg]
    unfold T.ren
    rw [T.sub_sub]
    refine T.sub_same fun v h => ?_
    show (T.v (M + (idx z.tree.vars v : Int))).sub _ = _
    rw [T.sub_v, if_pos (by omega)]
    congr 1
    have hm := (T.mem_vars _ _).2 h
    have hi := (idx_mem hm).1
    have e3 : (M + (idx z.tree.vars v : Int) - M).toNat = idx z.tree.vars v := by omega
    rw [e3, List.getD_eq_getElem?_getD, List.getElem?_eq_getElem hi, Option.getD_some]
    have hj := map_idx 0 z.tree.vars (T.vars_nodup _) (idx z.tree.vars v) hi
    exact idx_inj (List.getElem_mem hi) hm (by omega)
  have hw : (z.tree.ren M).tm.Right := (T.tm_right _).2 (T.ren_right (Tm.tree_right (right_of.1 hzr)) hM)
  rcases h with h | ⟨h1, h2, h | h | h⟩
  · exact absurd ⟨hw, right_of.1 rx⟩ h.1
  · refine absurd hU ?_
    have := h.2.2.2
    rw [T.tm_tree] at this
    exact this _
  · exact .inr h.2.2.1
  · exact .inl h.1
end Go.Proofs.Ythbofkffklejoaa
