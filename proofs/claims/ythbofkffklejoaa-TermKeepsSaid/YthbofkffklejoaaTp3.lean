/-
  Terms without variables; bindings that a term has no variable for. No condition.
-/
import Derived.Test.YthbofkffklejoaaTp2
namespace Go.Proofs.Ythbofkffklejoaa
set_option linter.unusedVariables false

/-- Of bindings those of variables that are not in a list. -/
def notIn (l : List Int) (bs : List BP) : List BP := bs.filter (fun q => !among l q.1)
theorem notIn_snoc (l : List Int) {bs : List BP} {j : Nat} {q : BP} (h : bs[j]? = some q) : notIn l (bs.take (j + 1)) = notIn l (bs.take j) ++ (if among l q.1 = true then [] else [q]) := by
  obtain ⟨hj, rfl⟩ := List.getElem?_eq_some_iff.1 h
  unfold notIn
  rw [List.take_succ_eq_append_getElem hj, List.filter_append]
  congr 1
  cases hm : among l bs[j].1 <;> simp [hm]
theorem notIn_len (l : List Int) (bs : List BP) : (notIn l bs).length ≤ bs.length := List.length_filter_le _ _
theorem notIn_mem {l : List Int} {bs : List BP} {q : BP} (h : q ∈ notIn l bs) : q ∈ bs ∧ among l q.1 = false := by
  have := List.mem_filter.1 h
  exact ⟨this.1, by simpa using this.2⟩
theorem bdOf_none {bs : List BP} {x : Int} (h : ∀ q ∈ bs, q.1 ≠ x) : bdOf bs x = none := by
  unfold bdOf
  rw [List.find?_eq_none.2 (fun q hq => by simpa using h q hq)]; rfl
theorem ap_notIn {t : Tm} {bs : List BP} (h : t.right = true) : apV t (notIn (vaV t) bs) = (t.tree.tm, 0) := by
  have hR := right_of.1 h
  have hv : vaV t = t.tree.vars := by rw [vaV, if_pos h]
  have hn : ∀ x ∈ t.tree.vars, bdOf (notIn (vaV t) bs) x = none := fun x hx => bdOf_none fun q hq e => by
    have := (notIn_mem hq).2
    rw [hv, e] at this
    rw [(among_iff _ _).2 hx] at this; cases this
  have hb : t.tree.vars.any (badB (notIn (vaV t) bs)) = false := by
    rw [List.any_eq_false]
    intro x hx
    unfold badB; rw [hn x hx]; simp
  have hc := cop_app (fun x => match bdOf (notIn (vaV t) bs) x with | some p => p.1 | none => .node 1 [] x []) t hR.1
  have he : fBd (bdOf (notIn (vaV t) bs)) = fApp (fun x => match bdOf (notIn (vaV t) bs) x with | some p => p.1 | none => .node 1 [] x []) := by
    funext s x
    unfold fBd fApp
    cases hx : bdOf (notIn (vaV t) bs) x <;> simp [hx]
  have hsub : t.tree.sub (fun x => (match bdOf (notIn (vaV t) bs) x with | some p => p.1 | none => Tm.node 1 [] x []).tree) = t.tree := by
    rw [T.sub_same (g := .v) fun x hx => ?_, T.sub_id]
    have := hn x ((t.tree.mem_vars x).2 hx)
    simp only [this]
    exact tree_1 rfl
  have hok : (t.cop (fBd (bdOf (notIn (vaV t) bs))) ()).1.ok = true := by
    rw [he]
    refine hc.2 fun x hx => ?_
    have := hn x ((t.tree.mem_vars x).2 hx)
    simp only [this]
    have h1 := T.ok_has (Tm.tree_right hR).1 hx
    simp [Tm.ok, h1]
  have htr : (t.cop (fBd (bdOf (notIn (vaV t) bs))) ()).1.tree = t.tree := by rw [he, hc.1, hsub]
  obtain ⟨e1, e2, _, _⟩ := Tm.tree_ns hok
  have hT := Tm.tree_right hR
  have hr : (t.cop (fBd (bdOf (notIn (vaV t) bs))) ()).1.right = true := right_of.2 ⟨hok, by rw [← e1, htr]; exact hT.2.1, by rw [← e2, htr]; exact hT.2.2⟩
  unfold apV
  rw [if_pos h, hb, if_neg (by decide), if_pos hr, htr]
theorem no_vars {t : Tm} (h : t.right = true) (hv : (vaV t).length = 0) : ∀ x, ¬ t.tree.has x := fun x hx => by
  have := (t.tree.mem_vars x).2 hx
  rw [vaV, if_pos h] at hv
  rw [List.eq_nil_of_length_eq_zero hv] at this; cases this
theorem sub_ground {t : T} {f : Int → T} (h : ∀ x, ¬ t.has x) : t.sub f = t := by
  rw [T.sub_same (g := .v) fun x hx => absurd hx (h x), T.sub_id]
theorem ground_facts {t u : Tm} (ht : t.right = true) (hu : u.right = true) (h1 : (vaV t).length = 0) (h2 : (vaV u).length = 0) {bs : List BP} {ok : Bool} {er : Int} (h : SolR t u bs ok er) : er = 0 ∧ bs.length = 0 ∧ ok = sameV t u ∧ vtV t u = sameV t u := by
  have n1 := no_vars ht h1
  have n2 := no_vars hu h2
  have hs : sameV t u = (t.tree.cmp u.tree == 0) := by unfold sameV; rw [ht, hu]; rfl
  have hvt : vtV t u = sameV t u := by
    unfold vtV T.ren
    rw [sub_ground n1, sub_ground n2, hs, ht, hu]; rfl
  by_cases he : t.tree = u.tree
  · have hsol : IsSol t.tree u.tree .v := ⟨by rw [he]; rfl, fun g hg x => by rw [T.sub_v], fun x y hxy => rfl, fun x _ _ => rfl, fun x y hxy => by injection hxy with h; omega⟩
    obtain ⟨e1, e2, e3⟩ := h.is (right_of.1 ht) (right_of.1 hu) hsol (fun x => .inl rfl) (xs := []) List.Pairwise.nil (fun x => by simp)
    have hz : sameV t u = true := by rw [hs, he, ((T.lin _).zero _).2 rfl]; rfl
    exact ⟨e2, by simpa using congrArg List.length e3, by rw [e1, hz], hvt⟩
  · obtain ⟨e1, e2, e3⟩ := h.no (right_of.1 ht) (right_of.1 hu) (fun f hf => he (by
      unfold Uni at hf
      rw [sub_ground n1, sub_ground n2] at hf; exact hf))
    have hz : sameV t u = false := by
      rw [hs]
      cases hc : (t.tree.cmp u.tree == 0) with
      | false => rfl
      | true => exact absurd (((T.lin _).zero _).1 (by simpa using hc)) he
    exact ⟨e2, by rw [e3]; rfl, by rw [e1, hz], hvt⟩
end Go.Proofs.Ythbofkffklejoaa
