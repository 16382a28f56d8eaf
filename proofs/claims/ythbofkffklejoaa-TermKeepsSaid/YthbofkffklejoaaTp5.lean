/-
  What a solution's bindings do to the terms; the other way round it is the same. No condition.
-/
import Derived.Test.YthbofkffklejoaaTp3
namespace Go.Proofs.Ythbofkffklejoaa
set_option linter.unusedVariables false

/-- What is known of bindings that make two terms the same. -/
structure Sols (t u : Tm) (bs : List BP) (f : Int → T) : Prop where
  rt : t.Right
  ru : u.Right
  sol : IsSol t.tree u.tree f
  right : ∀ x, f x = .v x ∨ (f x).Right
  rise : (bs.map (·.1)).Pairwise (· < ·)
  are : ∀ p ∈ bs, p.2.1 = (f p.1).tm ∧ f p.1 ≠ .v p.1
  all : ∀ x, f x ≠ .v x → ∃ p ∈ bs, p.1 = x
theorem sol_sols {t u : Tm} {bs : List BP} {ok : Bool} {er : Int} (h : SolR t u bs ok er) : (ok = true ∧ er = 0 ∧ ∃ f, Sols t u bs f) ∨ (ok = false ∧ bs = []) := by
  rcases h with h | ⟨h1, h2, h | h | h⟩
  · exact .inr ⟨h.2.2.1, h.2.1⟩
  · exact .inr ⟨h.2.1, h.1⟩
  · exact .inr ⟨h.2.1, h.1⟩
  · obtain ⟨e1, e2, f, a, b, c, d, e⟩ := h
    exact .inl ⟨e1, e2, f, h1, h2, a, b, c, d, e⟩
theorem Sols.xs {t u : Tm} {bs : List BP} {f : Int → T} (h : Sols t u bs f) (x : Int) : f x ≠ .v x ↔ x ∈ bs.map (·.1) := by
  constructor
  · intro hx
    obtain ⟨p, hp, rfl⟩ := h.all x hx
    exact List.mem_map_of_mem hp
  · intro hx
    obtain ⟨p, hp, rfl⟩ := List.mem_map.1 hx
    exact (h.are p hp).2
theorem sol_swap {t u : Tm} {bs cs : List BP} {ok ok' : Bool} {er er' : Int} (h : SolR t u bs ok er) (k : SolR u t cs ok' er') : ok' = ok ∧ er' = er ∧ bs.map (fun p => (p.1, p.2.1)) = cs.map (fun p => (p.1, p.2.1)) := by
  rcases sol_sols h with ⟨rfl, rfl, f, hf⟩ | ⟨rfl, rfl⟩
  · obtain ⟨e1, e2, e3⟩ := k.is hf.ru hf.rt hf.sol.swap hf.right hf.rise hf.xs
    obtain ⟨_, _, e4⟩ := h.is hf.rt hf.ru hf.sol hf.right hf.rise hf.xs
    exact ⟨e1, e2, by rw [e3, e4]⟩
  · rcases sol_sols k with ⟨rfl, rfl, f, hf⟩ | ⟨rfl, rfl⟩
    · obtain ⟨e1, _, _⟩ := h.is hf.ru hf.rt hf.sol.swap hf.right hf.rise hf.xs
      cases e1
    · refine ⟨rfl, ?_, rfl⟩
      rcases h with h | ⟨h1, h2, h | h | h⟩
      · rcases k with k | ⟨k1, k2, _⟩
        · rw [k.2.2.2, h.2.2.2]
        · exact absurd ⟨k2, k1⟩ h.1
      · rcases k with k | ⟨k1, k2, k | k | k⟩
        · exact absurd ⟨h2, h1⟩ k.1
        · rw [k.2.2.1, h.2.2.1]
        · obtain ⟨_, _, _, g, hg, _⟩ := k
          exact absurd hg.swap.uni (h.2.2.2 g)
        · exact absurd k.1 (by decide)
      · rcases k with k | ⟨k1, k2, k | k | k⟩
        · exact absurd ⟨h2, h1⟩ k.1
        · obtain ⟨_, _, _, g, hg, _⟩ := h
          exact absurd hg.swap.uni (k.2.2.2 g)
        · rw [k.2.2.1, h.2.2.1]
        · exact absurd k.1 (by decide)
      · exact absurd h.1 (by decide)
theorem Sols.bd {t u : Tm} {bs : List BP} {f : Int → T} (h : Sols t u bs f) (x : Int) : (f x = .v x ∧ bdOf bs x = none) ∨ (∃ p, bdOf bs x = some p ∧ p.1 = (f x).tm ∧ (f x).Right) := by
  unfold bdOf
  cases hf : bs.find? (fun q => q.1 == x) with
  | none =>
    refine .inl ⟨?_, rfl⟩
    refine Classical.byContradiction fun hx => ?_
    obtain ⟨p, hp, rfl⟩ := h.all x hx
    exact absurd (List.find?_eq_none.1 hf p hp) (by simp)
  | some p =>
    have hp := List.mem_of_find?_eq_some hf
    have hpx : p.1 = x := by simpa using List.find?_some hf
    subst hpx
    refine .inr ⟨p.2, rfl, (h.are p hp).1, ?_⟩
    rcases h.right p.1 with h1 | h1
    · exact absurd h1 (h.are p hp).2
    · exact h1
/-- What Apply makes of a right term by such bindings. -/
theorem Sols.ap {t u s x : Tm} {e : Int} {bs : List BP} {f : Int → T} (h : Sols t u bs f) (hs : s.right = true) (ha : apV s bs = (x, e)) : (e = 2 ∨ e = 0) ∧ (e = 0 → x.right = true ∧ x.tree = s.tree.sub f) := by
  have hR := right_of.1 hs
  have hb : s.tree.vars.any (badB bs) = false := by
    rw [List.any_eq_false]
    intro z _
    unfold badB
    rcases h.bd z with ⟨_, h1⟩ | ⟨p, h1, h2, h3⟩
    · rw [h1]; simp
    · rw [h1]; simp only [h2]
      rw [right_of.2 ((T.tm_right _).2 h3)]; simp
  have hc := cop_app (fun z => match bdOf bs z with | some q => q.1 | none => .node 1 [] z []) s hR.1
  have he : fBd (bdOf bs) = fApp (fun z => match bdOf bs z with | some q => q.1 | none => .node 1 [] z []) := by
    funext s z
    unfold fBd fApp
    cases hz : bdOf bs z <;> simp [hz]
  have hsub : (fun z => (match bdOf bs z with | some q => q.1 | none => Tm.node 1 [] z []).tree) = f := by
    funext z
    rcases h.bd z with ⟨h0, h1⟩ | ⟨p, h1, h2, h3⟩
    · simp only [h1]; rw [h0]; exact tree_1 rfl
    · simp only [h1]; rw [h2, T.tm_tree]
  unfold apV at ha
  rw [if_pos hs, hb, if_neg (by decide)] at ha
  by_cases hr : (s.cop (fBd (bdOf bs)) ()).1.right = true
  · rw [if_pos hr] at ha
    obtain ⟨rfl, rfl⟩ := Prod.mk.inj ha
    refine ⟨.inr rfl, fun _ => ⟨right_of.2 ((T.tm_right _).2 (Tm.tree_right (right_of.1 hr))), ?_⟩⟩
    rw [T.tm_tree, he, hc.1, hsub]
  · rw [if_neg hr] at ha
    obtain ⟨rfl, rfl⟩ := Prod.mk.inj ha
    exact ⟨.inl rfl, fun h => by cases h⟩
/-- Terms of one tree are solved already. -/
theorem one_tree {x y : Tm} {ds : List BP} {ok : Bool} {er : Int} (hx : x.right = true) (hy : y.right = true) (he : x.tree = y.tree) (h : SolR x y ds ok er) : ok = true ∧ er = 0 ∧ ds.length = 0 ∧ sameV x y = true := by
  have hsol : IsSol x.tree y.tree .v := ⟨by rw [he]; rfl, fun g hg x => by rw [T.sub_v], fun x y hxy => rfl, fun x _ _ => rfl, fun x y hxy => by injection hxy with h; omega⟩
  obtain ⟨e1, e2, e3⟩ := h.is (right_of.1 hx) (right_of.1 hy) hsol (fun x => .inl rfl) (xs := []) List.Pairwise.nil (fun x => by simp)
  exact ⟨e1, e2, by simpa using congrArg List.length e3, by unfold sameV; rw [hx, hy, he, ((T.lin _).zero _).2 rfl]; rfl⟩
theorem Sols.part {t u : Tm} {bs : List BP} {f : Int → T} (h : Sols t u bs f) {p : BP} (hp : p ∈ bs) : p.2.1.right = true ∧ vaV p.2.1 = (f p.1).vars ∧ (vaV p.2.1).length ≤ 2000 ∧ ∀ q ∈ bs, ∀ z ∈ vaV p.2.1, q.1 ≠ z := by
  obtain ⟨h1, h2⟩ := h.are p hp
  have hr : (f p.1).Right := by rcases h.right p.1 with h3 | h3; exact absurd h3 h2; exact h3
  have hR : p.2.1.right = true := by rw [h1]; exact right_of.2 ((T.tm_right _).2 hr)
  have hv : vaV p.2.1 = (f p.1).vars := by rw [vaV, if_pos hR, h1, T.tm_tree]
  refine ⟨hR, hv, by rw [hv]; exact Nat.le_trans (T.vars_len _) hr.2.1, fun q hq z hz => ?_⟩
  rw [hv] at hz
  rintro rfl
  exact (h.are q hq).2 (h.sol.idem p.1 q.1 (((f p.1).mem_vars _).1 hz))
theorem len_sub : ∀ (ys xs : List Int), xs.Nodup → (∀ x ∈ xs, x ∈ ys) → xs.length ≤ ys.length := by
  intro ys
  induction ys with
  | nil =>
    intro xs _ h
    cases xs with
    | nil => exact Nat.le_refl _
    | cons x xs => exact absurd (h x List.mem_cons_self) (by simp)
  | cons y ys ih =>
    intro xs hn h
    have h1 := ih (xs.filter (fun x => !decide (x = y))) (hn.filter _) fun x hx => by
      obtain ⟨hx1, hx2⟩ := List.mem_filter.1 hx
      rcases List.mem_cons.1 (h x hx1) with rfl | h2
      · simp at hx2
      · exact h2
    have h2 : xs.length ≤ (xs.filter (fun x => !decide (x = y))).length + 1 := by
      clear ih h h1
      induction xs with
      | nil => simp
      | cons x xs ih =>
        rw [List.nodup_cons] at hn
        by_cases hx : x = y
        · subst hx
          have : xs.filter (fun z => !decide (z = x)) = xs := List.filter_eq_self.2 fun z hz => by
            have : z ≠ x := fun e => hn.1 (e ▸ hz)
            simp [this]
          rw [List.filter_cons_of_neg (by simp), this]; simp
        · rw [List.filter_cons_of_pos (by simp [hx]), List.length_cons, List.length_cons]
          have := ih hn.2
          omega
    rw [List.length_cons]; omega
theorem Sols.var {t u : Tm} {bs : List BP} {f : Int → T} (h : Sols t u bs f) {p : BP} (hp : p ∈ bs) : p.1 ∈ t.tree.vars ∨ p.1 ∈ u.tree.vars := by
  refine Classical.byContradiction fun hn => (h.are p hp).2 (h.sol.none p.1 (fun h1 => hn (.inl ((T.mem_vars _ _).2 h1))) (fun h1 => hn (.inr ((T.mem_vars _ _).2 h1))))
theorem Sols.len {t u : Tm} {bs : List BP} {f : Int → T} (h : Sols t u bs f) : bs.length ≤ 4000 := by
  have h1 : (bs.map (·.1)).Nodup := h.rise.imp fun h => by omega
  have h2 := len_sub (t.tree.vars ++ u.tree.vars) (bs.map (·.1)) h1 fun x hx => by
    obtain ⟨p, hp, rfl⟩ := List.mem_map.1 hx
    rcases h.var hp with h | h
    · exact List.mem_append_left _ h
    · exact List.mem_append_right _ h
  rw [List.length_map, List.length_append] at h2
  have h3 := Nat.le_trans t.tree.vars_len (Tm.tree_right h.rt).2.1
  have h4 := Nat.le_trans u.tree.vars_len (Tm.tree_right h.ru).2.1
  omega
theorem Sols.rises {t u : Tm} {bs : List BP} {f : Int → T} (h : Sols t u bs f) {k : Nat} {p q : BP} (hp : bs[k]? = some p) (hq : bs[k + 1]? = some q) : p.1 < q.1 := by
  have := List.pairwise_iff_getElem.1 h.rise k (k + 1) (by rw [List.length_map]; exact (List.getElem?_eq_some_iff.1 hp).1) (by rw [List.length_map]; exact (List.getElem?_eq_some_iff.1 hq).1) (Nat.lt_succ_self k)
  rw [List.getElem_map, List.getElem_map] at this
  obtain ⟨h1, rfl⟩ := List.getElem?_eq_some_iff.1 hp
  obtain ⟨h2, rfl⟩ := List.getElem?_eq_some_iff.1 hq
  exact this
end Go.Proofs.Ythbofkffklejoaa
