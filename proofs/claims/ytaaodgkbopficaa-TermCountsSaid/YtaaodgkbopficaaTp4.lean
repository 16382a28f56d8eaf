/-
  A compound term's size, depth and variables out of its arguments'; a variable put in. No condition.
-/
import Derived.Test.YtaaodgkbopficaaTp3
namespace Go.Proofs.Ytaaodgkbopficaa
set_option linter.unusedVariables false

/-- Put behind a list what it does not have. -/
def addAll (l : List Int) : List Int → List Int
  | [] => l
  | x :: xs => addAll (if x ∈ l then l else l ++ [x]) xs
theorem addAll_append (l : List Int) (xs ys : List Int) : addAll l (xs ++ ys) = addAll (addAll l xs) ys := by
  induction xs generalizing l with
  | nil => rfl
  | cons x xs ih => exact ih _
theorem addAll_snoc (l xs : List Int) (x : Int) : addAll l (xs ++ [x]) = if x ∈ addAll l xs then addAll l xs else addAll l xs ++ [x] := by rw [addAll_append]; rfl
theorem mem_addAll {y : Int} : ∀ {xs l : List Int}, y ∈ addAll l xs ↔ y ∈ l ∨ y ∈ xs := by
  intro xs
  induction xs with
  | nil => intro l; simp [addAll]
  | cons x xs ih =>
    intro l
    rw [addAll, ih]
    by_cases h : x ∈ l
    · rw [if_pos h, List.mem_cons]
      constructor
      · rintro (h1 | h1)
        · exact .inl h1
        · exact .inr (.inr h1)
      · rintro (h1 | rfl | h1)
        · exact .inl h1
        · exact .inl h
        · exact .inr h1
    · rw [if_neg h, List.mem_append, List.mem_singleton, List.mem_cons, or_assoc]
theorem addAll_all (l m : List Int) : ∀ xs, addAll l (addAll m xs) = addAll (addAll l m) xs := by
  intro xs
  induction xs generalizing m with
  | nil => rfl
  | cons x xs ih =>
    rw [addAll, addAll, ih]
    by_cases h : x ∈ m
    · rw [if_pos h, if_pos (mem_addAll.2 (.inr h))]
    · rw [if_neg h, addAll_append]; rfl
theorem acc_addAll : ∀ (t : T) (l : List Int), t.acc l = addAll l t.vars := by
  intro t
  induction t using T.ind with
  | hv x => intro l; rw [T.acc_v, T.vars, T.acc_v]; simp [addAll]
  | hn x => intro l; rw [T.acc_n, T.vars, T.acc_n]; rfl
  | ha x => intro l; rw [T.acc_a, T.vars, T.acc_a]; rfl
  | hc nm args ih =>
    intro l
    rw [T.vars, T.acc_c, T.acc_c]
    induction args generalizing l with
    | nil => rw [accL_nil, accL_nil]; rfl
    | cons y ys ih2 =>
      rw [accL_cons, accL_cons]
      rw [ih2 (fun x hx => ih x (List.mem_cons_of_mem _ hx)) (y.acc l), ih2 (fun x hx => ih x (List.mem_cons_of_mem _ hx)) (y.acc []), ih y List.mem_cons_self l, ← addAll_all]
      rfl
theorem vars_nodup_len {t : T} (h : t.Right) : t.vars.length ≤ 2000 := Nat.le_trans t.vars_len h.2.1
/-- What the first j arguments come to. -/
def szA (ts : List Tm) (j : Nat) : Nat := 1 + nsL (ts.take j)
def dpA (ts : List Tm) (j : Nat) : Nat := ndL (ts.take j)
def vaA (ts : List Tm) (j : Nat) : List Int := accL ((ts.take j).map Tm.tree) []
theorem nsL_snocC (ts : List Tm) (t : Tm) : nsL (ts ++ [t]) = nsL ts + t.ns := by
  induction ts with
  | nil => simp [nsL]
  | cons x xs ih => rw [List.cons_append, nsL, nsL, ih]; omega
theorem ndL_snocC (ts : List Tm) (t : Tm) : ndL (ts ++ [t]) = max (ndL ts) t.nd := by
  induction ts with
  | nil => simp [ndL]
  | cons x xs ih => rw [List.cons_append, ndL, ndL, ih]; omega
theorem szA_succ {ts : List Tm} {j : Nat} {t : Tm} (h : ts[j]? = some t) : szA ts (j + 1) = szA ts j + t.ns := by
  obtain ⟨hj, rfl⟩ := List.getElem?_eq_some_iff.1 h
  unfold szA; rw [List.take_succ_eq_append_getElem hj, nsL_snocC]; omega
theorem dpA_succ {ts : List Tm} {j : Nat} {t : Tm} (h : ts[j]? = some t) : dpA ts (j + 1) = max (dpA ts j) t.nd := by
  obtain ⟨hj, rfl⟩ := List.getElem?_eq_some_iff.1 h
  unfold dpA; rw [List.take_succ_eq_append_getElem hj, ndL_snocC]
theorem vaA_succ {ts : List Tm} {j : Nat} {t : Tm} (h : ts[j]? = some t) : vaA ts (j + 1) = addAll (vaA ts j) t.tree.vars := by
  obtain ⟨hj, rfl⟩ := List.getElem?_eq_some_iff.1 h
  unfold vaA; rw [List.take_succ_eq_append_getElem hj, List.map_append, accL_append]
  show accL [ts[j].tree] _ = _
  rw [accL_cons, accL_nil, acc_addAll]
theorem nsT_at {f : Int → T} : True := trivial
/-- How often a variable stands in a tree. -/
def T.times (x : Int) : T → Nat
  | .v y => if y = x then 1 else 0
  | .n _ => 0
  | .a _ => 0
  | .c _ args => timesL x args
where timesL (x : Int) : List T → Nat
  | [] => 0
  | t :: ts => t.times x + timesL x ts
theorem ns_put (x : Int) (v : T) : ∀ t : T, (t.sub (fun y => if y = x then v else .v y)).ns = t.ns + T.times x t * (v.ns - 1) := by
  intro t
  induction t using T.ind with
  | hv y =>
    rw [T.sub_v, T.times]
    by_cases h : y = x
    · have := v.ns_pos
      rw [if_pos h, if_pos h]; simp [T.ns]; omega
    · rw [if_neg h, if_neg h]; simp
  | hn y => rw [T.sub_n, T.times]; simp
  | ha y => rw [T.sub_a, T.times]; simp
  | hc nm args ih =>
    rw [T.sub_c, T.ns_c, T.ns_c, T.times]
    have : nsT (args.map (T.sub (fun y => if y = x then v else .v y))) = nsT args + T.times.timesL x args * (v.ns - 1) := by
      induction args with
      | nil => simp [nsT_nil, T.times.timesL]
      | cons y ys ih2 =>
        rw [List.map_cons, nsT_cons, nsT_cons, T.times.timesL, ih y List.mem_cons_self, ih2 (fun z hz => ih z (List.mem_cons_of_mem _ hz)), Nat.add_mul]
        omega
    rw [this]; omega
/-- What the law asks of a right compound term. -/
theorem counts_facts {nm : List UInt8} {ts : List Tm} (h : (Tm.node 4 nm 0 ts).right = true) : (Tm.node 4 nm 0 ts).size = (szA ts ts.length : Int) ∧ (Tm.node 4 nm 0 ts).depth = (dpA ts ts.length : Int) + 1 ∧ vaV (Tm.node 4 nm 0 ts) = vaA ts ts.length ∧ (∀ t ∈ ts, t.right = true) ∧ ts.length ≤ 8 ∧ szA ts ts.length ≤ 2000 ∧ dpA ts ts.length ≤ 100 := by
  have hR := right_of.1 h
  have hT := Tm.tree_right hR
  have hp := Tm.part_right hR rfl
  have ho := (Tm.ok_args hR.1 rfl).2.1
  have e1 : (Tm.node 4 nm 0 ts).ns = szA ts ts.length := by unfold szA; rw [List.take_length, Tm.ns_eq]; rfl
  have e2 : (Tm.node 4 nm 0 ts).nd = dpA ts ts.length + 1 := by
    unfold dpA; rw [List.take_length]
    show (Tm.node 4 nm 0 ts).nd = _
    rw [Tm.nd, if_pos rfl]; omega
  have hn := hR.2.1
  have hd := hR.2.2
  refine ⟨by rw [Tm.size_right h, e1], by rw [Tm.depth_right h, e2]; simp, ?_, fun t ht => right_of.2 (hp t ht), ho, by omega, by omega⟩
  rw [vaV, if_pos h, tree_4 (t := .node 4 nm 0 ts) rfl, T.vars, T.acc_c]
  unfold vaA
  rw [List.take_length]; rfl
theorem szA_mono {ts : List Tm} {i j : Nat} (h : i ≤ j) : szA ts i ≤ szA ts j := by
  induction h with
  | refl => exact Nat.le_refl _
  | step hk ih =>
    rename_i k
    refine Nat.le_trans ih ?_
    rcases Nat.lt_or_ge k ts.length with hlt | hge
    · rw [szA_succ (List.getElem?_eq_getElem hlt)]; omega
    · unfold szA; rw [List.take_of_length_le hge, List.take_of_length_le (by omega)]; exact Nat.le_refl _
theorem dpA_mono {ts : List Tm} {i j : Nat} (h : i ≤ j) : dpA ts i ≤ dpA ts j := by
  induction h with
  | refl => exact Nat.le_refl _
  | step hk ih =>
    rename_i k
    refine Nat.le_trans ih ?_
    rcases Nat.lt_or_ge k ts.length with hlt | hge
    · rw [dpA_succ (List.getElem?_eq_getElem hlt)]; omega
    · unfold dpA; rw [List.take_of_length_le hge, List.take_of_length_le (by omega)]; exact Nat.le_refl _
theorem addAll_len : ∀ (xs l : List Int), (addAll l xs).length ≤ l.length + xs.length := by
  intro xs
  induction xs with
  | nil => intro l; simp [addAll]
  | cons x xs ih =>
    intro l
    rw [addAll]
    have h1 := ih (if x ∈ l then l else l ++ [x])
    have h2 : (if x ∈ l then l else l ++ [x]).length ≤ l.length + 1 := by split <;> simp
    rw [List.length_cons]; omega
theorem vaA_len {ts : List Tm} (h : ∀ t ∈ ts, t.right = true) : ∀ j, j ≤ ts.length → (vaA ts j).length ≤ szA ts j := by
  intro j
  induction j with
  | zero => intro _; simp [vaA, accL_nil]
  | succ j ih =>
    intro hj
    have ht := List.getElem?_eq_getElem (show j < ts.length by omega)
    rw [vaA_succ ht, szA_succ ht]
    have h1 := addAll_len ts[j].tree.vars (vaA ts j)
    have h2 := ts[j].tree.vars_len
    rw [(Tm.tree_ns (right_of.1 (h _ (List.getElem_mem _))).1).1] at h2
    have := ih (by omega)
    omega
theorem mem_vaA {ts : List Tm} {y : Int} : ∀ {j : Nat}, y ∈ vaA ts j → ∃ t ∈ ts, y ∈ t.tree.vars := by
  intro j
  induction j with
  | zero => intro h; simp [vaA, accL_nil] at h
  | succ j ih =>
    intro h
    rcases Nat.lt_or_ge j ts.length with hlt | hge
    · rw [vaA_succ (List.getElem?_eq_getElem hlt)] at h
      rcases mem_addAll.1 h with h | h
      · exact ih h
      · exact ⟨_, List.getElem_mem hlt, h⟩
    · refine ih ?_
      unfold vaA at h ⊢
      rw [List.take_of_length_le (by omega)] at h ⊢
      exact h
/-- One variable bound to a right term. -/
theorem ap_one {t v x : Tm} {y : Int} {p : Option Addr} {c : Nat} {e : Int} (ht : t.right = true) (hv : v.right = true) (h : apV t [(y, (v, p, c))] = (x, e)) : (e = 2 ∨ e = 0) ∧ (e = 0 → ∃ k : Nat, x.size = t.size + k * (v.size - 1) ∧ 1 ≤ v.size ∧ v.size ≤ 2000 ∧ x.size ≤ 2000 ∧ 1 ≤ x.size) := by
  have hR := right_of.1 ht
  have hb : t.tree.vars.any (badB [(y, (v, p, c))]) = false := by
    rw [List.any_eq_false]
    intro z _
    unfold badB bdOf
    by_cases hz : y = z
    · subst hz; simp [hv]
    · have hzb : (y == z) = false := by simpa using hz
      simp [List.find?, hzb]
  have hc := cop_app (fun z => match bdOf [(y, (v, p, c))] z with | some q => q.1 | none => .node 1 [] z []) t hR.1
  have he : fBd (bdOf [(y, (v, p, c))]) = fApp (fun z => match bdOf [(y, (v, p, c))] z with | some q => q.1 | none => .node 1 [] z []) := by
    funext s z
    unfold fBd fApp
    cases hz : bdOf [(y, (v, p, c))] z <;> simp [hz]
  have hsub : (fun z => (match bdOf [(y, (v, p, c))] z with | some q => q.1 | none => Tm.node 1 [] z []).tree) = fun z => if z = y then v.tree else .v z := by
    funext z
    unfold bdOf
    by_cases hz : z = y
    · subst hz; simp
    · have : ¬ y = z := fun h => hz h.symm
      have hzb : (y == z) = false := by simpa using this
      simp only [List.find?, hzb, Option.map_none, if_neg hz]; exact tree_1 rfl
  unfold apV at h
  rw [if_pos ht, hb, if_neg (by decide)] at h
  by_cases hr : (t.cop (fBd (bdOf [(y, (v, p, c))])) ()).1.right = true
  · rw [if_pos hr] at h
    obtain ⟨rfl, rfl⟩ := Prod.mk.inj h
    have hRx := right_of.1 hr
    have hTx := Tm.tree_right hRx
    have hx : ((t.cop (fBd (bdOf [(y, (v, p, c))])) ()).1.tree.tm).right = true := right_of.2 ((T.tm_right _).2 hTx)
    refine ⟨.inr rfl, fun _ => ⟨T.times y t.tree, ?_, ?_, ?_, ?_, ?_⟩⟩
    · rw [Tm.size_right hx, (T.tm_ok _).2.1, he, hc.1, hsub, ns_put, Tm.size_right ht, Tm.size_right hv, (Tm.tree_ns hR.1).1, (Tm.tree_ns (right_of.1 hv).1).1]
      have := v.tree.ns_pos
      rw [(Tm.tree_ns (right_of.1 hv).1).1] at this
      rw [Int.natCast_add, Int.natCast_mul, Int.natCast_sub this]; rfl
    · rw [Tm.size_right hv]; have := v.tree.ns_pos; rw [(Tm.tree_ns (right_of.1 hv).1).1] at this; omega
    · rw [Tm.size_right hv]; have := (right_of.1 hv).2.1; omega
    · rw [Tm.size_right hx]; have := (right_of.1 hx).2.1; omega
    · rw [Tm.size_right hx, (T.tm_ok _).2.1]; have := (t.cop (fBd (bdOf [(y, (v, p, c))])) ()).1.tree.ns_pos; omega
  · rw [if_neg hr] at h
    obtain ⟨rfl, rfl⟩ := Prod.mk.inj h
    exact ⟨.inl rfl, fun h => by cases h⟩
theorem mod_counts {z s sv : Int} {k : Nat} (h : z = s + k * (sv - 1)) (h1 : 1 ≤ sv) : (z - s).tmod (max 1 (sv - 1)) = 0 ∧ s ≤ z := by
  have hk : (0 : Int) ≤ k := Int.natCast_nonneg k
  have e : z - s = k * (sv - 1) := by omega
  refine ⟨?_, by have := Int.mul_nonneg hk (show (0 : Int) ≤ sv - 1 by omega); omega⟩
  rw [e]
  by_cases h2 : sv = 1
  · subst h2; simp
  · rw [Int.max_eq_right (by omega)]
    exact Int.mul_tmod_left _ _
end Go.Proofs.Ytaaodgkbopficaa
