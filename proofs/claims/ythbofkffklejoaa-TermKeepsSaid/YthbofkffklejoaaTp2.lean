/-
  Lists of terms: what they are made of, and what comes of them. No condition.
-/
import Derived.Test.YthbofkffklejoaaTp1
namespace Go.Proofs.Ythbofkffklejoaa
set_option linter.unusedVariables false

theorem itF_more : ∀ (n m : Nat) (t : T), t.nd ≤ n → t.nd ≤ m → itF n t = itF m t := by
  intro n
  induction n with
  | zero => intro m t h; have := t.nd_pos; omega
  | succ n ih =>
    intro m t hn hm
    cases m with
    | zero => have := t.nd_pos; omega
    | succ m =>
      match t with
      | .v _ => rfl
      | .n _ => rfl
      | .a _ => rfl
      | .c nm [] => rfl
      | .c nm [x] => rfl
      | .c nm [x, l] =>
        rw [T.nd_c, ndT_cons, ndT_cons, ndT_nil] at hn hm
        by_cases h : nm = [46]
        · simp only [itF, if_pos h]
          rw [ih m l (by omega) (by omega)]
        · simp only [itF, if_neg h]
      | .c nm (x :: y :: z :: r) => rfl
theorem itF_len : ∀ (n : Nat) (t : T), (itF n t).1.length ≤ n := by
  intro n
  induction n with
  | zero => intro t; simp [itF]
  | succ n ih =>
    intro t
    match t with
    | .v _ => simp [itF]
    | .n _ => simp [itF]
    | .a _ => simp [itF]
    | .c nm [] => simp [itF]
    | .c nm [x] => simp [itF]
    | .c nm [x, l] =>
      by_cases h : nm = [46]
      · simp only [itF, if_pos h, List.length_cons]
        have := ih l; omega
      · simp only [itF, if_neg h, List.length_nil]; omega
    | .c nm (x :: y :: z :: r) => simp [itF]
theorem T.args_right {nm : List UInt8} {args : List T} (h : (T.c nm args).Right) : ∀ x ∈ args, x.Right := by
  obtain ⟨h1, h2, h3⟩ := h
  rw [T.ok_c] at h1
  rw [T.ns_c] at h2
  rw [T.nd_c] at h3
  simp only [Bool.and_eq_true] at h1
  intro x hx
  have hns : ∀ zs : List T, x ∈ zs → x.ns ≤ nsT zs ∧ x.nd ≤ ndT zs := by
    intro zs
    induction zs with
    | nil => intro h; cases h
    | cons z zs ih2 =>
      intro h
      rw [nsT_cons, ndT_cons]
      rcases List.mem_cons.1 h with rfl | h
      · omega
      · have := ih2 h; omega
  have := hns args hx
  exact ⟨okT_all.1 h1.1.2 x hx, by omega, by omega⟩
theorem itF_right : ∀ (n : Nat) (t : T), t.Right → (∀ x ∈ (itF n t).1, x.Right) ∧ (itF n t).2.Right := by
  intro n
  induction n with
  | zero => intro t h; exact ⟨fun x hx => by simp [itF] at hx, h⟩
  | succ n ih =>
    intro t h
    match t, h with
    | .v _, h => exact ⟨fun x hx => by simp [itF] at hx, h⟩
    | .n _, h => exact ⟨fun x hx => by simp [itF] at hx, h⟩
    | .a _, h => exact ⟨fun x hx => by simp [itF] at hx, h⟩
    | .c nm [], h => exact ⟨fun x hx => by simp [itF] at hx, h⟩
    | .c nm [x], h => exact ⟨fun x hx => by simp [itF] at hx, h⟩
    | .c nm [x, l], h =>
      have hr := T.args_right h
      by_cases hn : nm = [46]
      · simp only [itF, if_pos hn]
        obtain ⟨i1, i2⟩ := ih l (hr l (by simp))
        refine ⟨fun y hy => ?_, i2⟩
        rcases List.mem_cons.1 hy with rfl | hy
        · exact hr y (by simp)
        · exact i1 y hy
      · simp only [itF, if_neg hn]
        exact ⟨fun y hy => by simp at hy, h⟩
    | .c nm (x :: y :: z :: r), h => exact ⟨fun x hx => by simp [itF] at hx, h⟩
theorem Tm.part_right {t : Tm} (h : t.Right) (k4 : t.k = 4) : ∀ x ∈ t.args, x.Right := by
  intro x hx
  have hT := Tm.tree_right h
  rw [tree_4 k4] at hT
  have hx2 := T.args_right hT x.tree (List.mem_map_of_mem hx)
  have hok := (Tm.ok_args h.1 k4).2.2.1 x hx
  obtain ⟨e1, e2, _, _⟩ := Tm.tree_ns hok
  exact ⟨hok, by rw [← e1]; exact hx2.2.1, by rw [← e2]; exact hx2.2.2⟩
theorem lsT_right : ∀ {ts : List Tm} {u : Tm}, (lsT ts u).Right → (∀ t ∈ ts, t.Right) ∧ u.Right := by
  intro ts
  induction ts with
  | nil => intro u h; exact ⟨(fun t h => by cases h), h⟩
  | cons x xs ih =>
    intro u h
    have hp := Tm.part_right (t := .node 4 [46] 0 [x, lsT xs u]) h rfl
    obtain ⟨i1, i2⟩ := ih (hp (lsT xs u) (by simp [Tm.args]))
    refine ⟨fun t ht => ?_, i2⟩
    rcases List.mem_cons.1 ht with rfl | ht
    · exact hp t (by simp [Tm.args])
    · exact i1 t ht
theorem lsT_items : ∀ (ts : List Tm) (u : Tm), (lsT ts u).tree.items = (ts.map Tm.tree ++ u.tree.items.1, u.tree.items.2) := by
  intro ts
  induction ts with
  | nil => intro u; rfl
  | cons x xs ih =>
    intro u
    have e : (lsT (x :: xs) u).tree = .c [46] [x.tree, (lsT xs u).tree] := tree_4 (t := .node 4 [46] 0 [x, lsT xs u]) rfl
    unfold T.items
    rw [e]
    have hnd : (T.c [46] [x.tree, (lsT xs u).tree]).nd = (max x.tree.nd (max (lsT xs u).tree.nd 0)) + 1 := by
      rw [T.nd_c, ndT_cons, ndT_cons, ndT_nil]; omega
    rw [hnd]
    simp only [itF, if_true]
    rw [itF_more _ (lsT xs u).tree.nd (lsT xs u).tree (by omega) (Nat.le_refl _)]
    have := ih u
    unfold T.items at this
    rw [this]; rfl
theorem Tm.depth_right {t : Tm} (h : t.right = true) : t.depth = (t.nd : Int) := by
  unfold Tm.depth
  rw [if_pos (show (t.meas 1 (0, 0)).2 = true from h), Tm.right_size h]
theorem Tm.size_right {t : Tm} (h : t.right = true) : t.size = (t.ns : Int) := by
  unfold Tm.size
  rw [if_pos (show (t.meas 1 (0, 0)).2 = true from h), Tm.right_size h]
theorem same_tm {t : Tm} (h : t.right = true) : sameV t.tree.tm t = true := by
  have h2 : t.tree.tm.right = true := right_of.2 ((T.tm_right _).2 (Tm.tree_right (right_of.1 h)))
  unfold sameV
  rw [h2, h, T.tm_tree, ((T.lin _).zero _).2 rfl]; rfl
theorem same_self {t : Tm} (h : t.right = true) : sameV t t = true := by
  unfold sameV
  rw [h, ((T.lin _).zero _).2 rfl]; rfl
theorem lists_facts {ts : List Tm} {u x : Tm} {e : Int} (h : lsV ts u = (x, e)) : (e = 70 ∧ x.k = 0) ∨ (e = 0 ∧ ts.length < 100 ∧ u.right = true ∧ (∀ t ∈ ts, t.right = true) ∧ x.right = true ∧ x.depth ≤ 100 ∧
    (itV x).1 = ts.map (fun t => t.tree.tm) ++ (itV u).1 ∧ (itV x).2 = (itV u).2 ∧ (∀ y ∈ (itV u).1, y.right = true) ∧ (itV u).2.right = true ∧ lsV [] u = (u.tree.tm, 0)) := by
  unfold lsV at h
  by_cases h1 : ts.length < 100
  · rw [if_pos h1] at h
    by_cases h2 : (lsT ts u).right = true
    · rw [if_pos h2] at h
      obtain ⟨rfl, rfl⟩ := Prod.mk.inj h
      have hR := right_of.1 h2
      obtain ⟨r1, r2⟩ := lsT_right hR
      have hu := right_of.2 r2
      have hT := Tm.tree_right hR
      have hx : ((lsT ts u).tree.tm).right = true := right_of.2 ((T.tm_right _).2 hT)
      have hit := itF_right u.tree.nd u.tree (Tm.tree_right r2)
      refine .inr ⟨rfl, h1, hu, fun t ht => right_of.2 (r1 t ht), hx, ?_, ?_, ?_, ?_, ?_, ?_⟩
      · rw [Tm.depth_right hx, (T.tm_ok _).2.2]
        have := hT.2.2; omega
      · rw [itV, if_pos hx, itV, if_pos hu]
        dsimp only
        rw [T.tm_tree, lsT_items, List.map_append, List.map_map]; rfl
      · rw [itV, if_pos hx, itV, if_pos hu]
        dsimp only
        rw [T.tm_tree, lsT_items]
      · rw [itV, if_pos hu]
        intro y hy
        obtain ⟨z, hz, rfl⟩ := List.mem_map.1 hy
        exact right_of.2 ((T.tm_right _).2 (hit.1 z hz))
      · rw [itV, if_pos hu]
        exact right_of.2 ((T.tm_right _).2 hit.2)
      · unfold lsV
        rw [if_pos (by decide)]
        show (if u.right = true then (u.tree.tm, (0 : Int)) else _) = _
        rw [if_pos hu]
    · rw [if_neg h2] at h
      obtain ⟨rfl, rfl⟩ := Prod.mk.inj h
      exact .inl ⟨rfl, rfl⟩
  · rw [if_neg h1] at h
    obtain ⟨rfl, rfl⟩ := Prod.mk.inj h
    exact .inl ⟨rfl, rfl⟩
end Go.Proofs.Ythbofkffklejoaa
