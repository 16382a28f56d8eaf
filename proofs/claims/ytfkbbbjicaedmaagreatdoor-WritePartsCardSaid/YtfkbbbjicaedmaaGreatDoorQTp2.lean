/-
  Lists of terms: what they are made of, and what comes of them. No condition.
-/
import Derived.Test.YtfkbbbjicaedmaaGreatDoorQMG
namespace Go.Proofs.YtfkbbbjicaedmaaGreatDoor
set_option linter.unusedVariables false
theorem itF_len : ∀ (n : Nat) (t : T), (itF n t).1.length ≤ n := by
  intro n
  induction n with
  | zero => intro t; simp [itF]
  | succ n ih =>
    intro t
    match t with
    | .v _ => simp [itF]
    | .n _ => simp [itF]
    | .a _ => simp [itF]
    | .c nm [] => simp [itF]
    | .c nm [x] => simp [itF]
    | .c nm [x, l] =>
      by_cases h : nm = [46]
      · simp only [itF, if_pos h, List.length_cons]
        have := ih l; omega
      · simp only [itF, if_neg h, List.length_nil]; omega
    | .c nm (x :: y :: z :: r) => simp [itF]
theorem T.args_right {nm : List UInt8} {args : List T} (h : (T.c nm args).Right) : ∀ x ∈ args, x.Right := by
  obtain ⟨h1, h2, h3⟩ := h
  rw [T.ok_c] at h1
  rw [T.ns_c] at h2
  rw [T.nd_c] at h3
  simp only [Bool.and_eq_true] at h1
  intro x hx
  have hns : ∀ zs : List T, x ∈ zs → x.ns ≤ nsT zs ∧ x.nd ≤ ndT zs := by
    intro zs
    induction zs with
    | nil => intro h; cases h
    | cons z zs ih2 =>
      intro h
      rw [nsT_cons, ndT_cons]
      rcases List.mem_cons.1 h with rfl | h
      · omega
      · have := ih2 h; omega
  have := hns args hx
  exact ⟨okT_all.1 h1.1.2 x hx, by omega, by omega⟩
theorem itF_right : ∀ (n : Nat) (t : T), t.Right → (∀ x ∈ (itF n t).1, x.Right) ∧ (itF n t).2.Right := by
  intro n
  induction n with
  | zero => intro t h; exact ⟨fun x hx => by simp [itF] at hx, h⟩
  | succ n ih =>
    intro t h
    match t, h with
    | .v _, h => exact ⟨fun x hx => by simp [itF] at hx, h⟩
    | .n _, h => exact ⟨fun x hx => by simp [itF] at hx, h⟩
    | .a _, h => exact ⟨fun x hx => by simp [itF] at hx, h⟩
    | .c nm [], h => exact ⟨fun x hx => by simp [itF] at hx, h⟩
    | .c nm [x], h => exact ⟨fun x hx => by simp [itF] at hx, h⟩
    | .c nm [x, l], h =>
      have hr := T.args_right h
      by_cases hn : nm = [46]
      · simp only [itF, if_pos hn]
        obtain ⟨i1, i2⟩ := ih l (hr l (by simp))
        refine ⟨fun y hy => ?_, i2⟩
        rcases List.mem_cons.1 hy with rfl | hy
        · exact hr y (by simp)
        · exact i1 y hy
      · simp only [itF, if_neg hn]
        exact ⟨fun y hy => by simp at hy, h⟩
    | .c nm (x :: y :: z :: r), h => exact ⟨fun x hx => by simp [itF] at hx, h⟩
theorem Tm.part_right {t : Tm} (h : t.Right) (k4 : t.k = 4) : ∀ x ∈ t.args, x.Right := by
  intro x hx
  have hT := Tm.tree_right h
  rw [tree_4 k4] at hT
  have hx2 := T.args_right hT x.tree (List.mem_map_of_mem hx)
  have hok := (Tm.ok_args h.1 k4).2.2.1 x hx
  obtain ⟨e1, e2, _, _⟩ := Tm.tree_ns hok
  exact ⟨hok, by rw [← e1]; exact hx2.2.1, by rw [← e2]; exact hx2.2.2⟩
end Go.Proofs.YtfkbbbjicaedmaaGreatDoor
