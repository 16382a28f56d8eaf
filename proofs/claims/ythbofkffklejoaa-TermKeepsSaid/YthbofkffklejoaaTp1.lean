/-
  Two renamings apart from each other: their solution binds each variable of the later one. No condition.
-/
import Derived.Test.YthbofkffklejoaaMO
namespace Go.Proofs.Ythbofkffklejoaa
set_option linter.unusedVariables false

theorem T.ren_right {t : T} {m : Int} (h : t.Right) (hm : 1 ≤ m) : (t.ren m).Right := by
  have hsz : (t.ren m).ns = t.ns ∧ (t.ren m).nd = t.nd := T.vr_size (fun x => m + (idx t.vars x : Int)) t
  refine ⟨?_, by rw [hsz.1]; exact h.2.1, by rw [hsz.2]; exact h.2.2⟩
  unfold T.ren
  refine T.sub_ok h.1 fun x hx => ?_
  show (T.v _).ok = true
  rw [T.ok]; exact decide_eq_true (by omega)
def fRR (M b : Int) (L : Nat) : Int → T := fun y => if M ≤ y ∧ y < M + L then .v (b + (y - M)) else .v y
theorem ren_sol {t : T} {M b : Int} (hM : b + (t.vars.length : Int) ≤ M) : IsSol (t.ren M) (t.ren b) (fRR M b t.vars.length) := by
  have hix : ∀ x, t.has x → idx t.vars x < t.vars.length := fun x hx => (idx_mem ((t.mem_vars x).2 hx)).1
  have hin : ∀ i : Nat, i < t.vars.length → fRR M b t.vars.length (M + i) = .v (b + i) := fun i hi => by
    unfold fRR; rw [if_pos ⟨by omega, by omega⟩]; congr 1; omega
  have hout : ∀ y, ¬ (M ≤ y ∧ y < M + t.vars.length) → fRR M b t.vars.length y = .v y := fun y hy => by unfold fRR; rw [if_neg hy]
  have hex : ∀ i : Nat, i < t.vars.length → ∃ x, t.has x ∧ idx t.vars x = i := fun i hi => ⟨t.vars[i], (t.mem_vars _).1 (List.getElem_mem hi), by have := map_idx 0 t.vars t.vars_nodup i hi; omega⟩
  refine ⟨?_, ?_, ?_, ?_, ?_⟩
  · unfold Uni T.ren
    rw [T.sub_sub, T.sub_sub]
    refine T.sub_same fun x hx => ?_
    show (T.v (M + (idx t.vars x : Int))).sub _ = (T.v (b + (idx t.vars x : Int))).sub _
    have := hix x hx
    rw [T.sub_v, T.sub_v, hin _ this, hout _ (by omega)]
  · intro g hg y
    have hg' : ∀ x, t.has x → g (M + idx t.vars x) = g (b + idx t.vars x) := by
      unfold Uni T.ren at hg
      rw [T.sub_sub, T.sub_sub] at hg
      intro x hx
      have := T.sub_inj hg x hx
      have e1 : (renB M t.vars x).sub g = g (M + idx t.vars x) := by unfold renB; rw [T.sub_v]
      have e2 : (renB b t.vars x).sub g = g (b + idx t.vars x) := by unfold renB; rw [T.sub_v]
      rw [← e1, ← e2]; exact this
    by_cases hy : M ≤ y ∧ y < M + t.vars.length
    · obtain ⟨x, hx, hi⟩ := hex (y - M).toNat (by omega)
      have h1 := hg' x hx
      rw [hi] at h1
      have ey : y = M + ((y - M).toNat : Int) := by omega
      rw [ey, hin _ (by omega), T.sub_v, ← h1]
    · rw [hout y hy, T.sub_v]
  · intro x y hxy
    by_cases hx : M ≤ x ∧ x < M + t.vars.length
    · unfold fRR at hxy
      rw [if_pos hx] at hxy
      have := has_v.1 hxy
      subst this
      exact hout _ (by omega)
    · rw [hout x hx] at hxy
      have := has_v.1 hxy
      subst this
      exact hout _ hx
  · intro x h1 _
    by_cases hx : M ≤ x ∧ x < M + t.vars.length
    · refine absurd ?_ h1
      obtain ⟨z, hz, hi⟩ := hex (x - M).toNat (by omega)
      unfold T.ren
      refine T.has_sub.2 ⟨z, hz, ?_⟩
      show (T.v (M + (idx t.vars z : Int))).has x
      rw [hi]
      exact has_v.2 (by omega)
    · exact hout x hx
  · intro x y hxy
    by_cases hx : M ≤ x ∧ x < M + t.vars.length
    · unfold fRR at hxy
      rw [if_pos hx] at hxy
      injection hxy with h
      omega
    · rw [hout x hx] at hxy
      injection hxy with h
      omega
theorem ren_solR {t : Tm} {M b : Int} {bs : List BP} {ok : Bool} {er : Int} (hr : t.Right) (hM : b + (t.tree.vars.length : Int) ≤ M) (hb : 1 ≤ b) (h : SolR (t.tree.ren M).tm (t.tree.ren b).tm bs ok er) : ok = true ∧ er = 0 ∧ bs.length = t.tree.vars.length := by
  have hT := Tm.tree_right hr
  have hu : (t.tree.ren M).tm.Right := (T.tm_right _).2 (T.ren_right hT (by omega))
  have hz : (t.tree.ren b).tm.Right := (T.tm_right _).2 (T.ren_right hT hb)
  have hs : IsSol (t.tree.ren M).tm.tree (t.tree.ren b).tm.tree (fRR M b t.tree.vars.length) := by
    rw [T.tm_tree, T.tm_tree]; exact ren_sol hM
  obtain ⟨h1, h2, h3⟩ := h.is hu hz hs (fun x => by
    unfold fRR
    split
    · refine .inr ⟨?_, by simp [T.ns], by simp [T.nd]⟩
      rw [T.ok]; exact decide_eq_true (by omega)
    · exact .inl rfl) (xs := (List.range t.tree.vars.length).map (fun i : Nat => M + (i : Int))) (by
      rw [List.pairwise_map]
      exact List.pairwise_lt_range.imp fun h => by omega) (fun x => by
      rw [List.mem_map]
      unfold fRR
      constructor
      · intro h
        split at h
        · rename_i hx; exact ⟨(x - M).toNat, List.mem_range.2 (by omega), by omega⟩
        · exact absurd rfl h
      · rintro ⟨i, hi, rfl⟩
        have := List.mem_range.1 hi
        rw [if_pos ⟨by omega, by omega⟩]
        intro h
        injection h with h
        omega)
  refine ⟨h1, h2, ?_⟩
  have := congrArg List.length h3
  simpa using this
theorem rnV_eq {t : Tm} {m : Int} (h : t.right = true) (h1 : 1 ≤ m) (h2 : m ≤ 4611686018427387904) : rnV t m = ((t.tree.ren m).tm, m + t.tree.vars.length, 0) := by unfold rnV; rw [if_pos h, if_pos ⟨h1, h2⟩]
theorem ren_facts {t : Tm} {a b : Int} (h : t.right = true) (ha : 1 ≤ a) (hb : 1 ≤ b) : (t.tree.ren a).tm.right = true ∧ (t.tree.ren a).tm.tree.ren b = t.tree.ren b ∧ (t.tree.ren a).tm.tree.vars.length = t.tree.vars.length ∧ vtV (t.tree.ren a).tm (t.tree.ren b).tm = true ∧ vtV (t.tree.ren a).tm t = true ∧ sameV (t.tree.ren b).tm (t.tree.ren b).tm = true ∧ t.tree.vars.length ≤ 2000 ∧ vaV t = t.tree.vars := by
  have hR := right_of.1 h
  have hT := Tm.tree_right hR
  have ra : (t.tree.ren a).tm.right = true := right_of.2 ((T.tm_right _).2 (T.ren_right hT ha))
  have rb : (t.tree.ren b).tm.right = true := right_of.2 ((T.tm_right _).2 (T.ren_right hT hb))
  refine ⟨ra, by rw [T.tm_tree, T.ren_ren], by rw [T.tm_tree, T.vars_ren, List.length_map], ?_, ?_, ?_, Nat.le_trans t.tree.vars_len hT.2.1, by rw [vaV, if_pos h]⟩
  · unfold vtV; rw [ra, rb, T.tm_tree, T.tm_tree, T.ren_ren, T.ren_ren, ((T.lin _).zero _).2 rfl]; rfl
  · unfold vtV; rw [ra, h, T.tm_tree, T.ren_ren, ((T.lin _).zero _).2 rfl]; rfl
  · unfold sameV; rw [rb, ((T.lin _).zero _).2 rfl]; rfl
end Go.Proofs.Ythbofkffklejoaa
