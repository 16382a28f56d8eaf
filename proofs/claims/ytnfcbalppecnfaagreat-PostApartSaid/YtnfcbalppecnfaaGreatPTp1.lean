/-
  Two renamings apart from each other: their solution binds each variable of the later one. No condition.
-/
import Derived.Test.YtnfcbalppecnfaaGreatPML
import Derived.Test.YtnfcbalppecnfaaGreatPMG
namespace Go.Proofs.YtnfcbalppecnfaaGreat
set_option linter.unusedVariables false
theorem T.ren_right {t : T} {m : Int} (h : t.Right) (hm : 1 ≤ m) : (t.ren m).Right := by
  have hsz : (t.ren m).ns = t.ns ∧ (t.ren m).nd = t.nd := T.vr_size (fun x => m + (idx t.vars x : Int)) t
  refine ⟨?_, by rw [hsz.1]; exact h.2.1, by rw [hsz.2]; exact h.2.2⟩
  unfold T.ren
  refine T.sub_ok h.1 fun x hx => ?_
  show (T.v _).ok = true
  rw [T.ok]; exact decide_eq_true (by omega)
theorem rnV_eq {t : Tm} {m : Int} (h : t.right = true) (h1 : 1 ≤ m) (h2 : m ≤ 4611686018427387904) : rnV t m = ((t.tree.ren m).tm, m + t.tree.vars.length, 0) := by unfold rnV; rw [if_pos h, if_pos ⟨h1, h2⟩]
theorem ren_facts {t : Tm} {a b : Int} (h : t.right = true) (ha : 1 ≤ a) (hb : 1 ≤ b) : (t.tree.ren a).tm.right = true ∧ (t.tree.ren a).tm.tree.ren b = t.tree.ren b ∧ (t.tree.ren a).tm.tree.vars.length = t.tree.vars.length ∧ vtV (t.tree.ren a).tm (t.tree.ren b).tm = true ∧ vtV (t.tree.ren a).tm t = true ∧ sameV (t.tree.ren b).tm (t.tree.ren b).tm = true ∧ t.tree.vars.length ≤ 2000 ∧ vaV t = t.tree.vars := by
  have hR := right_of.1 h
  have hT := Tm.tree_right hR
  have ra : (t.tree.ren a).tm.right = true := right_of.2 ((T.tm_right _).2 (T.ren_right hT ha))
  have rb : (t.tree.ren b).tm.right = true := right_of.2 ((T.tm_right _).2 (T.ren_right hT hb))
  refine ⟨ra, by rw [T.tm_tree, T.ren_ren], by rw [T.tm_tree, T.vars_ren, List.length_map], ?_, ?_, ?_, Nat.le_trans t.tree.vars_len hT.2.1, by rw [vaV, if_pos h]⟩
  · unfold vtV; rw [ra, rb, T.tm_tree, T.tm_tree, T.ren_ren, T.ren_ren, ((T.lin _).zero _).2 rfl]; rfl
  · unfold vtV; rw [ra, h, T.tm_tree, T.ren_ren, ((T.lin _).zero _).2 rfl]; rfl
  · unfold sameV; rw [rb, ((T.lin _).zero _).2 rfl]; rfl
end Go.Proofs.YtnfcbalppecnfaaGreat
