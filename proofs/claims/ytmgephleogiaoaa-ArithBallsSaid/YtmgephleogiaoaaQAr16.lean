/-
  What the law's worth answers of each operation, plain. No condition but that they are numbers of 64 bits.
-/
import Derived.Test.YtmgephleogiaoaaQAr15
namespace Go.Proofs.Ytmgephleogiaoaa
open Go.RowKit Go.Maps
set_option linter.unusedVariables false
set_option linter.unusedSimpArgs false
theorem wanted_un {ops : Array Oper} {o : Oper} {a : Act} {j d : Nat} {want : Bool} (hg : o.guard = some (j, want)) (hj : (ops[j]?).bind (·.dst) = some d) (h : a.tmps[d]? = some undef) : Region.wanted o (yielded ops a.tmps) = false := by
  unfold Region.wanted yielded
  rw [hg]
  simp only [hj, Option.bind_some, h]
  rfl
theorem opT_right {nm : List UInt8} {a b : Int} : (opT nm a b).right = true ↔ nm.length ≤ 64 := by
  rw [right_of]
  constructor
  · intro h
    have h1 := h.1
    simp [opT, Tm.ok, okL] at h1
    exact h1
  · intro h
    refine ⟨?_, ?_, ?_⟩
    · simp [opT, Tm.ok, okL, h]
    · simp [opT, Tm.ns, nsL]
    · simp [opT, Tm.nd, ndL]
theorem wo_num2 {nm : List UInt8} {a b : Int} (hf : isFn nm 2 = true) : wo (opT nm a b) = resW (twoR nm a b) := by
  have h := wo_f (t := opT nm a b) rfl hf
  rw [h]
  show woL nm [.node 2 [] a [], .node 2 [] b []] [] = _
  rw [woL, wo_2 (t := .node 2 [] a []) rfl]
  show woL nm [.node 2 [] b []] [a] = _
  rw [woL, wo_2 (t := .node 2 [] b []) rfl]
  rfl
theorem ev_op {nm : List UInt8} {a b : Int} (hn : nm.length ≤ 64) (hf : isFn nm 2 = true) : evW (opT nm a b) = resW (twoR nm a b) := by
  rw [evW, if_pos (opT_right.2 hn), wo_num2 hf]
theorem res_big {z : Int} : resW (big z) = if inR z then .num z else .bal (ballV (flF fOver)) := by
  unfold resW
  by_cases h : inR z
  · rw [big_is rfl h, if_pos h]; rfl
  · rw [big_not h, if_neg h]; rfl
theorem res_k {z : Int} (h : (resW (big z)).k = true) : inR z ∧ resW (big z) = .num z := by
  rw [res_big] at *
  by_cases hz : inR z
  · rw [if_pos hz]; exact ⟨hz, rfl⟩
  · rw [if_neg hz] at h; cases h
theorem lworth_num {W : World} {nm : List UInt8} {i k v : Int} (h : evW (opT nm i k) = .num v) (hn : nm.length ≤ maxLen) (hi : inR i) (hk : inR k) : Calls Try.prog 19 #[.string (str nm), .int .i64 i, .int .i64 k] W fun e w' => e = .returned (.tuple #[.int .i64 v, .bool true]) ∧ Keep (fun g => g < W.heap.size) W w' := by
  have h1 := lworth_any (W := W) hn (ik_wf hi.1 hi.2) (ik_wf hk.1 hk.2)
  rw [h] at h1
  exact h1
theorem lworth_bal {W : World} {nm : List UInt8} {i k : Int} {b : Tm} (h : evW (opT nm i k) = .bal b) (hn : nm.length ≤ maxLen) (hi : inR i) (hk : inR k) : Calls Try.prog 19 #[.string (str nm), .int .i64 i, .int .i64 k] W fun e w' => e = .returned (.tuple #[.int .i64 0, .bool false]) ∧ Keep (fun g => g < W.heap.size) W w' := by
  have h1 := lworth_any (W := W) hn (ik_wf hi.1 hi.2) (ik_wf hk.1 hk.2)
  rw [h] at h1
  exact h1
theorem lworth_big {W : World} {nm : List UInt8} {i k z : Int} {ok : Bool} (h : evW (opT nm i k) = resW (big z)) (hz : decide (inR z) = ok) (hn : nm.length ≤ maxLen) (hi : inR i) (hk : inR k) : Calls Try.prog 19 #[.string (str nm), .int .i64 i, .int .i64 k] W fun e w' => e = .returned (.tuple #[.int .i64 (if ok = true then z else 0), .bool ok]) ∧ Keep (fun g => g < W.heap.size) W w' := by
  by_cases hr : inR z
  · have : ok = true := by rw [← hz]; simpa using hr
    subst this
    exact lworth_num (h.trans (by rw [res_big, if_pos hr, if_pos rfl])) hn hi hk
  · have : ok = false := by rw [← hz]; simpa using hr
    subst this
    exact lworth_bal (h.trans (by rw [res_big, if_neg hr])) hn hi hk
theorem ev_add (a b : Int) : evW (opT [43] a b) = resW (big (a + b)) := ev_op (by decide) (by decide)
theorem ev_sub (a b : Int) : evW (opT [45] a b) = resW (big (a - b)) := ev_op (by decide) (by decide)
theorem ev_mul (a b : Int) : evW (opT [42] a b) = resW (big (a * b)) := ev_op (by decide) (by decide)
theorem ev_quo (a b : Int) : evW (opT [47, 47] a b) = resW (quoR a b) := ev_op (by decide) (by decide)
theorem ev_rem (a b : Int) : evW (opT [114, 101, 109] a b) = resW (remR a b) := ev_op (by decide) (by decide)
theorem ev_mod (a b : Int) : evW (opT [109, 111, 100] a b) = resW (modR a b) := ev_op (by decide) (by decide)
theorem res_big_in {z : Int} (h : inR z) : resW (big z) = .num z := by rw [res_big, if_pos h]
theorem ev_back {a b : Int} (ha : inR a) : evW (opT [45] (a + b) b) = .num a := by rw [ev_sub, show a + b - b = a by omega, res_big_in ha]
theorem ev_mback {a b : Int} (ha : inR a) (hb : ¬ b = 0) : evW (opT [47, 47] (a * b) b) = .num a := by
  rw [ev_quo, quoR, if_neg hb, Int.mul_tdiv_cancel _ hb, res_big_in ha]
theorem ev_quo0 {a b : Int} (h : b = 0) : evW (opT [47, 47] a b) = .bal (ballV (flF fZero)) := by rw [ev_quo, quo_zero h]; rfl
theorem ev_rem0 {a b : Int} (h : b = 0) : evW (opT [114, 101, 109] a b) = .bal (ballV (flF fZero)) := by rw [ev_rem, rem_zero h]; rfl
theorem ev_mod0 {a b : Int} (h : b = 0) : evW (opT [109, 111, 100] a b) = .bal (ballV (flF fZero)) := by rw [ev_mod, mod_zero h]; rfl
theorem ev_quo1 {a b : Int} (ha : inR a) (h : ¬ b = 0) (h1 : ¬ (a = -9223372036854775808 ∧ b = -1)) : evW (opT [47, 47] a b) = .num (a.tdiv b) := by
  rw [ev_quo, quoR, if_neg h, res_big_in (tdiv_inR ha h1)]
theorem ev_rem1 {a b : Int} (h : ¬ b = 0) : evW (opT [114, 101, 109] a b) = .num (a.tmod b) := by rw [ev_rem, rem_yes h]; rfl
theorem ev_mod1 {a b : Int} (ha : inR a) (hb : inR b) (h : ¬ b = 0) : ∃ m, evW (opT [109, 111, 100] a b) = .num m ∧ inR m ∧ (m = a.tmod b ∨ m = wrap64 (a.tmod b + b)) ∧ (m ≠ 0 → (m < 0 ↔ b < 0)) := by
  have hmi := mod_in ha hb
  rw [ev_mod]
  by_cases h1 : a.tmod b ≠ 0 ∧ ¬ (a.tmod b < 0 ↔ b < 0)
  · have e := mod_one h h1 ha hb
    rw [e] at hmi ⊢
    have hlt := Int.tmod_lt_of_pos
    have e2 : wrap64 (a.tmod b + b) = a.tmod b + b := by
      refine wrap_in ?_
      have := tmod_inR (b := b) ha
      unfold inR at *; omega
    refine ⟨_, rfl, hmi, .inr rfl, fun _ => ?_⟩
    rw [e2]
    have h2 : (a.tmod b).natAbs < b.natAbs := by rw [Int.natAbs_tmod]; exact Nat.mod_lt _ (by omega)
    omega
  · have e := mod_two h h1
    rw [e] at hmi ⊢
    exact ⟨_, rfl, hmi, .inl rfl, fun h0 => by
      by_cases h2 : a.tmod b < 0 ↔ b < 0
      · exact h2
      · exact absurd ⟨h0, h2⟩ h1⟩
theorem i64_l (n : Int) : IntKind.i64.wrap n = wrap64 n := by rw [IntKind.wrap_i64, wrap64]
theorem quo_rem_sum {a b : Int} (ha : inR a) : wrap64 (wrap64 (a.tdiv b * b) + a.tmod b) = a := by
  have h := Int.mul_tdiv_add_tmod a b
  rw [Int.mul_comm] at h
  obtain ⟨k, hk⟩ := wrap_mod (a.tdiv b * b)
  obtain ⟨l, hl⟩ := wrap_mod (wrap64 (a.tdiv b * b) + a.tmod b)
  have hr := wrap_inR (wrap64 (a.tdiv b * b) + a.tmod b)
  rw [hk] at hl hr
  rw [hk, hl]
  rw [hl] at hr
  unfold inR at *
  generalize a.tdiv b * b = p at *
  omega
end Go.Proofs.Ytmgephleogiaoaa
