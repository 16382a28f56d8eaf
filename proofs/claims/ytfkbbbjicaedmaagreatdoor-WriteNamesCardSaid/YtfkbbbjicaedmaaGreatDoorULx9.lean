/-
  Tokens, plain: strings.Cut at a line feed and at the end of a remark; strconv.ParseInt at digits. No condition.
-/
import Derived.Test.YtfkbbbjicaedmaaGreatDoorULx0
import Derived.Lib.IndexMore
import Derived.Lib.ParseIntBCases
namespace Go.Proofs.YtfkbbbjicaedmaaGreatDoor
open Go
set_option linter.unusedVariables false
set_option linter.unusedSimpArgs false
theorem index_line (l : List UInt8) : Lib.index l [10] = if lineLen l < l.length then (lineLen l : Int) else -1 := by
  induction l with
  | nil => rfl
  | cons c r ih =>
    unfold Lib.index
    by_cases hc : c = 10
    · subst hc
      simp [lineLen]
    · have h1 : List.isPrefixOf [10] (c :: r) = false := by simp [List.isPrefixOf]; exact fun h => hc h.symm
      have h2 : lineLen (c :: r) = lineLen r + 1 := by simp [lineLen, List.takeWhile_cons, hc]
      rw [h1, ih, h2]
      simp only [Bool.false_eq_true, if_false, List.length_cons]
      by_cases hl : lineLen r < r.length
      · have e : ((lineLen r : Int) == -1) = false := by rw [beq_eq_false_iff_ne]; omega
        have e2 : lineLen r + 1 < r.length + 1 := by omega
        simp only [if_pos hl, if_pos e2, e]
        simp
      · have e : ((-1 : Int) == -1) = true := rfl
        have e2 : ¬ lineLen r + 1 < r.length + 1 := by omega
        simp only [if_neg hl, if_neg e2, e, if_true]
theorem cut_line (l : List UInt8) : (Lib.cut l [10]).1.length = lineLen l := by
  have h := lineLen_le l
  unfold Lib.cut
  rw [index_line]
  by_cases hl : lineLen l < l.length
  · rw [if_pos hl, if_pos (by omega)]
    simp; omega
  · rw [if_neg hl, if_neg (by omega)]
    show l.length = _
    omega
theorem index_rem (l : List UInt8) : Lib.index l [42, 47] = match remEnd l with | some k => (k : Int) | none => -1 := by
  induction l with
  | nil => rfl
  | cons c r ih =>
    unfold Lib.index remEnd
    have hp : List.isPrefixOf [42, 47] (c :: r) = (c == 42 && r.head? == some 47) := by
      cases r with
      | nil => simp [List.isPrefixOf]
      | cons d r =>
        have e1 : ((42 : UInt8) == c) = (c == 42) := by rw [Bool.eq_iff_iff, beq_iff_eq, beq_iff_eq]; exact eq_comm
        have e2 : ((47 : UInt8) == d) = (d == 47) := by rw [Bool.eq_iff_iff, beq_iff_eq, beq_iff_eq]; exact eq_comm
        have e3 : (some d == some (47 : UInt8)) = (d == 47) := by rw [Bool.eq_iff_iff]; simp
        simp only [List.isPrefixOf, List.head?_cons]
        rw [e1, e2, e3, Bool.and_true]
    rw [hp, ih]
    by_cases hh : (c == 42 && r.head? == some 47) = true
    · rw [if_pos hh, if_pos hh]; rfl
    · rw [if_neg hh, if_neg hh]
      rcases remEnd r with _ | k
      · rfl
      · have : ((k : Int) == -1) = false := by rw [beq_eq_false_iff_ne]; omega
        simp [this]
theorem cut_rem (l : List UInt8) : (Lib.cut l [42, 47]).2.2 = (remEnd l).isSome ∧ ∀ k, remEnd l = some k → (Lib.cut l [42, 47]).1.length = k := by
  unfold Lib.cut
  rw [index_rem]
  rcases hr : remEnd l with _ | k
  · exact ⟨rfl, fun k h => by cases h⟩
  · have := remEnd_lt hr
    dsimp only
    rw [if_pos (by omega)]
    refine ⟨rfl, fun j hj => ?_⟩
    injection hj with hj
    subst hj
    simp; omega
def digAcc (n : Nat) (l : List UInt8) : Nat := l.foldl (fun n c => 10 * n + (c.toNat - 48)) n
theorem digAcc_le (l : List UInt8) : ∀ n, n ≤ digAcc n l := by
  induction l with
  | nil => intro n; exact Nat.le_refl _
  | cons c r ih => intro n; have := ih (10 * n + (c.toNat - 48)); exact Nat.le_trans (by omega) this
theorem dig_nat {c : UInt8} (h : digB c = true) : 48 ≤ c.toNat ∧ c.toNat ≤ 57 := by
  unfold digB at h
  simp only [Bool.and_eq_true, decide_eq_true_eq] at h
  exact ⟨h.1, h.2⟩
theorem uint_digits (l : List UInt8) (h : ∀ c ∈ l, digB c = true) : ∀ acc, acc ≤ 18446744073709551615 →
    Lib.parseUintM 18446744073709551615 acc l = if digAcc acc l ≤ 18446744073709551615 then .ok (digAcc acc l) else .range := by
  induction l with
  | nil => intro acc ha; unfold Lib.parseUintM; rw [show digAcc acc [] = acc from rfl, if_pos ha]
  | cons c r ih =>
    intro acc ha
    have hc := dig_nat (h c List.mem_cons_self)
    have hl := digAcc_le r (10 * acc + (c.toNat - 48))
    have he : digAcc acc (c :: r) = digAcc (10 * acc + (c.toNat - 48)) r := rfl
    unfold Lib.parseUintM
    rw [if_pos hc, he]
    by_cases h1 : 1844674407370955162 ≤ acc
    · rw [if_pos h1, if_neg (by omega)]
    · rw [if_neg h1]
      have e : acc * 10 + (c.toNat - 48) = 10 * acc + (c.toNat - 48) := by omega
      by_cases h2 : 18446744073709551615 < acc * 10 + (c.toNat - 48)
      · rw [if_pos h2, if_neg (by omega)]
      · rw [if_neg h2, e]
        exact ih (fun c hc => h c (List.mem_cons_of_mem _ hc)) _ (by omega)
theorem parse_digits {l : List UInt8} (hne : l ≠ []) (h : ∀ c ∈ l, digB c = true) :
    Lib.parseIntB 64 l = if 9223372036854775807 < digVal l then .range else .ok (digVal l : Int) := by
  cases l with
  | nil => exact absurd rfl hne
  | cons c r =>
    have hc := dig_nat (h c List.mem_cons_self)
    rw [Lib.parseIntB_plain 64 c r (by omega) (by omega)]
    unfold Lib.parseUintB
    rw [if_neg (by simp)]
    have hu := uint_digits (c :: r) h 0 (by omega)
    rw [show digAcc 0 (c :: r) = digVal (c :: r) from rfl] at hu
    rw [show (2 ^ 64 - 1 : Nat) = 18446744073709551615 from rfl, hu]
    rw [show (2 ^ (64 - 1) : Nat) = 9223372036854775808 from rfl]
    by_cases h1 : digVal (c :: r) ≤ 18446744073709551615
    · rw [if_pos h1]
      unfold Lib.signlessC
      by_cases h2 : 9223372036854775807 < digVal (c :: r)
      · rw [if_pos h2]; dsimp only; rw [if_pos (by omega)]
      · rw [if_neg h2]; dsimp only; rw [if_neg (by omega)]
    · rw [if_neg h1, if_pos (by omega)]
      rfl
theorem dig_take (l : List UInt8) : ∀ c ∈ l.take (digLen l), digB c = true := by
  intro c hc
  unfold digLen at hc
  have : l.take (l.takeWhile digB).length = l.takeWhile digB := by
    conv => lhs; arg 2; rw [← List.takeWhile_append_dropWhile (p := digB) (l := l)]
    rw [List.take_left']
    rfl
  rw [this] at hc
  exact List.all_eq_true.1 List.all_takeWhile c hc
end Go.Proofs.YtfkbbbjicaedmaaGreatDoor
