/-
  SchedKeys, the walk: eight threads, each over, blocked on its key, or ready. Conditions: the arguments' lengths.
-/
import Derived.Test.YtlmgojnhmdppnaaSc8
namespace Go.Proofs.Ytlmgojnhmdppnaa
open Go.RowKit Go.Maps
set_option linter.unusedVariables false

/-! ### Plain: a thread that was just made -/
section
variable {l : List Th} {t s k : Int}
theorem idx_push (h : ∀ r ∈ l, r.no ≠ t) : idx (l ++ [⟨t, s, k⟩]) t = some l.length := by
  unfold idx
  rw [List.findIdx?_eq_some_iff_getElem]
  refine ⟨by simp, by simp, fun j hj => ?_⟩
  rw [List.getElem_append_left hj]
  have := h _ (List.getElem_mem hj)
  simpa using this
theorem stOf_push (h : ∀ r ∈ l, r.no ≠ t) : stOf (l ++ [⟨t, s, k⟩]) t = s := by
  obtain ⟨hi, he⟩ := stOf_some (idx_push (s := s) (k := k) h)
  rw [he]; simp
theorem keyOf_push (h : ∀ r ∈ l, r.no ≠ t) : keyOf (l ++ [⟨t, s, k⟩]) t = k := by
  obtain ⟨hi, he⟩ := keyOf_some (idx_push (s := s) (k := k) h)
  rw [he]; simp
theorem setT_push (h : ∀ r ∈ l, r.no ≠ t) (s' k' : Int) : setT (l ++ [⟨t, s, k⟩]) t s' k' = l ++ [⟨t, s', k'⟩] := by
  unfold setT
  rw [List.map_append]
  congr 1
  · conv => rhs; rw [← List.map_id l]
    apply List.map_congr_left
    intro r hr
    simp [h r hr]
  · simp
end
theorem wakeT_append (l m : List Th) (key : Int) : wakeT (l ++ m) key = wakeT l key ++ wakeT m key := by simp [wakeT]
theorem readyT_append (l m : List Th) : readyT (l ++ m) = readyT l ++ readyT m := by simp [readyT]
theorem waits_append (l m : List Th) (key : Int) : waits (l ++ m) key = waits l key + waits m key := by simp [waits]
theorem waits_wake (l : List Th) (key : Int) : waits (wakeT l key) key = 0 := by
  unfold waits
  rw [List.length_eq_zero_iff, List.filter_eq_nil_iff]
  intro r hr
  unfold wakeT at hr
  obtain ⟨x, _, rfl⟩ := List.mem_map.1 hr
  by_cases h : (x.st == 2 && x.key == key) = true
  · rw [if_pos h]; simp
  · rw [if_neg h]; exact h

/-! ### The eight -/
def kth (ks es : List Int) (i : Nat) : Th :=
  if among es (i + 1) = true then ⟨i + 1, 3, 0⟩ else if i < ks.length then ⟨i + 1, 2, ks.getD i 0⟩ else ⟨i + 1, 1, 0⟩
def kths (ks es : List Int) : Nat → List Th
  | 0 => []
  | n + 1 => kths ks es n ++ [kth ks es n]
def kZ (ks es : List Int) (n : Nat) : ZS := ⟨8, n, kths ks es n, 0, 0⟩
theorem kth_no (ks es : List Int) (i : Nat) : (kth ks es i).no = i + 1 := by
  unfold kth; split
  · rfl
  · split <;> rfl
theorem kths_len (ks es : List Int) (n : Nat) : (kths ks es n).length = n := by
  induction n with
  | zero => rfl
  | succ n ih => simp [kths, ih]
theorem kths_no (ks es : List Int) (n : Nat) : ∀ r ∈ kths ks es n, r.no ≤ n := by
  induction n with
  | zero => simp [kths]
  | succ n ih =>
    intro r hr
    rcases List.mem_append.1 hr with hr | hr
    · have := ih r hr; omega
    · rw [List.mem_singleton] at hr; subst hr; rw [kth_no]; omega
theorem kths_ne (ks es : List Int) (n : Nat) : ∀ r ∈ kths ks es n, r.no ≠ (n : Int) + 1 := fun r hr => by have := kths_no ks es n r hr; omega
def kmid (ks es : List Int) (n : Nat) : ZS := ⟨8, (n : Int) + 1, kths ks es n ++ [⟨(n : Int) + 1, 1, 0⟩], 0, 0⟩
theorem k_spawn {ks es : List Int} {n : Nat} (hn : n < 8) : (kZ ks es n).spawn = kmid ks es n ∧ (kZ ks es n).spawnNo = (n : Int) + 1 ∧ (kZ ks es n).spawnErr = 0 := by
  have : ((kZ ks es n).ths.length : Int) < (kZ ks es n).most := by simp only [kZ, kths_len]; omega
  unfold ZS.spawn ZS.spawnNo ZS.spawnErr
  rw [if_pos this, if_pos this, if_pos this]
  exact ⟨rfl, rfl, rfl⟩
theorem k_err {ks es : List Int} {n : Nat} : (kmid ks es n).inErr 1 ((n : Int) + 1) = 0 := by
  unfold ZS.inErr kmid
  rw [stOf_push (kths_ne ks es n)]
  simp
theorem k_stop {ks es : List Int} {n : Nat} (h : among es ((n : Int) + 1) = true) : (kmid ks es n).stop ((n : Int) + 1) = kZ ks es (n + 1) := by
  unfold ZS.stop
  rw [if_pos k_err]
  unfold kmid kZ
  dsimp only
  rw [setT_push (kths_ne ks es n), keyOf_push (kths_ne ks es n)]
  simp [kths, kth, h]
theorem k_block {ks es : List Int} {n : Nat} (h : among es ((n : Int) + 1) = false) (hk : n < ks.length) : (kmid ks es n).block ((n : Int) + 1) (ks.getD n 0) = kZ ks es (n + 1) := by
  unfold ZS.block
  rw [if_pos k_err]
  unfold kmid kZ
  dsimp only
  rw [setT_push (kths_ne ks es n)]
  simp [kths, kth, h, hk]
theorem k_none {ks es : List Int} {n : Nat} (h : among es ((n : Int) + 1) = false) (hk : ¬ n < ks.length) : kmid ks es n = kZ ks es (n + 1) := by
  unfold kmid kZ
  simp [kths, kth, h, hk]
def wantK (ks es : List Int) (key : Int) (n : Nat) : List Int := readyT (wakeT (kths ks es n) key)
theorem want_succ (ks es : List Int) (key : Int) (n : Nat) : wantK ks es key (n + 1) = wantK ks es key n ++ if among es ((n : Int) + 1) = true then [] else if n < ks.length then (if (ks.getD n 0 == key) = true then [(n : Int) + 1] else []) else [(n : Int) + 1] := by
  unfold wantK
  show readyT (wakeT (kths ks es n ++ [kth ks es n]) key) = _
  rw [wakeT_append, readyT_append]
  congr 1
  unfold kth
  split
  · simp [wakeT, readyT]
  · split
    · generalize ks.getD n 0 = y
      by_cases hk : y = key
      · subst hk; simp [wakeT, readyT]
      · simp [wakeT, readyT, hk]
    · simp [wakeT, readyT]
theorem want_le (ks es : List Int) (key : Int) (n : Nat) : (wantK ks es key n).length ≤ n := by
  unfold wantK readyT
  rw [List.length_map]
  refine Nat.le_trans (List.length_filter_le _ _) ?_
  rw [length_wakeT, kths_len]; exact Nat.le_refl _
def cntK (ks es : List Int) (key : Int) (i : Nat) : Nat := waits (kths ks es (min i 8)) key
theorem cnt_lt {ks es : List Int} (key : Int) {i : Nat} (hi : i < 8) (hl : i < ks.length) : cntK ks es key (i + 1) = cntK ks es key i + if (ks.getD i 0 == key && !among es ((i : Int) + 1)) = true then 1 else 0 := by
  unfold cntK
  rw [show min (i + 1) 8 = i + 1 by omega, show min i 8 = i by omega]
  show waits (kths ks es i ++ [kth ks es i]) key = _
  rw [waits_append]
  congr 1
  unfold kth
  cases ha : among es ((i : Int) + 1) with
  | true => simp [waits]
  | false =>
    rw [if_neg (by simp), if_pos hl]
    generalize ks.getD i 0 = y
    by_cases hk : y = key
    · simp [waits, hk]
    · simp [waits, hk]
theorem cnt_ge {ks es : List Int} (key : Int) {i : Nat} (hi : 8 ≤ i) : cntK ks es key (i + 1) = cntK ks es key i := by
  unfold cntK
  rw [show min (i + 1) 8 = min i 8 by omega]
theorem cnt_over {ks es : List Int} (key : Int) (d : Nat) : cntK ks es key (ks.length + d) = cntK ks es key ks.length := by
  induction d with
  | zero => rfl
  | succ d ih =>
    rw [← ih]
    by_cases h8 : 8 ≤ ks.length + d
    · exact cnt_ge key h8
    · unfold cntK
      rw [show min (ks.length + (d + 1)) 8 = ks.length + d + 1 by omega, show min (ks.length + d) 8 = ks.length + d by omega]
      show waits (kths ks es (ks.length + d) ++ [kth ks es (ks.length + d)]) key = _
      rw [waits_append]
      unfold kth
      split
      · simp [waits]
      · rw [if_neg (by omega)]; simp [waits]
theorem cnt_end (ks es : List Int) (key : Int) : cntK ks es key ks.length = waits (kths ks es 8) key := by
  by_cases h : 8 ≤ ks.length
  · unfold cntK; rw [show min ks.length 8 = 8 by omega]
  · rw [← cnt_over key (8 - ks.length), show ks.length + (8 - ks.length) = 8 by omega]; rfl
theorem cnt_le (ks es : List Int) (key : Int) (i : Nat) : cntK ks es key i ≤ 8 := by
  unfold cntK waits
  refine Nat.le_trans (List.length_filter_le _ _) ?_
  rw [kths_len]; omega
theorem cnt_zero (ks es : List Int) (key : Int) : cntK ks es key 0 = 0 := rfl
theorem k_full (ks es : List Int) : (kZ ks es 8).spawn = kZ ks es 8 ∧ (kZ ks es 8).spawnNo = 0 ∧ (kZ ks es 8).spawnErr = 3 := by
  have : ¬ ((kZ ks es 8).ths.length : Int) < (kZ ks es 8).most := by simp only [kZ, kths_len]; omega
  unfold ZS.spawn ZS.spawnNo ZS.spawnErr
  rw [if_neg this, if_neg this, if_neg this]
  exact ⟨rfl, rfl, rfl⟩
end Go.Proofs.Ytlmgojnhmdppnaa
