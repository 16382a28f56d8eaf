/-
  Tokens, plain: numbers (LexCodes). No condition.
-/
import Derived.Test.YtjaaoljfkbbjpaaGreatDoorLx9
import Derived.Test.YtjaaoljfkbbjpaaGreatDoorLx11
import Derived.Test.YtjaaoljfkbbjpaaGreatDoorDec
namespace Go.Proofs.YtjaaoljfkbbjpaaGreatDoor
set_option linter.unusedVariables false
set_option linter.unusedSimpArgs false

def isQ (c : UInt8) : Bool := c == 39 || c == 92
def codeText (c : UInt8) : List UInt8 := if isQ c then [48, 39, c, c] else [48, 39, c]
theorem code_wrong : ∀ c : Fin 256, okB (UInt8.ofNat c.val) = false → tokens (codeText (UInt8.ofNat c.val)) = .bad 80 2 := by decide +kernel
theorem code_right : ∀ c : Fin 256, okB (UInt8.ofNat c.val) = true → tokens (codeText (UInt8.ofNat c.val)) = .good [⟨⟨3, codeText (UInt8.ofNat c.val), c.val, false⟩, 0, true⟩] (codeText (UInt8.ofNat c.val)).length [] := by decide +kernel
theorem dig_toNat (m : Nat) : (dig m).toNat = 48 + m % 10 := by
  unfold dig
  have : m % 10 < 10 := Nat.mod_lt _ (by decide)
  simp; omega
theorem dig_isDig (m : Nat) : digB (dig m) = true := by
  have h := dig_toNat m
  have : m % 10 < 10 := Nat.mod_lt _ (by decide)
  unfold digB
  simp only [Bool.and_eq_true, decide_eq_true_eq]
  exact ⟨UInt8.le_iff_toNat_le.2 (by rw [h]; show 48 ≤ _; omega), UInt8.le_iff_toNat_le.2 (by rw [h]; show _ ≤ 57; omega)⟩
theorem decF_val (f : Nat) : ∀ m acc, m < 10 ^ f → digAcc 0 (decF f m acc) = digAcc m acc := by
  induction f with
  | zero => intro m acc h; have : m = 0 := by simpa using h
            subst this; rfl
  | succ f ih =>
    intro m acc h
    unfold decF
    split
    · rename_i h0; rw [h0]
    · rw [ih (m / 10) (dig m :: acc) (by rw [Nat.pow_succ] at h; omega)]
      show digAcc (10 * (m / 10) + ((dig m).toNat - 48)) acc = _
      rw [dig_toNat]
      congr 1
      omega
theorem decF_digs (f : Nat) : ∀ m acc, (∀ c ∈ acc, digB c = true) → ∀ c ∈ decF f m acc, digB c = true := by
  induction f with
  | zero => intro m acc h; exact h
  | succ f ih =>
    intro m acc h
    unfold decF
    split
    · exact h
    · refine ih _ _ (fun c hc => ?_)
      rcases List.mem_cons.1 hc with rfl | hc
      · exact dig_isDig m
      · exact h c hc
theorem digs_val {n : Nat} (h : n < 9223372036854775808) : digVal (digs n) = n := by
  unfold digs
  split
  · rename_i h0; subst h0; rfl
  · exact decF_val 20 n [] (by omega)
theorem digs_digs (n : Nat) : ∀ c ∈ digs n, digB c = true := by
  unfold digs
  split
  · intro c hc; have := List.mem_singleton.1 hc; subst this; rfl
  · exact decF_digs 20 n [] (fun c hc => by cases hc)
theorem decF_ne (f : Nat) : ∀ m acc, acc ≠ [] → decF f m acc ≠ [] := by
  induction f with
  | zero => intro m acc h; exact h
  | succ f ih => intro m acc h; unfold decF; split; exact h; exact ih _ _ (by simp)
theorem digs_ne (n : Nat) : digs n ≠ [] := by
  unfold digs
  split
  · simp
  · rename_i h0
    rw [decF, if_neg h0]
    exact decF_ne 19 _ _ (by simp)
def padded (k n : Nat) : List UInt8 := List.replicate k 48 ++ digs n
theorem padded_digs (k n : Nat) : ∀ c ∈ padded k n, digB c = true := by
  intro c hc
  rcases List.mem_append.1 hc with h | h
  · have := (List.mem_replicate.1 h).2; subst this; rfl
  · exact digs_digs n c h
theorem padded_val (k : Nat) {n : Nat} (h : n < 9223372036854775808) : digVal (padded k n) = n := by
  unfold padded
  induction k with
  | zero => exact digs_val h
  | succ k ih => rw [List.replicate_succ]; exact ih
theorem padded_ne (k n : Nat) : padded k n ≠ [] := by
  unfold padded
  intro h
  exact digs_ne n (List.append_eq_nil_iff.1 h).2
theorem padded_length (k n : Nat) : (padded k n).length ≤ k + 20 := by
  have := digs_length n
  unfold padded
  simp; omega
theorem digs_tok {l r : List UInt8} (hne : l ≠ []) (h : ∀ c ∈ l, digB c = true) (hr : ∀ c, r.head? = some c → digB c = false ∧ c ≠ 39) (a : Nat) :
    Begins (l ++ r) ∧ tokL a (l ++ r) = if 9223372036854775807 < digVal l then .bad 83 a else .good ⟨3, l, digVal l, false⟩ (a + l.length) r := by
  obtain ⟨c, q, rfl⟩ := List.exists_cons_of_ne_nil hne
  have hc := h c List.mem_cons_self
  have hcn := dig_nat hc
  have hall : ∀ n : Fin 256, digB (UInt8.ofNat n.val) = true → blankB (UInt8.ofNat n.val) = false ∧ UInt8.ofNat n.val ≠ 37 ∧ smallB (UInt8.ofNat n.val) = false ∧ capB (UInt8.ofNat n.val) = false ∧ (UInt8.ofNat n.val == 47) = false := by decide +kernel
  have hcc := hall ⟨c.toNat, c.toNat_lt⟩ (by simpa using hc)
  simp only [UInt8.ofNat_toNat] at hcc
  obtain ⟨h1, h2, h3, h4, h5⟩ := hcc
  have hcode : codeB (c :: (q ++ r)) = false := by
    unfold codeB
    cases q with
    | nil =>
      cases r with
      | nil => rfl
      | cons d r =>
        have := (hr d rfl).2
        have e : (d == 39) = false := beq_eq_false_iff_ne.2 this
        simp [e]
    | cons d q =>
      have hd := dig_nat (h d (by simp))
      have e : (d == 39) = false := by
        rw [beq_eq_false_iff_ne]; intro h0; subst h0; exact absurd hd.1 (by decide)
      simp [e]
  have hlen : digLen (c :: q ++ r) = (c :: q).length := by
    unfold digLen
    rw [while_app]
    exact ⟨h, fun x hx => (hr x hx).1⟩
  refine ⟨⟨c, q ++ r, rfl, h1, h2, by rw [List.cons_append, remB_cons, h5]; rfl⟩, ?_⟩
  rw [List.cons_append, tok_cons, h3, h4, hcode, hc]
  simp only [Bool.false_eq_true, if_false, if_true]
  unfold digitsL
  rw [← List.cons_append, hlen, List.take_left, List.drop_left]
theorem toks_nil (a : Nat) (e : Bool) : toks a e [] = .good [] a [] := by rw [toks_eq, skipL_nil]
theorem number_alone (k : Nat) {n : Nat} (hk : k ≤ 15) (h : n < 9223372036854775808) : ∃ m, tokens (padded k n) = .good [⟨⟨3, padded k n, n, false⟩, 0, true⟩] m [] := by
  have hl := padded_length k n
  have ht := digs_tok (l := padded k n) (r := []) (padded_ne k n) (padded_digs k n) (fun c hc => by cases hc) 0
  rw [List.append_nil, padded_val k h, if_neg (by omega)] at ht
  unfold tokens
  rw [if_neg (by omega), toks_one ht.1 ht.2, toks_nil]
  exact ⟨0 + (padded k n).length, rfl⟩
theorem digVal_snoc (l : List UInt8) : digVal (l ++ [48]) = 10 * digVal l := by
  unfold digVal
  rw [List.foldl_append]
  simp
theorem number_tens (k : Nat) {n : Nat} (hk : k ≤ 15) (h : n < 9223372036854775808) :
    (922337203685477580 < n → tokens (padded k n ++ [48, 120]) = .bad 83 0) ∧
    (n ≤ 922337203685477580 → ∃ m, tokens (padded k n ++ [48, 120]) = .good [⟨⟨3, padded k n ++ [48], (n * 10 : Nat), false⟩, 0, true⟩, ⟨⟨1, [120], 0, false⟩, (padded k n).length + 1, false⟩] m []) := by
  have hl := padded_length k n
  have hd : ∀ c ∈ padded k n ++ [48], digB c = true := by
    intro c hc
    rcases List.mem_append.1 hc with h1 | h1
    · exact padded_digs k n c h1
    · have := List.mem_singleton.1 h1; subst this; rfl
  have ht := digs_tok (l := padded k n ++ [48]) (r := [120]) (by simp) hd (fun c hc => by have : c = 120 := by simpa using hc.symm
                                                                                          subst this; decide) 0
  have e : padded k n ++ [48, 120] = (padded k n ++ [48]) ++ [120] := by simp
  rw [e]
  rw [digVal_snoc, padded_val k h] at ht
  obtain ⟨hb, ht⟩ := ht
  have hlen : ¬ 16384 < (padded k n ++ [48] ++ [120]).length := by simp; omega
  constructor
  · intro h1
    rw [if_pos (by omega)] at ht
    unfold tokens
    rw [if_neg hlen, toks_eq, begins_skip hb]
    obtain ⟨c, q, hq, _⟩ := hb
    rw [hq] at ht ⊢
    dsimp only
    rw [ht]
  · intro h1
    rw [if_neg (by omega)] at ht
    unfold tokens
    rw [if_neg hlen, toks_one hb ht]
    have hx : ∀ a, tokL a [120] = .good ⟨1, [120], 0, false⟩ (a + 1) [] := fun a => rfl
    rw [toks_one ⟨120, [], rfl, by decide, by decide, rfl⟩ (hx _), toks_nil]
    refine ⟨0 + (padded k n ++ [48]).length + 1, ?_⟩
    have e1 : ((10 * n : Nat) : Int) = ((n * 10 : Nat) : Int) := by omega
    have e2 : 0 + (padded k n ++ [48]).length = (padded k n).length + 1 := by simp
    rw [e1, e2]
    rfl
end Go.Proofs.YtjaaoljfkbbjpaaGreatDoor
