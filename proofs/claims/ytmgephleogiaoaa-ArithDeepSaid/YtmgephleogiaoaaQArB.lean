/-
  Bitwise operations on numbers of 64 bits, plain. No condition.
-/
import Derived.Test.YtmgephleogiaoaaQAr3
namespace Go.Proofs.Ytmgephleogiaoaa
open Go.RowKit Go.Maps
set_option linter.unusedVariables false
set_option linter.unusedSimpArgs false
theorem wrap_toInt (v : BitVec 64) : IntKind.i64.wrap (v.toNat : Int) = v.toInt := by
  rw [IntKind.wrap_i64, BitVec.toInt_eq_toNat_cond]
  have := v.isLt
  split <;> omega
theorem and_bv (a b : Int) : bits .and .i64 a b = (BitVec.ofInt 64 a &&& BitVec.ofInt 64 b).toInt := wrap_toInt _
theorem or_bv (a b : Int) : bits .or .i64 a b = (BitVec.ofInt 64 a ||| BitVec.ofInt 64 b).toInt := wrap_toInt _
theorem xor_bv (a b : Int) : bits .xor .i64 a b = (BitVec.ofInt 64 a ^^^ BitVec.ofInt 64 b).toInt := wrap_toInt _
theorem ofInt_in {a : Int} (h : inR a) : (BitVec.ofInt 64 a).toInt = a := by
  unfold inR at h
  rw [← wrap_toInt, BitVec.toNat_ofInt, IntKind.wrap_i64]
  omega
theorem bits_in (op : BinOp) (a b : Int) : inR (bits op .i64 a b) := by
  have h : ∀ z, inR (IntKind.i64.wrap z) := fun z => by rw [IntKind.wrap_i64]; unfold inR; omega
  exact h _
theorem and_one (b : Int) : bits .and .i64 b 1 = b % 2 := by
  have h : bits .and .i64 b 1 = IntKind.i64.wrap ((BitVec.ofInt 64 b &&& BitVec.ofInt 64 1).toNat : Int) := rfl
  rw [h, BitVec.toNat_and, BitVec.toNat_ofInt, show (BitVec.ofInt 64 1).toNat = 1 from rfl, Nat.and_one_is_mod, IntKind.wrap_i64]
  omega
theorem xor_not {a : Int} (h : inR a) : bits .xor .i64 (-1) a = -1 - a := by
  unfold inR at h
  rw [xor_bv, show BitVec.ofInt 64 (-1) = BitVec.allOnes 64 from rfl, BitVec.allOnes_xor, BitVec.toInt_not]
  rw [BitVec.toNat_ofInt, Int.bmod_def]
  omega
theorem bv_and_xor (A B : BitVec 64) : (A &&& B) &&& (A ^^^ B) = 0 := by
  apply BitVec.eq_of_getLsbD_eq
  intro i hi
  simp
  cases A.getLsbD i <;> cases B.getLsbD i <;> simp
theorem bv_or_xor (A B : BitVec 64) : (A &&& B) ||| (A ^^^ B) = A ||| B := by
  apply BitVec.eq_of_getLsbD_eq
  intro i hi
  simp
  cases A.getLsbD i <;> cases B.getLsbD i <;> simp
theorem nat_and_or (n : Nat) : ∀ x y : Nat, x < 2 ^ n → y < 2 ^ n → (x &&& y) + (x ||| y) = x + y := by
  induction n with
  | zero => intro x y hx hy; have : x = 0 := by omega
            have : y = 0 := by omega
            subst x y; rfl
  | succ n ih =>
    intro x y hx hy
    have h1 := ih (x / 2) (y / 2) (by omega) (by omega)
    have a1 : (x &&& y) / 2 = x / 2 &&& y / 2 := Nat.and_div_two
    have a2 : (x ||| y) / 2 = x / 2 ||| y / 2 := Nat.or_div_two
    have b1 : (x &&& y) % 2 = 1 ↔ x % 2 = 1 ∧ y % 2 = 1 := Nat.and_mod_two_eq_one
    have b2 : (x ||| y) % 2 = 1 ↔ x % 2 = 1 ∨ y % 2 = 1 := Nat.or_mod_two_eq_one
    rw [← a1, ← a2] at h1
    generalize x &&& y = p at *
    generalize x ||| y = q at *
    omega
theorem bv_sum (A B : BitVec 64) : wrap64 ((A &&& B).toInt + (A ||| B).toInt) = wrap64 (A.toInt + B.toInt) := by
  have h := nat_and_or 64 A.toNat B.toNat A.isLt B.isLt
  have e1 : (A &&& B).toNat = A.toNat &&& B.toNat := BitVec.toNat_and ..
  have e2 : (A ||| B).toNat = A.toNat ||| B.toNat := BitVec.toNat_or ..
  rw [← e1, ← e2] at h
  have l1 := (A &&& B).isLt
  have l2 := (A ||| B).isLt
  have l3 := A.isLt
  have l4 := B.isLt
  simp only [BitVec.toInt_eq_toNat_cond, wrap64]
  generalize (A &&& B).toNat = p at *
  generalize (A ||| B).toNat = q at *
  (repeat' split) <;> omega
theorem bits_three {a b : Int} (ha : inR a) (hb : inR b) : bits .and .i64 (bits .and .i64 a b) (bits .xor .i64 a b) = 0 ∧ bits .or .i64 (bits .and .i64 a b) (bits .xor .i64 a b) = bits .or .i64 a b ∧ wrap64 (bits .and .i64 a b + bits .or .i64 a b) = wrap64 (a + b) := by
  have key : ∀ v : BitVec 64, BitVec.ofInt 64 v.toInt = v := fun v => BitVec.ofInt_toInt
  refine ⟨?_, ?_, ?_⟩
  · rw [and_bv, and_bv a b, xor_bv, key, key, bv_and_xor]; rfl
  · rw [or_bv, and_bv, xor_bv, or_bv, key, key, bv_or_xor]
  · rw [and_bv, or_bv, bv_sum, ofInt_in ha, ofInt_in hb]
theorem wrap_sq {a : Int} (h : -1 ≤ a) (h1 : a ≤ 1) : IntKind.i64.wrap (a * a) = a * a := by
  have h3 : a = -1 ∨ a = 0 ∨ a = 1 := by omega
  rcases h3 with rfl | rfl | rfl <;> decide
end Go.Proofs.Ytmgephleogiaoaa
