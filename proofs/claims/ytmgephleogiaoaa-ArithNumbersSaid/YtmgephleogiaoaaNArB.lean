/-
  Bitwise operations on numbers of 64 bits, plain. No condition.
-/
import Derived.Test.YtmgephleogiaoaaNAr3
namespace Go.Proofs.Ytmgephleogiaoaa
open Go.RowKit Go.Maps
set_option linter.unusedVariables false
set_option linter.unusedSimpArgs false
theorem wrap_toInt (v:BitVec 64):IntKind.i64.wrap (v.toNat:Int)=v.toInt:=by
  rw [IntKind.wrap_i64,BitVec.toInt_eq_toNat_cond]
  have:=v.isLt
  split <;> omega
theorem xor_bv (a b:Int):bits .xor .i64 a b=(BitVec.ofInt 64 a ^^^ BitVec.ofInt 64 b).toInt:=wrap_toInt _
theorem bits_in (op:BinOp) (a b:Int):inR (bits op .i64 a b):=by
  have h:∀ z,inR (IntKind.i64.wrap z):=fun z=>by rw [IntKind.wrap_i64];unfold inR;omega
  exact h _
theorem and_one (b:Int):bits .and .i64 b 1=b % 2:=by
  have h:bits .and .i64 b 1=IntKind.i64.wrap ((BitVec.ofInt 64 b &&& BitVec.ofInt 64 1).toNat:Int):=rfl
  rw [h,BitVec.toNat_and,BitVec.toNat_ofInt,show (BitVec.ofInt 64 1).toNat=1 from rfl,Nat.and_one_is_mod,IntKind.wrap_i64]
  omega
theorem xor_not {a:Int} (h:inR a):bits .xor .i64 (-1) a=-1 - a:=by
  unfold inR at h
  rw [xor_bv,show BitVec.ofInt 64 (-1)=BitVec.allOnes 64 from rfl,BitVec.allOnes_xor,BitVec.toInt_not]
  rw [BitVec.toNat_ofInt,Int.bmod_def]
  omega
theorem wrap_sq {a:Int} (h:-1 ≤ a) (h1:a ≤ 1):IntKind.i64.wrap (a * a)=a * a:=by
  have h3:a=-1∨a=0∨a=1:=by omega
  rcases h3 with rfl | rfl | rfl <;> decide
end Go.Proofs.Ytmgephleogiaoaa
