/-
  What two numbers are worth under each operation of package arith, plain. No condition.
-/
import Derived.Test.YtmgephleogiaoaaNSx7
import Derived.Lib.MinMax
namespace Go.Proofs.Ytmgephleogiaoaa
open Go.RowKit Go.Maps
set_option linter.unusedVariables false
set_option linter.unusedSimpArgs false
def inR (z:Int):Prop:=-9223372036854775808 ≤ z∧z ≤ 9223372036854775807
instance (z:Int):Decidable (inR z):=by unfold inR;infer_instance
def fOver:List UInt8:=[105,110,116,95,111,118,101,114,102,108,111,119]
def fZero:List UInt8:=[122,101,114,111,95,100,105,118,105,115,111,114]
def fUndef:List UInt8:=[117,110,100,101,102,105,110,101,100]
abbrev Rs:=Int × List UInt8
def big (z:Int):Rs:=if inR z then (z,[]) else (0,fOver)
theorem big_yes {z v:Int} (h:inR z) (e:v=z):big z=(v,[]):=by rw [big,if_pos h,e]
theorem big_no {z:Int} (h:¬ inR z):big z=(0,fOver):=by rw [big,if_neg h]
theorem inR_of {z:Int} (h:(Lit.int .i64 z).wf=true):inR z:=by
  simp [Lit.wf,IntKind.min,IntKind.max,IntKind.bits,IntKind.signed] at h
  exact ⟨by omega,by omega⟩
def quoR (a b:Int):Rs:=if b=0 then (0,fZero) else big (a.tdiv b)
def remR (a b:Int):Rs:=if b=0 then (0,fZero) else (a.tmod b,[])
def modR (a b:Int):Rs:=if b=0 then (0,fZero) else if a.tmod b ≠ 0∧¬ (a.tmod b < 0↔b < 0) then (a.tmod b + b,[]) else (a.tmod b,[])
def shrR (a n:Int):Rs:=if n < 0 then (0,fUndef) else (a / 2 ^ n.toNat,[])
def shlR (a n:Int):Rs:=if n < 0 then (0,fUndef) else big (a * 2 ^ n.toNat)
def powR (a n:Int):Rs:=if n < 0 then (if a=1 then (1,[]) else if a=-1 then ((if n % 2=0 then 1 else -1),[]) else (0,fUndef)) else big (a ^ n.toNat)
theorem wrap_in {z:Int} (h:inR z):wrap64 z=z:=by unfold inR at h;rw [wrap64];omega
theorem wrap_inR (z:Int):inR (wrap64 z):=by unfold inR;rw [wrap64];omega
theorem wrap_mod (z:Int):∃ k:Int,wrap64 z=z + k * 18446744073709551616:=by
  rw [wrap64]
  exact ⟨((z + 9223372036854775808) % 18446744073709551616 - 9223372036854775808 - z) / 18446744073709551616,by omega⟩
theorem inR_abs {z:Int} (h:z.natAbs < 9223372036854775808):inR z:=by unfold inR;omega
theorem tdiv_inR {a b:Int} (ha:inR a) (h:¬ (a=-9223372036854775808∧b=-1)):inR (a.tdiv b):=by
  unfold inR at ha
  by_cases h1:b=1
  · subst h1;rw [Int.tdiv_one];exact ha
  by_cases h2:b=-1
  · subst h2;rw [Int.tdiv_neg,Int.tdiv_one];unfold inR;omega
  · refine inR_abs ?_
    rw [Int.natAbs_tdiv]
    show a.natAbs / b.natAbs < _
    by_cases h0:b.natAbs=0
    · rw [h0];simp
    · have h3:2 ≤ b.natAbs:=by omega
      have h4:a.natAbs / b.natAbs ≤ a.natAbs / 2:=Nat.div_le_div_left h3 (by decide)
      omega
theorem tmod_inR {a b:Int} (ha:inR a):inR (a.tmod b):=by
  unfold inR at ha
  have h1:(a.tmod b).natAbs ≤ a.natAbs:=by rw [Int.natAbs_tmod];exact Nat.mod_le _ _
  have h2:0 ≤ a→0 ≤ a.tmod b:=fun h=>Int.tmod_nonneg b h
  have h3:a < 0→a.tmod b ≤ 0:=fun h=>by
    have:=Int.tmod_nonneg b (show 0 ≤ -a by omega)
    rw [Int.neg_tmod] at this;omega
  unfold inR
  omega
theorem quo_yes {a b:Int} (ha:inR a) (hb:¬ b=0) (h:¬ (a=-9223372036854775808∧b=-1)):quoR a b=(wrap64 (a.tdiv b),[]):=by
  rw [quoR,if_neg hb,wrap_in (tdiv_inR ha h)];exact big_yes (tdiv_inR ha h) rfl
theorem quo_least {a b:Int} (h:a=-9223372036854775808) (hb:¬ b=0) (h1:¬ b=-1):quoR a b=(wrap64 (-Int.tdiv 9223372036854775808 b),[]):=by
  subst h
  rw [quo_yes (by decide) hb (fun h=>h1 h.2),Int.neg_tdiv]
theorem quo_no {a b:Int} (h:a=-9223372036854775808) (h1:b=-1):quoR a b=(0,fOver):=by
  subst h h1;rw [quoR,if_neg (by decide)];exact big_no (by decide)
theorem quo_zero {a b:Int} (h:b=0):quoR a b=(0,fZero):=by rw [quoR,if_pos h]
theorem rem_yes {a b:Int} (hb:¬ b=0):remR a b=(a.tmod b,[]):=by rw [remR,if_neg hb]
theorem rem_zero {a b:Int} (h:b=0):remR a b=(0,fZero):=by rw [remR,if_pos h]
theorem mod_zero {a b:Int} (h:b=0):modR a b=(0,fZero):=by rw [modR,if_pos h]
theorem mod_nil {a b:Int} (hb:¬ b=0) (h:a.tmod b=0):modR a b=(0,[]):=by rw [modR,if_neg hb,if_neg (fun hh=>hh.1 h),h]
theorem mod_one {a b:Int} (hb:¬ b=0) (h:a.tmod b ≠ 0∧¬ (a.tmod b < 0↔b < 0)) (ha:inR a) (hb':inR b):modR a b=(wrap64 (a.tmod b + b),[]):=by
  rw [modR,if_neg hb,if_pos h,wrap_in]
  have:=tmod_inR (b:=b) ha
  unfold inR at *
  omega
theorem mod_two {a b:Int} (hb:¬ b=0) (h:¬ (a.tmod b ≠ 0∧¬ (a.tmod b < 0↔b < 0))):modR a b=(a.tmod b,[]):=by rw [modR,if_neg hb,if_neg h]
theorem pow_pos' (n:Nat):(0:Int) < 2 ^ n:=Int.pow_pos (by decide)
theorem pow_ge {m n:Nat} (h:m ≤ n):(2:Int) ^ m ≤ 2 ^ n:=by
  obtain ⟨k,rfl⟩:=Nat.le.dest h
  rw [Int.pow_add]
  have:=pow_pos' m;have:=pow_pos' k
  have h:=Int.mul_le_mul_of_nonneg_left (a:=1) (b:=2 ^ k) (c:=2 ^ m) (by omega) (by omega);rw [Int.mul_one] at h;exact h
theorem div_far {a c:Int} (hc:9223372036854775808 ≤ c) (ha:inR a):a / c=if a < 0 then -1 else 0:=by
  unfold inR at ha
  split
  · exact ((Int.ediv_emod_unique (r:=a + c) (q:=-1) (by omega)).2 ⟨by omega,by omega,by omega⟩).1
  · exact Int.ediv_eq_zero_of_lt (by omega) (by omega)
theorem shr_min {a:Int} (ha:inR a) (n:Nat):a / (2 ^ min n 64)=a / (2 ^ n):=by
  by_cases h:n ≤ 64
  · rw [Nat.min_eq_left h]
  · rw [Nat.min_eq_right (by omega),div_far (by decide) ha,div_far (Int.le_trans (by decide) (pow_ge (show 64 ≤ n by omega))) ha]
theorem shr_yes {a n:Int} (ha:inR a) (h:¬ n < 0):shrR a n=(a / 2 ^ min n.toNat 64,[]):=by rw [shrR,if_neg h,shr_min ha]
theorem shr_no {a n:Int} (h:n < 0):shrR a n=(0,fUndef):=by rw [shrR,if_pos h]
theorem shl_no {a n:Int} (h:n < 0):shlR a n=(0,fUndef):=by rw [shlR,if_pos h]
theorem shl_far {a:Int} {n:Nat} (hn:64 ≤ n) (h:inR (a * 2 ^ n)):a=0:=by
  have h1:(18446744073709551616:Int) ≤ 2 ^ n:=Int.le_trans (by decide) (pow_ge hn)
  unfold inR at h
  generalize (2:Int) ^ n=c at *
  by_cases h0:a=0
  · exact h0
  by_cases h2:0 < a
  · have h3:=Int.mul_le_mul_of_nonneg_right (a:=1) (b:=a) (c:=c) (by omega) (by omega);rw [Int.one_mul] at h3;omega
  · have h3:=Int.mul_le_mul_of_nonneg_right (a:=1) (b:=-a) (c:=c) (by omega) (by omega)
    rw [Int.one_mul,Int.neg_mul] at h3;omega
theorem shl_back {a:Int} {n:Nat}:(a * 2 ^ n) / (2 ^ n)=a:=by
  exact Int.mul_ediv_cancel _ (by have:=pow_pos' n;omega)
theorem shl_in {a:Int} {n:Nat} (h:(wrap64 (a * 2 ^ min n 64)) / (2 ^ min n 64)=a):wrap64 (a * 2 ^ min n 64)=a * 2 ^ n∧inR (a * 2 ^ n):=by
  have hm:min n 64 ≤ 64:=Nat.min_le_right _ _
  have h64:(2:Int) ^ min n 64 ≤ 18446744073709551616:=Int.le_trans (pow_ge hm) (by decide)
  have hp:=pow_pos' (min n 64)
  have hr:=wrap_inR (a * 2 ^ min n 64)
  have h4:wrap64 (a * 2 ^ min n 64)=a * 2 ^ min n 64:=by
    obtain ⟨k,hk⟩:=wrap_mod (a * 2 ^ min n 64)
    generalize wrap64 (a * 2 ^ min n 64)=d at *
    generalize (2:Int) ^ min n 64=c at *
    have h1:=Int.emod_add_mul_ediv d c
    have h2:=Int.emod_nonneg d (b:=c) (by omega)
    have h3:=Int.emod_lt_of_pos d hp
    rw [h,Int.mul_comm] at h1
    generalize a * c=e at *
    omega
  rw [h4] at hr
  by_cases hn:n ≤ 64
  · rw [Nat.min_eq_left hn] at *;exact ⟨h4,hr⟩
  · rw [Nat.min_eq_right (by omega)] at *
    have:=shl_far (Nat.le_refl 64) hr
    subst this
    exact ⟨by rw [h4];simp,by simp [inR]⟩
theorem shl_out {a:Int} {n:Nat} (h:inR (a * 2 ^ n)):(wrap64 (a * 2 ^ min n 64)) / (2 ^ min n 64)=a:=by
  by_cases hn:n ≤ 64
  · rw [Nat.min_eq_left hn,wrap_in h,shl_back]
  · have:=shl_far (by omega) h
    subst this
    rw [Int.zero_mul];simp [wrap64]
theorem shl_yes {a n:Int} (h:¬ n < 0) (hb:(wrap64 (a * 2 ^ min n.toNat 64)) / 2 ^ min n.toNat 64=a):shlR a n=(wrap64 (a * 2 ^ min n.toNat 64),[]):=by
  obtain ⟨h1,h2⟩:=shl_in hb
  rw [shlR,if_neg h,h1];exact big_yes h2 rfl
theorem shl_over {a n:Int} (h:¬ n < 0) (hb:¬ (wrap64 (a * 2 ^ min n.toNat 64)) / 2 ^ min n.toNat 64=a):shlR a n=(0,fOver):=by
  rw [shlR,if_neg h];exact big_no fun h2=>hb (shl_out h2)
end Go.Proofs.Ytmgephleogiaoaa
