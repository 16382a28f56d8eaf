/-
  Powers. No condition but that they are numbers of 64 bits.
-/
import Derived.Test.YtmgephleogiaoaaNAr4
import Derived.Test.YtmgephleogiaoaaNArB
namespace Go.Proofs.Ytmgephleogiaoaa
open Go.RowKit Go.Maps
set_option linter.unusedVariables false
set_option linter.unusedSimpArgs false
theorem big_empty (z:Int):(str (big z).2).toList.isEmpty=decide (inR z):=by
  rw [str_list]
  by_cases h:inR z
  · rw [big_is rfl h];simp [h]
  · rw [big_not h];simp [h,fOver]
theorem pow_more {a:Int} (h:2 ≤ a∨a ≤ -2) (n:Nat):1 ≤ (a ^ n).natAbs:=by
  rw [Int.natAbs_pow];exact Nat.pow_pos (by omega)
theorem pow_out {a:Int} (h:2 ≤ a∨a ≤ -2) {i:Nat} (hi:¬ inR (a ^ i)):∀ k,¬ inR (a ^ (i + k)):=by
  have h0:9223372036854775808 ≤ (a ^ i).natAbs:=by unfold inR at hi;omega
  intro k
  cases k with
  | zero=>exact hi
  | succ k =>
    intro hr
    have h1:(a ^ (i + (k + 1))).natAbs=(a ^ i).natAbs * (a ^ (k + 1)).natAbs:=by rw [Int.pow_add,Int.natAbs_mul]
    have h2:2 ≤ (a ^ (k + 1)).natAbs:=by
      rw [Int.pow_succ,Int.natAbs_mul]
      have h3:=pow_more h k
      have h4:1 * 2 ≤ (a ^ k).natAbs * a.natAbs:=Nat.mul_le_mul h3 (by omega)
      omega
    have h5:9223372036854775808 * 2 ≤ (a ^ i).natAbs * (a ^ (k + 1)).natAbs:=Nat.mul_le_mul h0 h2
    rw [← h1] at h5
    unfold inR at hr
    omega
theorem pow_small {a b:Int} (h1:-1 ≤ a) (h2:a ≤ 1) (hb:0 < b):powR a b=((if b % 2=0 then a * a else a),[]):=by
  rw [powR,if_neg (by omega)]
  obtain ⟨n,rfl⟩:∃ n:Nat,b=n:=⟨b.toNat,by omega⟩
  rw [Int.toNat_natCast]
  have key:∀ n:Nat,0 < n→a ^ n=if (n:Int) % 2=0 then a * a else a:=by
    intro n hn
    induction n with
    | zero=>omega
    | succ n ih =>
      by_cases h0:n=0
      · subst h0;rw [if_neg (by omega),Int.pow_succ,Int.pow_zero,Int.one_mul]
      · rw [Int.pow_succ,ih (by omega)]
        have h3:a=-1∨a=0∨a=1:=by omega
        rcases h3 with rfl | rfl | rfl <;> (repeat' split) <;> first | rfl | omega
  have hk:=key n (by omega)
  rw [hk]
  refine big_yes ?_ rfl
  have h3:a=-1∨a=0∨a=1:=by omega
  rcases h3 with rfl | rfl | rfl <;> split <;> decide
theorem pow_neg {a b:Int} (h:a=1∨a=-1) (hb:b < 0):powR a b=((if b % 2=0 then a * a else a),[]):=by
  rw [powR,if_pos hb]
  rcases h with rfl | rfl <;> simp
theorem pow_undef {a b:Int} (h:¬ a=1) (h1:¬ a=-1) (hb:b < 0):powR a b=(0,fUndef):=by rw [powR,if_pos hb,if_neg h,if_neg h1]
theorem pow_zero' {a b:Int} (hb:b=0):powR a b=(1,[]):=by subst hb;rw [powR,if_neg (by omega),show Int.toNat 0=0 from rfl,Int.pow_zero];exact big_yes (by decide) rfl
theorem pow_end {a b:Int} {j:Nat} (hb:(j:Int)=b) (h:inR (a ^ j)):powR a b=(a ^ j,[]):=by
  subst hb
  rw [powR,if_neg (by omega),Int.toNat_natCast]
  exact big_yes h rfl
theorem pow_over {a b:Int} {j:Nat} (hb:(j:Int) < b) (h:¬ inR (a ^ j * a)) (ha:2 ≤ a∨a ≤ -2):powR a b=(0,fOver):=by
  rw [powR,if_neg (by omega)]
  obtain ⟨k,hk⟩:∃ k,b.toNat=(j + 1) + k:=⟨b.toNat - (j + 1),by omega⟩
  rw [hk]
  exact big_no (pow_out ha (by rw [Int.pow_succ];exact h) k)
def o73_0_0:Oper:=⟨some 1,Op.box 60 (Operand.tmp 0),0, "function.go:187",#[],none⟩
def o73_0_1:Oper:=⟨some 2,Op.assign (Operand.const (Value.int IntKind.i64 0)),2, "function.go:187",#[],none⟩
def o73_0_2:Oper:=⟨some 3,Op.assign (Operand.const (Value.string { data:=#[] })),9, "function.go:187",#[ec_ 1],none⟩
def O73_0:Array Oper:=List.toArray (o73_0_0::o73_0_1::o73_0_2::[])
theorem g73_0_0:O73_0[0]? = some o73_0_0:=rfl
theorem g73_0_1:O73_0[1]? = some o73_0_1:=rfl
theorem g73_0_2:O73_0[2]? = some o73_0_2:=rfl
def c73_1:Code:=Code.region 0 O73_0 false
def o73_1_0:Oper:=⟨some 8,Op.indexAddr 60 (Operand.tmp 1) (Operand.const (Value.int IntKind.i64 0)),0, "function.go:188",#[],none⟩
def o73_1_1:Oper:=⟨some 9,Op.load 2 (Operand.tmp 8),2, "function.go:188",#[ed_ 0],none⟩
def o73_1_2:Oper:=⟨some 10,Op.indexAddr 60 (Operand.tmp 1) (Operand.const (Value.int IntKind.i64 1)),0, "function.go:188",#[{ on:=4,ground:=Go.Ground.gcOnly Go.Departure.lateStores }],none⟩
def o73_1_3:Oper:=⟨some 11,Op.load 2 (Operand.tmp 10),2, "function.go:188",#[ed_ 2,{ on:=4,ground:=Go.Ground.gcOnly Go.Departure.lateStores }],none⟩
def o73_1_4:Oper:=⟨some 4,Op.assign (Operand.tmp 9),2, "function.go:188",#[ed_ 1,ep_ 0,ep_ 1,{ on:=2,ground:=Go.Ground.textOnly Go.Departure.lateStores },{ on:=3,ground:=Go.Ground.textOnly Go.Departure.lateStores }],none⟩
def o73_1_5:Oper:=⟨some 5,Op.assign (Operand.tmp 11),2, "function.go:188",#[ed_ 3,ec_ 4,ep_ 0,ep_ 1,ep_ 2,ep_ 3,ep_ 4],none⟩
def O73_1:Array Oper:=List.toArray (o73_1_0::o73_1_1::o73_1_2::o73_1_3::o73_1_4::o73_1_5::[])
theorem g73_1_0:O73_1[0]? = some o73_1_0:=rfl
theorem g73_1_1:O73_1[1]? = some o73_1_1:=rfl
theorem g73_1_2:O73_1[2]? = some o73_1_2:=rfl
theorem g73_1_3:O73_1[3]? = some o73_1_3:=rfl
theorem g73_1_4:O73_1[4]? = some o73_1_4:=rfl
theorem g73_1_5:O73_1[5]? = some o73_1_5:=rfl
theorem ns73_1:Region.noSelect O73_1=true:=by kernel_rfl
def c73_3:Code:=Code.region 1 O73_1 true
def o73_2_0:Oper:=⟨some 13,Op.move (Operand.tmp 5),2, "function.go:190",#[],none⟩
def o73_2_1:Oper:=⟨some 14,Op.binOp Go.BinOp.lss 2 (Operand.tmp 13) (Operand.const (Value.int IntKind.i64 0)) 2,4, "function.go:190",#[ed_ 0],none⟩
def o73_2_2:Oper:=⟨some 15,Op.move (Operand.tmp 14),4, "function.go:190",#[ed_ 1],none⟩
def o73_2_3:Oper:=⟨some 16,Op.move (Operand.tmp 4),2, "function.go:190",#[eg_ 2],some (2,true)⟩
def o73_2_4:Oper:=⟨some 17,Op.binOp Go.BinOp.neq 2 (Operand.tmp 16) (Operand.const (Value.int IntKind.i64 1)) 2,4, "function.go:190",#[ed_ 3,eg_ 2],some (2,true)⟩
def o73_2_5:Oper:=⟨some 18,Op.pick (Operand.tmp 15) (Operand.tmp 17) (Operand.const (Value.bool false)),4, "function.go:190",#[ed_ 2,ed_ 4],none⟩
def o73_2_6:Oper:=⟨some 19,Op.move (Operand.tmp 18),4, "function.go:190",#[ed_ 5,ec_ 2],none⟩
def o73_2_7:Oper:=⟨some 20,Op.move (Operand.tmp 4),2, "function.go:190",#[eg_ 6],some (6,true)⟩
def o73_2_8:Oper:=⟨some 21,Op.binOp Go.BinOp.neq 2 (Operand.tmp 20) (Operand.const (Value.int IntKind.i64 (-1))) 2,4, "function.go:190",#[ed_ 7,eg_ 6],some (6,true)⟩
def o73_2_9:Oper:=⟨some 22,Op.pick (Operand.tmp 19) (Operand.tmp 21) (Operand.const (Value.bool false)),4, "function.go:190",#[ed_ 6,ed_ 8],none⟩
def o73_2_10:Oper:=⟨some 12,Op.assign (Operand.tmp 22),4, "function.go:190",#[ed_ 9,ec_ 6],none⟩
def O73_2:Array Oper:=List.toArray (o73_2_0::o73_2_1::o73_2_2::o73_2_3::o73_2_4::o73_2_5::o73_2_6::o73_2_7::o73_2_8::o73_2_9::o73_2_10::[])
theorem g73_2_0:O73_2[0]? = some o73_2_0:=rfl
theorem g73_2_1:O73_2[1]? = some o73_2_1:=rfl
theorem g73_2_2:O73_2[2]? = some o73_2_2:=rfl
theorem g73_2_3:O73_2[3]? = some o73_2_3:=rfl
theorem g73_2_4:O73_2[4]? = some o73_2_4:=rfl
theorem g73_2_5:O73_2[5]? = some o73_2_5:=rfl
theorem g73_2_6:O73_2[6]? = some o73_2_6:=rfl
theorem g73_2_7:O73_2[7]? = some o73_2_7:=rfl
theorem g73_2_8:O73_2[8]? = some o73_2_8:=rfl
theorem g73_2_9:O73_2[9]? = some o73_2_9:=rfl
theorem g73_2_10:O73_2[10]? = some o73_2_10:=rfl
def c73_7:Code:=Code.region 2 O73_2 false
def o73_3_0:Oper:=⟨some 2,Op.assign (Operand.const (Value.int IntKind.i64 0)),2, "function.go:191",#[],none⟩
def o73_3_1:Oper:=⟨some 3,Op.assign (Operand.const (Value.string { data:=#[117,110,100,101,102,105,110,101,100] })),9, "function.go:191",#[ec_ 0,ep_ 0],none⟩
def O73_3:Array Oper:=List.toArray (o73_3_0::o73_3_1::[])
theorem g73_3_0:O73_3[0]? = some o73_3_0:=rfl
theorem g73_3_1:O73_3[1]? = some o73_3_1:=rfl
def c73_10:Code:=Code.region 3 O73_3 false
def c73_9:Code:=Code.seq c73_10 Code.ret
def o73_4_0:Oper:=⟨some 24,Op.move (Operand.tmp 5),2, "function.go:192",#[],none⟩
def o73_4_1:Oper:=⟨some 25,Op.binOp Go.BinOp.eql 2 (Operand.tmp 24) (Operand.const (Value.int IntKind.i64 0)) 2,4, "function.go:192",#[ed_ 0],none⟩
def o73_4_2:Oper:=⟨some 23,Op.assign (Operand.tmp 25),4, "function.go:192",#[ed_ 1],none⟩
def O73_4:Array Oper:=List.toArray (o73_4_0::o73_4_1::o73_4_2::[])
theorem g73_4_0:O73_4[0]? = some o73_4_0:=rfl
theorem g73_4_1:O73_4[1]? = some o73_4_1:=rfl
theorem g73_4_2:O73_4[2]? = some o73_4_2:=rfl
def c73_13:Code:=Code.region 4 O73_4 false
def o73_5_0:Oper:=⟨some 2,Op.assign (Operand.const (Value.int IntKind.i64 1)),2, "function.go:193",#[],none⟩
def o73_5_1:Oper:=⟨some 3,Op.assign (Operand.const (Value.string { data:=#[] })),9, "function.go:193",#[ec_ 0,ep_ 0],none⟩
def O73_5:Array Oper:=List.toArray (o73_5_0::o73_5_1::[])
theorem g73_5_0:O73_5[0]? = some o73_5_0:=rfl
theorem g73_5_1:O73_5[1]? = some o73_5_1:=rfl
def c73_16:Code:=Code.region 5 O73_5 false
def c73_15:Code:=Code.seq c73_16 Code.ret
def o73_6_0:Oper:=⟨some 27,Op.move (Operand.tmp 4),2, "function.go:194",#[],none⟩
def o73_6_1:Oper:=⟨some 28,Op.binOp Go.BinOp.geq 2 (Operand.tmp 27) (Operand.const (Value.int IntKind.i64 (-1))) 2,4, "function.go:194",#[ed_ 0],none⟩
def o73_6_2:Oper:=⟨some 29,Op.move (Operand.tmp 28),4, "function.go:194",#[ed_ 1],none⟩
def o73_6_3:Oper:=⟨some 30,Op.move (Operand.tmp 4),2, "function.go:194",#[eg_ 2],some (2,true)⟩
def o73_6_4:Oper:=⟨some 31,Op.binOp Go.BinOp.leq 2 (Operand.tmp 30) (Operand.const (Value.int IntKind.i64 1)) 2,4, "function.go:194",#[ed_ 3,eg_ 2],some (2,true)⟩
def o73_6_5:Oper:=⟨some 32,Op.pick (Operand.tmp 29) (Operand.tmp 31) (Operand.const (Value.bool false)),4, "function.go:194",#[ed_ 2,ed_ 4],none⟩
def o73_6_6:Oper:=⟨some 26,Op.assign (Operand.tmp 32),4, "function.go:194",#[ed_ 5,ec_ 2],none⟩
def O73_6:Array Oper:=List.toArray (o73_6_0::o73_6_1::o73_6_2::o73_6_3::o73_6_4::o73_6_5::o73_6_6::[])
theorem g73_6_0:O73_6[0]? = some o73_6_0:=rfl
theorem g73_6_1:O73_6[1]? = some o73_6_1:=rfl
theorem g73_6_2:O73_6[2]? = some o73_6_2:=rfl
theorem g73_6_3:O73_6[3]? = some o73_6_3:=rfl
theorem g73_6_4:O73_6[4]? = some o73_6_4:=rfl
theorem g73_6_5:O73_6[5]? = some o73_6_5:=rfl
theorem g73_6_6:O73_6[6]? = some o73_6_6:=rfl
def c73_19:Code:=Code.region 6 O73_6 false
def o73_7_0:Oper:=⟨some 33,Op.move (Operand.tmp 5),2, "function.go:195",#[],none⟩
def o73_7_1:Oper:=⟨some 34,Op.binOp Go.BinOp.and 2 (Operand.tmp 33) (Operand.const (Value.int IntKind.i64 1)) 2,2, "function.go:195",#[ed_ 0],none⟩
def o73_7_2:Oper:=⟨some 35,Op.binOp Go.BinOp.eql 2 (Operand.tmp 34) (Operand.const (Value.int IntKind.i64 0)) 2,4, "function.go:195",#[ed_ 1],none⟩
def O73_7:Array Oper:=List.toArray (o73_7_0::o73_7_1::o73_7_2::[])
theorem g73_7_0:O73_7[0]? = some o73_7_0:=rfl
theorem g73_7_1:O73_7[1]? = some o73_7_1:=rfl
theorem g73_7_2:O73_7[2]? = some o73_7_2:=rfl
def c73_23:Code:=Code.region 7 O73_7 false
def o73_8_0:Oper:=⟨some 36,Op.move (Operand.tmp 4),2, "function.go:196",#[],none⟩
def o73_8_1:Oper:=⟨some 37,Op.move (Operand.tmp 4),2, "function.go:196",#[],none⟩
def o73_8_2:Oper:=⟨some 38,Op.binOp Go.BinOp.mul 2 (Operand.tmp 36) (Operand.tmp 37) 2,2, "function.go:196",#[ed_ 0,ed_ 1],none⟩
def o73_8_3:Oper:=⟨some 4,Op.assign (Operand.tmp 38),2, "function.go:196",#[ed_ 2,ep_ 0,ep_ 1,ep_ 2],none⟩
def O73_8:Array Oper:=List.toArray (o73_8_0::o73_8_1::o73_8_2::o73_8_3::[])
theorem g73_8_0:O73_8[0]? = some o73_8_0:=rfl
theorem g73_8_1:O73_8[1]? = some o73_8_1:=rfl
theorem g73_8_2:O73_8[2]? = some o73_8_2:=rfl
theorem g73_8_3:O73_8[3]? = some o73_8_3:=rfl
def c73_25:Code:=Code.region 8 O73_8 false
def c73_24:Code:=Code.cond (Operand.tmp 35) c73_25 Code.skip
def c73_22:Code:=Code.seq c73_23 c73_24
def o73_9_0:Oper:=⟨some 39,Op.move (Operand.tmp 4),2, "function.go:198",#[],none⟩
def o73_9_1:Oper:=⟨some 2,Op.assign (Operand.tmp 39),2, "function.go:198",#[ed_ 0,ep_ 0],none⟩
def o73_9_2:Oper:=⟨some 3,Op.assign (Operand.const (Value.string { data:=#[] })),9, "function.go:198",#[ec_ 1,ep_ 0,ep_ 1],none⟩
def O73_9:Array Oper:=List.toArray (o73_9_0::o73_9_1::o73_9_2::[])
theorem g73_9_0:O73_9[0]? = some o73_9_0:=rfl
theorem g73_9_1:O73_9[1]? = some o73_9_1:=rfl
theorem g73_9_2:O73_9[2]? = some o73_9_2:=rfl
def c73_28:Code:=Code.region 9 O73_9 false
def c73_27:Code:=Code.seq c73_28 Code.ret
def c73_21:Code:=Code.seq c73_22 c73_27
def c73_20:Code:=Code.cond (Operand.tmp 26) c73_21 Code.skip
def c73_18:Code:=Code.seq c73_19 c73_20
def c73_14:Code:=Code.cond (Operand.tmp 23) c73_15 c73_18
def c73_12:Code:=Code.seq c73_13 c73_14
def c73_8:Code:=Code.cond (Operand.tmp 12) c73_9 c73_12
def c73_6:Code:=Code.seq c73_7 c73_8
def c73_5:Code:=Code.block 0 c73_6
def o73_10_0:Oper:=⟨some 6,Op.assign (Operand.const (Value.int IntKind.i64 1)),2, "function.go:200",#[],none⟩
def O73_10:Array Oper:=List.toArray (o73_10_0::[])
theorem g73_10_0:O73_10[0]? = some o73_10_0:=rfl
def c73_32:Code:=Code.region 10 O73_10 false
def o73_11_0:Oper:=⟨some 40,Op.move (Operand.tmp 5),2, "function.go:201",#[],none⟩
def o73_11_1:Oper:=⟨some 41,Op.move (Operand.const (Value.int IntKind.i64 0)),2, "function.go:201",#[],none⟩
def O73_11:Array Oper:=List.toArray (o73_11_0::o73_11_1::[])
theorem g73_11_0:O73_11[0]? = some o73_11_0:=rfl
theorem g73_11_1:O73_11[1]? = some o73_11_1:=rfl
def c73_35:Code:=Code.region 11 O73_11 false
def o73_12_0:Oper:=⟨some 42,Op.binOp Go.BinOp.lss 2 (Operand.tmp 41) (Operand.tmp 40) 2,4, "function.go:201",#[],none⟩
def O73_12:Array Oper:=List.toArray (o73_12_0::[])
theorem g73_12_0:O73_12[0]? = some o73_12_0:=rfl
def c73_39:Code:=Code.region 12 O73_12 false
def c73_43:Code:=Code.exit 1
def c73_41:Code:=Code.cond (Operand.tmp 42) Code.skip c73_43
def o73_13_0:Oper:=⟨some 7,Op.assign (Operand.const (Value.string { data:=#[] })),9, "function.go:202",#[],none⟩
def O73_13:Array Oper:=List.toArray (o73_13_0::[])
theorem g73_13_0:O73_13[0]? = some o73_13_0:=rfl
def c73_47:Code:=Code.region 13 O73_13 false
def o73_14_0:Oper:=⟨some 44,Op.move (Operand.tmp 6),2, "function.go:203",#[],none⟩
def o73_14_1:Oper:=⟨some 45,Op.move (Operand.tmp 4),2, "function.go:203",#[],none⟩
def o73_14_2:Oper:=⟨some 46,Op.build 60 #[(0,Operand.tmp 44),(1,Operand.tmp 45)],60, "function.go:203",#[ed_ 0,ed_ 1],none⟩
def o73_14_3:Oper:=⟨some 47,Op.call { callee:=Callee.value (Operand.func 67),args:=#[Operand.tmp 46],argTypes:=#[60] },61, "function.go:203",#[ed_ 2],none⟩
def o73_14_4:Oper:=⟨some 43,Op.move (Operand.tmp 47),61, "function.go:203",#[ed_ 3],none⟩
def o73_14_5:Oper:=⟨some 48,Op.extract (Operand.tmp 43) 0,2, "function.go:203",#[ed_ 4],none⟩
def o73_14_6:Oper:=⟨some 49,Op.extract (Operand.tmp 43) 1,9, "function.go:203",#[ed_ 4,{ on:=7,ground:=Go.Ground.gcOnly Go.Departure.lateStores }],none⟩
def o73_14_7:Oper:=⟨some 6,Op.assign (Operand.tmp 48),2, "function.go:203",#[ed_ 5,ec_ 3,ep_ 0,ep_ 1,ep_ 2,ep_ 3,ep_ 4,ep_ 5,{ on:=6,ground:=Go.Ground.textOnly Go.Departure.lateStores }],none⟩
def o73_14_8:Oper:=⟨some 7,Op.assign (Operand.tmp 49),9, "function.go:203",#[ed_ 6,ec_ 7,ep_ 0,ep_ 1,ep_ 2,ep_ 3,ep_ 4,ep_ 5,ep_ 6,ep_ 7],none⟩
def O73_14:Array Oper:=List.toArray (o73_14_0::o73_14_1::o73_14_2::o73_14_3::o73_14_4::o73_14_5::o73_14_6::o73_14_7::o73_14_8::[])
theorem g73_14_0:O73_14[0]? = some o73_14_0:=rfl
theorem g73_14_1:O73_14[1]? = some o73_14_1:=rfl
theorem g73_14_2:O73_14[2]? = some o73_14_2:=rfl
theorem g73_14_3:O73_14[3]? = some o73_14_3:=rfl
theorem g73_14_4:O73_14[4]? = some o73_14_4:=rfl
theorem g73_14_5:O73_14[5]? = some o73_14_5:=rfl
theorem g73_14_6:O73_14[6]? = some o73_14_6:=rfl
theorem g73_14_7:O73_14[7]? = some o73_14_7:=rfl
theorem g73_14_8:O73_14[8]? = some o73_14_8:=rfl
def c73_49:Code:=Code.region 14 O73_14 false
def o73_15_0:Oper:=⟨some 50,Op.move (Operand.tmp 7),9, "function.go:203",#[],none⟩
def o73_15_1:Oper:=⟨some 51,Op.binOp Go.BinOp.neq 9 (Operand.tmp 50) (Operand.const (Value.string { data:=#[] })) 9,4, "function.go:203",#[ed_ 0],none⟩
def O73_15:Array Oper:=List.toArray (o73_15_0::o73_15_1::[])
theorem g73_15_0:O73_15[0]? = some o73_15_0:=rfl
theorem g73_15_1:O73_15[1]? = some o73_15_1:=rfl
def c73_51:Code:=Code.region 15 O73_15 false
def o73_16_0:Oper:=⟨some 52,Op.move (Operand.tmp 7),9, "function.go:204",#[{ on:=1,ground:=Go.Ground.gcOnly Go.Departure.lateStores }],none⟩
def o73_16_1:Oper:=⟨some 2,Op.assign (Operand.const (Value.int IntKind.i64 0)),2, "function.go:204",#[{ on:=0,ground:=Go.Ground.textOnly Go.Departure.lateStores }],none⟩
def o73_16_2:Oper:=⟨some 3,Op.assign (Operand.tmp 52),9, "function.go:204",#[ed_ 0,ec_ 1,ep_ 0,ep_ 1],none⟩
def O73_16:Array Oper:=List.toArray (o73_16_0::o73_16_1::o73_16_2::[])
theorem g73_16_0:O73_16[0]? = some o73_16_0:=rfl
theorem g73_16_1:O73_16[1]? = some o73_16_1:=rfl
theorem g73_16_2:O73_16[2]? = some o73_16_2:=rfl
def c73_54:Code:=Code.region 16 O73_16 false
def c73_53:Code:=Code.seq c73_54 Code.ret
def c73_52:Code:=Code.cond (Operand.tmp 51) c73_53 Code.skip
def c73_50:Code:=Code.seq c73_51 c73_52
def c73_48:Code:=Code.seq c73_49 c73_50
def c73_46:Code:=Code.seq c73_47 c73_48
def c73_45:Code:=Code.block 2 c73_46
def o73_17_0:Oper:=⟨some 53,Op.binOp Go.BinOp.add 2 (Operand.tmp 41) (Operand.const (Value.int IntKind.i64 1)) 2,2, "function.go:201",#[],none⟩
def o73_17_1:Oper:=⟨some 41,Op.move (Operand.tmp 53),2, "function.go:201",#[ed_ 0],none⟩
def O73_17:Array Oper:=List.toArray (o73_17_0::o73_17_1::[])
theorem g73_17_0:O73_17[0]? = some o73_17_0:=rfl
theorem g73_17_1:O73_17[1]? = some o73_17_1:=rfl
def c73_57:Code:=Code.region 17 O73_17 false
def c73_44:Code:=Code.seq c73_45 c73_57
def c73_40:Code:=Code.seq c73_41 c73_44
def c73_38:Code:=Code.seq c73_39 c73_40
def c73_37:Code:=Code.loop c73_38
def c73_36:Code:=Code.block 1 c73_37
def c73_34:Code:=Code.seq c73_35 c73_36
def o73_18_0:Oper:=⟨some 54,Op.move (Operand.tmp 6),2, "function.go:207",#[],none⟩
def o73_18_1:Oper:=⟨some 2,Op.assign (Operand.tmp 54),2, "function.go:207",#[ed_ 0,ep_ 0],none⟩
def o73_18_2:Oper:=⟨some 3,Op.assign (Operand.const (Value.string { data:=#[] })),9, "function.go:207",#[ec_ 1,ep_ 0,ep_ 1],none⟩
def O73_18:Array Oper:=List.toArray (o73_18_0::o73_18_1::o73_18_2::[])
theorem g73_18_0:O73_18[0]? = some o73_18_0:=rfl
theorem g73_18_1:O73_18[1]? = some o73_18_1:=rfl
theorem g73_18_2:O73_18[2]? = some o73_18_2:=rfl
def c73_59:Code:=Code.region 18 O73_18 false
def c73_58:Code:=Code.seq c73_59 Code.ret
def c73_33:Code:=Code.seq c73_34 c73_58
def c73_31:Code:=Code.seq c73_32 c73_33
def c73_4:Code:=Code.seq c73_5 c73_31
def c73_2:Code:=Code.seq c73_3 c73_4
def c73_0:Code:=Code.seq c73_1 c73_2
theorem en73_67:Enters Try.prog 67:=enters_of Try.func67 (by kernel_rfl) rfl
theorem body73:Try.f73.body=some c73_0:=by kernel_rfl
set_option maxRecDepth 100000 in
set_option maxHeartbeats 4000000 in
theorem pow_t {W:World} {a b:Int} {f0:Act} {w0:World} (R:FrS 55 f0) (h4:f0.tmps[4]? = some (.int .i64 a)) (h5:f0.tmps[5]? = some (.int .i64 b)) (K1:Keep (fun g=>g < W.heap.size) W w0)  (HA:Hid (inR a)) (HB:Hid (inR b)) (HC:Hid (1 ≤ b∧(2 ≤ a∨a ≤ -2))):c73_31.wp Try.prog (bodyPost Try.prog Try.f73 (fun e w'=>e=.returned (.tuple #[.int .i64 (powR a b).1,.string (str (powR a b).2)])∧Keep (fun g=>g < W.heap.size) W w')) f0 w0:=by
 refine wp_seq (x:=c73_32) (y:=c73_33) ?_
 change (Code.region 10 O73_10 false).wp _ _ _ _
 refine reg_in (l:=[0]) rfl ?_
 have F:=fe_ R;clear R
 have Y:(execOp f0.eval o73_10_0).run Try.prog w0=.ok (.value (.int .i64 1)) w0:=by unfold o73_10_0;go_simp
 refine sw_ g73_10_0 Y F fun a1 F h6=>?_;clear Y
 refine st_end ?_
 replace h4:=F.of h4;replace h5:=F.of h5;have R:=F.r;clear F
 change (c73_33).wp _ _ _ _
 refine wp_seq (x:=c73_34) (y:=c73_58) ?_
 refine wp_seq (x:=c73_35) (y:=c73_36) ?_
 change (Code.region 11 O73_11 false).wp _ _ _ _
 refine reg_in (l:=[0,1]) rfl ?_
 have F:=fe_ R;clear R
 refine sw_ g73_11_0 (ym_ rfl (F.of h5)) F fun a2 F h40=>?_
 have Y:(execOp a2.eval o73_11_1).run Try.prog w0=.ok (.value (.int .i64 0)) w0:=by unfold o73_11_1;go_simp
 refine sv_ g73_11_1 Y fun a3 e=>?_;clear Y
 have h41:=pt_ F e;replace F:=pu_ F e;replace h40:=so_ e h40;clear e
 refine st_end ?_
 replace h4:=F.of h4;clear h5;replace h6:=F.of h6;have R:=F.r;clear F
 change (c73_36).wp _ _ _ _
 refine wp_block (id:=1) (c:=c73_37) ?_
 rw [show (1:Int)=a ^ 0 from (Int.pow_zero a).symm] at h6;have hinit:inR (a ^ 0):=(by rw [Int.pow_zero];decide);have hb1:=HC.out.1
 refine wp_loop_ghost (c:=c73_38) (fun n fX wX=>∃ j:Nat,n=(b - (j:Int)).toNat∧FrS 55 fX∧fX.tmps[4]? = some (.int .i64 a)∧fX.tmps[6]? = some (.int .i64 (a ^ j))∧fX.tmps[40]? = some (.int .i64 b)∧fX.tmps[41]? = some (.int .i64 (j:Int))∧Keep (fun g=>g < W.heap.size) W wX∧(j:Int) ≤ b∧inR (a ^ j)) ((b - ((0:Nat):Int)).toNat) ⟨0,rfl,R,h4,h6,h40,h41,K1,(by omega),hinit⟩ ?_
 clear R h4 h6 h40 h41 K1
 rintro n6 a4 w5 ⟨j,rfl,R,h4,h6,h40,h41,K1,hj,hjp⟩
 have HJ:=Lib.hid hjp;clear hjp
 have hq:=big_empty (a ^ j * a)
 refine wp_seq (x:=c73_39) (y:=c73_40) ?_
 change (Code.region 12 O73_12 false).wp _ _ _ _
 refine reg_in (l:=[0]) rfl ?_
 have F:=fe_ R;clear R
 obtain ⟨b7,hb7⟩:∃ x,(decide (((j:Int):Int) < (b:Int)))=x:=⟨_,rfl⟩
 have Y:(execOp a4.eval o73_12_0).run Try.prog w5=.ok (.value (.bool b7)) w5:=by have r40:=F.of h40;have r41:=F.of h41;rw [← hb7];unfold o73_12_0;go_simp
 refine sw_ g73_12_0 Y F fun a8 F h42=>?_;clear Y
 refine st_end ?_
 replace h4:=F.of h4;replace h6:=F.of h6;replace h40:=F.of h40;replace h41:=F.of h41;have R:=F.r;clear F
 change (c73_40).wp _ _ _ _
 refine wp_seq (x:=c73_41) (y:=c73_44) ?_
 cases b7 with
 | false =>
  have fb7:=hb7;clear hb7
  simp only [dd_] at fb7
  refine wp_cond_false (x:=Code.skip) (y:=c73_43) (eval_slot h42) ?_
  refine wp_exit ?_
  change (c73_58).wp _ _ _ _
  refine wp_seq (x:=c73_59) (y:=Code.ret) ?_
  change (Code.region 18 O73_18 false).wp _ _ _ _
  refine reg_in (l:=[0,1,2]) rfl ?_
  have F:=fe_ R;clear R
  refine sw_ g73_18_0 (ym_ rfl (F.of h6)) F fun a9 F h54=>?_
  refine sv_ g73_18_1 (ya_ rfl h54) fun a10 e=>?_
  clear h54;have h2:=pt_ F e;replace F:=pu_ F e;clear e
  have Y:(execOp a10.eval o73_18_2).run Try.prog w5=.ok (.value (.string (⟨#[]⟩))) w5:=by unfold o73_18_2;go_simp
  refine sv_ g73_18_2 Y fun a11 e=>?_;clear Y
  have h3:=pt_ F e;replace F:=pu_ F e;replace h2:=so_ e h2;clear e
  refine st_end ?_
  replace h4:=F.of h4;replace h6:=F.of h6;replace h40:=F.of h40;replace h41:=F.of h41;replace h42:=F.of h42;have R:=F.r;clear F
  change (Code.ret).wp _ _ _ _
  refine wp_ret ?_
  change bodyPost Try.prog Try.f73 (fun e w'=>e=.returned (.tuple #[.int .i64 (powR a b).1,.string (str (powR a b).2)])∧Keep (fun g=>g < W.heap.size) W w') .ret a11 w5
  refine ret_el2 rfl R.defers h2 h3 ?_
  exact ⟨by rw [pow_end (j:=j) (by omega) HJ.out];rfl,K1⟩
 | true =>
  have fb7:=hb7;clear hb7
  simp only [dd_] at fb7
  refine wp_cond_true (x:=Code.skip) (y:=c73_43) (eval_slot h42) ?_
  refine wp_skip ?_
  change (c73_44).wp _ _ _ _
  refine wp_seq (x:=c73_45) (y:=c73_57) ?_
  refine wp_block (id:=2) (c:=c73_46) ?_
  refine wp_seq (x:=c73_47) (y:=c73_48) ?_
  change (Code.region 13 O73_13 false).wp _ _ _ _
  refine reg_in (l:=[0]) rfl ?_
  have F:=fe_ R;clear R
  have Y:(execOp a8.eval o73_13_0).run Try.prog w5=.ok (.value (.string (⟨#[]⟩))) w5:=by unfold o73_13_0;go_simp
  refine sw_ g73_13_0 Y F fun a12 F h7=>?_;clear Y
  refine st_end ?_
  replace h4:=F.of h4;replace h6:=F.of h6;replace h40:=F.of h40;replace h41:=F.of h41;replace h42:=F.of h42;have R:=F.r;clear F
  change (c73_48).wp _ _ _ _
  refine wp_seq (x:=c73_49) (y:=c73_50) ?_
  change (Code.region 14 O73_14 false).wp _ _ _ _
  refine reg_in (l:=[0,1,2,3,4,5,6,7,8]) rfl ?_
  have F:=fe_ R;clear R
  refine sw_ g73_14_0 (ym_ rfl (F.of h6)) F fun a13 F h44=>?_
  refine sv_ g73_14_1 (ym_ rfl (F.of h4)) fun a14 e=>?_
  have h45:=pt_ F e;replace F:=pu_ F e;replace h44:=so_ e h44;clear e
  have Y:(execOp a14.eval o73_14_2).run Try.prog w5=.ok (.value (.agg #[.int .i64 (a ^ j),.int .i64 a])) w5:=by unfold o73_14_2;go_simp
  refine sv_ g73_14_2 Y fun a15 e=>?_;clear Y
  have h46:=pt_ F e;replace F:=pu_ F e;replace h44:=so_ e h44;replace h45:=so_ e h45;clear e
  refine st_call g73_14_3 rfl (wanted_free rfl) (yc1_ en73_67 rfl h46) ((mul_any _ _ _ HJ.out HA.out).mono ?_)
  rintro e9 w16 ⟨rfl,kk⟩
  replace K1:=keep_onto K1 kk
  clear kk
  refine ⟨_,rfl,fun a17 e=>?_⟩
  have h47:=pt_ F e;replace F:=pu_ F e;replace h44:=so_ e h44;replace h45:=so_ e h45;replace h46:=so_ e h46;clear e
  refine sv_ g73_14_4 (ym_ rfl h47) fun a18 e=>?_
  have h43:=pt_ F e;replace F:=pu_ F e;replace h44:=so_ e h44;replace h45:=so_ e h45;replace h46:=so_ e h46;replace h47:=so_ e h47;clear e
  refine sv_ g73_14_5 (ye20_ rfl h43) fun a19 e=>?_
  have h48:=pt_ F e;replace F:=pu_ F e;replace h43:=so_ e h43;replace h44:=so_ e h44;replace h45:=so_ e h45;replace h46:=so_ e h46;replace h47:=so_ e h47;clear e
  refine sv_ g73_14_6 (ye21_ rfl h43) fun a20 e=>?_
  have h49:=pt_ F e;replace F:=pu_ F e;replace h43:=so_ e h43;replace h44:=so_ e h44;replace h45:=so_ e h45;replace h46:=so_ e h46;replace h47:=so_ e h47;replace h48:=so_ e h48;clear e
  refine sv_ g73_14_7 (ya_ rfl h48) fun a21 e=>?_
  clear h6;have h6:=pt_ F e;replace F:=pu_ F e;replace h43:=so_ e h43;replace h44:=so_ e h44;replace h45:=so_ e h45;replace h46:=so_ e h46;replace h47:=so_ e h47;replace h48:=so_ e h48;replace h49:=so_ e h49;clear e
  refine sv_ g73_14_8 (ya_ rfl h49) fun a22 e=>?_
  clear h7;have h7:=pt_ F e;replace F:=pu_ F e;replace h6:=so_ e h6;replace h43:=so_ e h43;replace h44:=so_ e h44;replace h45:=so_ e h45;replace h46:=so_ e h46;replace h47:=so_ e h47;replace h48:=so_ e h48;replace h49:=so_ e h49;clear e
  refine st_end ?_
  replace h4:=F.of h4;replace h40:=F.of h40;replace h41:=F.of h41;replace h42:=F.of h42;have R:=F.r;clear F
  change (c73_50).wp _ _ _ _
  refine wp_seq (x:=c73_51) (y:=c73_52) ?_
  change (Code.region 15 O73_15 false).wp _ _ _ _
  refine reg_in (l:=[0,1]) rfl ?_
  have F:=fe_ R;clear R
  refine sw_ g73_15_0 (ym_ rfl (F.of h7)) F fun a23 F h50=>?_
  obtain ⟨b24,hb24⟩:∃ x,(!decide (inR (a ^ j * a)))=x:=⟨_,rfl⟩
  have Y:(execOp a23.eval o73_15_1).run Try.prog w16=.ok (.value (.bool b24)) w16:=by rw [← hb24];unfold o73_15_1;go_simp
  refine sv_ g73_15_1 Y fun a25 e=>?_;clear Y
  have h51:=pt_ F e;replace F:=pu_ F e;replace h50:=so_ e h50;clear e
  refine st_end ?_
  replace h4:=F.of h4;replace h6:=F.of h6;replace h7:=F.of h7;replace h40:=F.of h40;replace h41:=F.of h41;replace h42:=F.of h42;replace h43:=F.of h43;replace h44:=F.of h44;replace h45:=F.of h45;replace h46:=F.of h46;replace h47:=F.of h47;replace h48:=F.of h48;replace h49:=F.of h49;have R:=F.r;clear F
  change (c73_52).wp _ _ _ _
  cases b24 with
  | false =>
   have fb24:=hb24;clear hb24
   simp only [dd_] at fb24
   refine wp_cond_false (x:=c73_53) (y:=Code.skip) (eval_slot h51) ?_
   refine wp_skip ?_
   change (c73_57).wp _ _ _ _
   change (Code.region 17 O73_17 false).wp _ _ _ _
   refine reg_in (l:=[0,1]) rfl ?_
   have F:=fe_ R;clear R
   have Y:(execOp a25.eval o73_17_0).run Try.prog w16=.ok (.value (.int .i64 ((j:Int) + 1))) w16:=by have r41:=F.of h41;have hwj:IntKind.i64.wrap ((j:Int) + 1)=(j:Int) + 1:=(by have hb:=HB.out;unfold inR at hb;rw [IntKind.wrap_i64];omega);unfold o73_17_0;go_simp
   refine sw_ g73_17_0 Y F fun a26 F h53=>?_;clear Y
   refine sv_ g73_17_1 (ym_ rfl h53) fun a27 e=>?_
   clear h41;have h41:=pt_ F e;replace F:=pu_ F e;replace h53:=so_ e h53;clear e
   refine st_end ?_
   replace h4:=F.of h4;replace h6:=F.of h6;replace h7:=F.of h7;replace h40:=F.of h40;replace h42:=F.of h42;replace h43:=F.of h43;replace h44:=F.of h44;replace h45:=F.of h45;replace h46:=F.of h46;replace h47:=F.of h47;replace h48:=F.of h48;replace h49:=F.of h49;replace h50:=F.of h50;replace h51:=F.of h51;have R:=F.r;clear F
   have hz9:inR (a ^ j * a):=by assumption
   rw [show (big (a ^ j * a)).1=a ^ (j + 1) by rw [big_is rfl hz9,Int.pow_succ]] at h6
   exact ⟨_,(by omega),j + 1,rfl,R,h4,h6,h40,h41,K1,(by omega),(by rw [Int.pow_succ];exact hz9)⟩
  | true =>
   have fb24:=hb24;clear hb24
   simp only [dd_] at fb24
   refine wp_cond_true (x:=c73_53) (y:=Code.skip) (eval_slot h51) ?_
   refine wp_seq (x:=c73_54) (y:=Code.ret) ?_
   change (Code.region 16 O73_16 false).wp _ _ _ _
   refine reg_in (l:=[0,1,2]) rfl ?_
   have F:=fe_ R;clear R
   refine sw_ g73_16_0 (ym_ rfl (F.of h7)) F fun a28 F h52=>?_
   have Y:(execOp a28.eval o73_16_1).run Try.prog w16=.ok (.value (.int .i64 0)) w16:=by unfold o73_16_1;go_simp
   refine sv_ g73_16_1 Y fun a29 e=>?_;clear Y
   have h2:=pt_ F e;replace F:=pu_ F e;replace h52:=so_ e h52;clear e
   refine sv_ g73_16_2 (ya_ rfl h52) fun a30 e=>?_
   have h3:=pt_ F e;replace F:=pu_ F e;replace h2:=so_ e h2;replace h52:=so_ e h52;clear e
   refine st_end ?_
   replace h4:=F.of h4;replace h6:=F.of h6;replace h7:=F.of h7;replace h40:=F.of h40;replace h41:=F.of h41;replace h42:=F.of h42;replace h43:=F.of h43;replace h44:=F.of h44;replace h45:=F.of h45;replace h46:=F.of h46;replace h47:=F.of h47;replace h48:=F.of h48;replace h49:=F.of h49;replace h50:=F.of h50;replace h51:=F.of h51;have R:=F.r;clear F
   change (Code.ret).wp _ _ _ _
   refine wp_ret ?_
   change bodyPost Try.prog Try.f73 (fun e w'=>e=.returned (.tuple #[.int .i64 (powR a b).1,.string (str (powR a b).2)])∧Keep (fun g=>g < W.heap.size) W w') .ret a30 w16
   refine ret_el2 rfl R.defers h2 h3 ?_
   exact ⟨by rw [pow_over (j:=j) (by omega) (by assumption) HC.out.2,big_not (by assumption)],K1⟩
set_option maxRecDepth 100000 in
set_option maxHeartbeats 4000000 in
theorem pow_w {W:World} {a b:Int} {f0:Act} {w0:World} (R:FrS 55 f0) (h0:f0.tmps[0]? = some (.agg #[.int .i64 a,.int .i64 b])) (K1:Keep (fun g=>g < W.heap.size) W w0)  (HA:Hid (inR a)) (HB:Hid (inR b)):c73_0.wp Try.prog (bodyPost Try.prog Try.f73 (fun e w'=>e=.returned (.tuple #[.int .i64 (powR a b).1,.string (str (powR a b).2)])∧Keep (fun g=>g < W.heap.size) W w')) f0 w0:=by
 refine wp_seq (x:=c73_1) (y:=c73_2) ?_
 change (Code.region 0 O73_0 false).wp _ _ _ _
 refine reg_in (l:=[0,1,2]) rfl ?_
 have F:=fe_ R;clear R
 have Y:(execOp f0.eval o73_0_0).run Try.prog w0=.ok (.value (.pointer (some ⟨w0.heap.size,0,none⟩))) (w0.alloc (.cells #[.int .i64 a,.int .i64 b] 60)):=by have r0:=F.of h0;unfold o73_0_0;go_simp
 have B31:=Blk.new w0 60 #[.int .i64 a,.int .i64 b]
 obtain ⟨w32,hw⟩:∃ x,x=w0.alloc (.cells #[.int .i64 a,.int .i64 b] 60):=⟨_,rfl⟩;rw [← hw] at Y B31
 obtain ⟨b31,hb⟩:∃ x,x=w0.heap.size:=⟨_,rfl⟩;rw [← hb] at Y B31
 have LK1_b31:=lk_ hb K1;replace K1:=ka_ hw K1;clear hw hb
 refine sw_ g73_0_0 Y F fun a33 F h1=>?_;clear Y
 have Y:(execOp a33.eval o73_0_1).run Try.prog w32=.ok (.value (.int .i64 0)) w32:=by unfold o73_0_1;go_simp
 refine sv_ g73_0_1 Y fun a34 e=>?_;clear Y
 have h2:=pt_ F e;replace F:=pu_ F e;replace h1:=so_ e h1;clear e
 have Y:(execOp a34.eval o73_0_2).run Try.prog w32=.ok (.value (.string (⟨#[]⟩))) w32:=by unfold o73_0_2;go_simp
 refine sv_ g73_0_2 Y fun a35 e=>?_;clear Y
 have h3:=pt_ F e;replace F:=pu_ F e;replace h1:=so_ e h1;replace h2:=so_ e h2;clear e
 refine st_end ?_
 clear h0;have R:=F.r;clear F
 change (c73_2).wp _ _ _ _
 refine wp_seq (x:=c73_3) (y:=c73_4) ?_
 change (Code.region 1 O73_1 true).wp _ _ _ _
 have D38:=B31
 have K36:=(Keep.refl (fun g=>g < w32.heap.size) w32).drew
 have EK1:=K1
 refine dr_in (S:=(fun W=>Keep (fun g=>g < w32.heap.size) w32 W)) (n:=6) (l:=lb_ 6 0) (by kernel_rfl) K36 rfl (by kernel_rfl) ?_
 replace K1:=K1.drew
 replace B31:=B31.drew
 generalize w32.drew=w37 at K36 K1 B31 ⊢
 have F:=fe_ R;clear R
 have Y:∀ W,Keep (fun g=>g < w32.heap.size) w32 W→(execOp a35.eval o73_1_0).run Try.prog W=.ok (.value (.pointer (some ⟨b31,0,none⟩))) W:=by intro W7 hS;have r1:=F.of h1;unfold o73_1_0;go_simp
 refine dt_ (i:=0) (l':=(lb_ 6 1)) g73_1_0 rfl ns73_1 (wanted_free rfl) K36 Y fun a39 e=>?_;clear Y
 have h8:=pt_ F e;replace F:=pu_ F e;clear e
 have Y:∀ W,Keep (fun g=>g < w32.heap.size) w32 W→(execOp a39.eval o73_1_1).run Try.prog W=.ok (.value (.int .i64 a)) W:=by intro W7 hS;have D:=D38.keep hS D38.lt;have qq0:W7.cell? ⟨b31,0,none⟩=some (.int .i64 a):=D.cell 0;have qq1:W7.cell? ⟨b31,1,none⟩=some (.int .i64 b):=D.cell 1;unfold o73_1_1;go_simp
 refine dt_ (i:=1) (l':=(lb_ 6 3)) g73_1_1 rfl ns73_1 (wanted_free rfl) K36 Y fun a40 e=>?_;clear Y
 clear h8;have h9:=pt_ F e;replace F:=pu_ F e;clear e
 have Y:∀ W,Keep (fun g=>g < w32.heap.size) w32 W→(execOp a40.eval o73_1_2).run Try.prog W=.ok (.value (.pointer (some ⟨b31,1,none⟩))) W:=by intro W7 hS;have r1:=F.of h1;unfold o73_1_2;go_simp
 refine dt_ (i:=2) (l':=(lb_ 6 7)) g73_1_2 rfl ns73_1 (wanted_free rfl) K36 Y fun a41 e=>?_;clear Y
 have h10:=pt_ F e;replace F:=pu_ F e;replace h9:=so_ e h9;clear e
 have Y:∀ W,Keep (fun g=>g < w32.heap.size) w32 W→(execOp a41.eval o73_1_3).run Try.prog W=.ok (.value (.int .i64 b)) W:=by intro W7 hS;have D:=D38.keep hS D38.lt;have qq0:W7.cell? ⟨b31,0,none⟩=some (.int .i64 a):=D.cell 0;have qq1:W7.cell? ⟨b31,1,none⟩=some (.int .i64 b):=D.cell 1;unfold o73_1_3;go_simp
 refine dt_ (i:=3) (l':=(lb_ 6 15)) g73_1_3 rfl ns73_1 (wanted_free rfl) K36 Y fun a42 e=>?_;clear Y
 clear h10;have h11:=pt_ F e;replace F:=pu_ F e;replace h9:=so_ e h9;clear e
 refine dt_ (i:=4) (l':=(lb_ 6 31)) g73_1_4 rfl ns73_1 (wanted_free rfl) K36 (fun _ _=>(ya_ rfl h9)) fun a43 e=>?_
 clear h9;have h4:=pt_ F e;replace F:=pu_ F e;replace h11:=so_ e h11;clear e
 refine dt_ (i:=5) (l':=(lb_ 6 63)) g73_1_5 rfl ns73_1 (wanted_free rfl) K36 (fun _ _=>(ya_ rfl h11)) fun a44 e=>?_
 clear h11;have h5:=pt_ F e;replace F:=pu_ F e;replace h4:=so_ e h4;clear e
 refine dr_end (by kernel_rfl) ?_
 clear h1;replace h2:=F.of h2;replace h3:=F.of h3;have R:=F.r;clear F
 clear K36 EK1 D38
 change (c73_4).wp _ _ _ _
 refine wp_seq (x:=c73_5) (y:=c73_31) ?_
 refine wp_block (id:=0) (c:=c73_6) ?_
 refine wp_seq (x:=c73_7) (y:=c73_8) ?_
 change (Code.region 2 O73_2 false).wp _ _ _ _
 refine reg_in (l:=[0,1,2,3,4,5,6,7,8,9,10]) rfl ?_
 have F:=fe_ R;clear R
 refine sw_ g73_2_0 (ym_ rfl (F.of h5)) F fun a45 F h13=>?_
 obtain ⟨b46,hb46⟩:∃ x,(decide ((b:Int) < (0:Int)))=x:=⟨_,rfl⟩
 have Y:(execOp a45.eval o73_2_1).run Try.prog w37=.ok (.value (.bool b46)) w37:=by rw [← hb46];unfold o73_2_1;go_simp
 refine sw_ g73_2_1 Y F fun a47 F h14=>?_;clear Y h13
 refine sv_ g73_2_2 (ym_ rfl h14) fun a48 e=>?_
 clear h14;have h15:=pt_ F e;replace F:=pu_ F e;clear e
 cases b46 with
 | false =>
  have fb46:=hb46;clear hb46
  simp only [dd_] at fb46
  refine st_not g73_2_3 rfl (wanted_is (j:=2) (d:=15) rfl rfl h15 rfl) fun a49 e=>?_
  have h16:=pt_ F e;replace F:=pu_ F e;replace h15:=so_ e h15;clear e
  refine st_not g73_2_4 rfl (wanted_is (j:=2) (d:=15) rfl rfl h15 rfl) fun a50 e=>?_
  clear h16;have h17:=pt_ F e;replace F:=pu_ F e;replace h15:=so_ e h15;clear e
  have Y:(execOp a50.eval o73_2_5).run Try.prog w37=.ok (.value (.bool false)) w37:=by unfold o73_2_5;go_simp
  refine sw_ g73_2_5 Y F fun a51 F h18=>?_;clear Y h15 h17
  refine sv_ g73_2_6 (ym_ rfl h18) fun a52 e=>?_
  clear h18;have h19:=pt_ F e;replace F:=pu_ F e;clear e
  refine st_not g73_2_7 rfl (wanted_is (j:=6) (d:=19) rfl rfl h19 rfl) fun a53 e=>?_
  have h20:=pt_ F e;replace F:=pu_ F e;replace h19:=so_ e h19;clear e
  refine st_not g73_2_8 rfl (wanted_is (j:=6) (d:=19) rfl rfl h19 rfl) fun a54 e=>?_
  clear h20;have h21:=pt_ F e;replace F:=pu_ F e;replace h19:=so_ e h19;clear e
  have Y:(execOp a54.eval o73_2_9).run Try.prog w37=.ok (.value (.bool false)) w37:=by unfold o73_2_9;go_simp
  refine sw_ g73_2_9 Y F fun a55 F h22=>?_;clear Y h19 h21
  refine sv_ g73_2_10 (ya_ rfl h22) fun a56 e=>?_
  clear h22;have h12:=pt_ F e;replace F:=pu_ F e;clear e
  refine st_end ?_
  replace h2:=F.of h2;replace h3:=F.of h3;replace h4:=F.of h4;replace h5:=F.of h5;have R:=F.r;clear F
  change (c73_8).wp _ _ _ _
  refine wp_cond_false (x:=c73_9) (y:=c73_12) (eval_slot h12) ?_
  refine wp_seq (x:=c73_13) (y:=c73_14) ?_
  change (Code.region 4 O73_4 false).wp _ _ _ _
  refine reg_in (l:=[0,1,2]) rfl ?_
  have F:=fe_ R;clear R
  refine sw_ g73_4_0 (ym_ rfl (F.of h5)) F fun a57 F h24=>?_
  obtain ⟨b58,hb58⟩:∃ x,(((b:Int) == (0:Int)))=x:=⟨_,rfl⟩
  have Y:(execOp a57.eval o73_4_1).run Try.prog w37=.ok (.value (.bool b58)) w37:=by rw [← hb58];unfold o73_4_1;go_simp
  refine sw_ g73_4_1 Y F fun a59 F h25=>?_;clear Y h24
  refine sv_ g73_4_2 (ya_ rfl h25) fun a60 e=>?_
  clear h25;have h23:=pt_ F e;replace F:=pu_ F e;clear e
  refine st_end ?_
  replace h2:=F.of h2;replace h3:=F.of h3;replace h4:=F.of h4;replace h5:=F.of h5;clear h12;have R:=F.r;clear F
  change (c73_14).wp _ _ _ _
  cases b58 with
  | false =>
   have fb58:=hb58;clear hb58
   simp only [dd_] at fb58
   refine wp_cond_false (x:=c73_15) (y:=c73_18) (eval_slot h23) ?_
   refine wp_seq (x:=c73_19) (y:=c73_20) ?_
   change (Code.region 6 O73_6 false).wp _ _ _ _
   refine reg_in (l:=[0,1,2,3,4,5,6]) rfl ?_
   have F:=fe_ R;clear R
   refine sw_ g73_6_0 (ym_ rfl (F.of h4)) F fun a61 F h27=>?_
   obtain ⟨b62,hb62⟩:∃ x,(decide ((-1:Int) ≤ (a:Int)))=x:=⟨_,rfl⟩
   have Y:(execOp a61.eval o73_6_1).run Try.prog w37=.ok (.value (.bool b62)) w37:=by rw [← hb62];unfold o73_6_1;go_simp
   refine sw_ g73_6_1 Y F fun a63 F h28=>?_;clear Y h27
   refine sv_ g73_6_2 (ym_ rfl h28) fun a64 e=>?_
   clear h28;have h29:=pt_ F e;replace F:=pu_ F e;clear e
   cases b62 with
   | false =>
    have fb62:=hb62;clear hb62
    simp only [dd_] at fb62
    refine st_not g73_6_3 rfl (wanted_is (j:=2) (d:=29) rfl rfl h29 rfl) fun a65 e=>?_
    have h30:=pt_ F e;replace F:=pu_ F e;replace h29:=so_ e h29;clear e
    refine st_not g73_6_4 rfl (wanted_is (j:=2) (d:=29) rfl rfl h29 rfl) fun a66 e=>?_
    clear h30;have h31:=pt_ F e;replace F:=pu_ F e;replace h29:=so_ e h29;clear e
    have Y:(execOp a66.eval o73_6_5).run Try.prog w37=.ok (.value (.bool false)) w37:=by unfold o73_6_5;go_simp
    refine sw_ g73_6_5 Y F fun a67 F h32=>?_;clear Y h29 h31
    refine sv_ g73_6_6 (ya_ rfl h32) fun a68 e=>?_
    clear h32;have h26:=pt_ F e;replace F:=pu_ F e;clear e
    refine st_end ?_
    replace h2:=F.of h2;replace h3:=F.of h3;replace h4:=F.of h4;replace h5:=F.of h5;clear h23;have R:=F.r;clear F
    change (c73_20).wp _ _ _ _
    refine wp_cond_false (x:=c73_21) (y:=Code.skip) (eval_slot h26) ?_
    refine wp_skip ?_
    exact pow_t (W:=W) R h4 h5 K1 HA HB (Lib.hid (by omega))
   | true =>
    have fb62:=hb62;clear hb62
    simp only [dd_] at fb62
    refine st_val g73_6_3 rfl (wanted_is (j:=2) (d:=29) rfl rfl h29 rfl) (ym_ rfl (F.of h4)) fun a69 e=>?_
    have h30:=pt_ F e;replace F:=pu_ F e;replace h29:=so_ e h29;clear e
    obtain ⟨b70,hb70⟩:∃ x,(decide ((a:Int) ≤ (1:Int)))=x:=⟨_,rfl⟩
    have Y:(execOp a69.eval o73_6_4).run Try.prog w37=.ok (.value (.bool b70)) w37:=by rw [← hb70];unfold o73_6_4;go_simp
    refine st_val g73_6_4 rfl (wanted_is (j:=2) (d:=29) rfl rfl h29 rfl) Y fun a71 e=>?_;clear Y
    clear h30;have h31:=pt_ F e;replace F:=pu_ F e;replace h29:=so_ e h29;clear e
    have Y:(execOp a71.eval o73_6_5).run Try.prog w37=.ok (.value (.bool b70)) w37:=by unfold o73_6_5;go_simp
    refine sw_ g73_6_5 Y F fun a72 F h32=>?_;clear Y h29 h31
    refine sv_ g73_6_6 (ya_ rfl h32) fun a73 e=>?_
    clear h32;have h26:=pt_ F e;replace F:=pu_ F e;clear e
    refine st_end ?_
    replace h2:=F.of h2;replace h3:=F.of h3;replace h4:=F.of h4;replace h5:=F.of h5;clear h23;have R:=F.r;clear F
    change (c73_20).wp _ _ _ _
    cases b70 with
    | false =>
     have fb70:=hb70;clear hb70
     simp only [dd_] at fb70
     refine wp_cond_false (x:=c73_21) (y:=Code.skip) (eval_slot h26) ?_
     refine wp_skip ?_
     exact pow_t (W:=W) R h4 h5 K1 HA HB (Lib.hid (by omega))
    | true =>
     have fb70:=hb70;clear hb70
     simp only [dd_] at fb70
     refine wp_cond_true (x:=c73_21) (y:=Code.skip) (eval_slot h26) ?_
     refine wp_seq (x:=c73_22) (y:=c73_27) ?_
     refine wp_seq (x:=c73_23) (y:=c73_24) ?_
     change (Code.region 7 O73_7 false).wp _ _ _ _
     refine reg_in (l:=[0,1,2]) rfl ?_
     have F:=fe_ R;clear R
     refine sw_ g73_7_0 (ym_ rfl (F.of h5)) F fun a74 F h33=>?_
     have Y:(execOp a74.eval o73_7_1).run Try.prog w37=.ok (.value (.int .i64 (bits .and .i64 b 1))) w37:=by unfold o73_7_1;go_simp
     refine sw_ g73_7_1 Y F fun a75 F h34=>?_;clear Y h33
     obtain ⟨b76,hb76⟩:∃ x,(((bits .and .i64 b 1:Int) == (0:Int)))=x:=⟨_,rfl⟩
     have Y:(execOp a75.eval o73_7_2).run Try.prog w37=.ok (.value (.bool b76)) w37:=by rw [← hb76];unfold o73_7_2;go_simp
     refine sw_ g73_7_2 Y F fun a77 F h35=>?_;clear Y h34
     refine st_end ?_
     replace h2:=F.of h2;replace h3:=F.of h3;replace h4:=F.of h4;replace h5:=F.of h5;clear h26;have R:=F.r;clear F
     change (c73_24).wp _ _ _ _
     cases b76 with
     | false =>
      have fb76:=hb76;clear hb76
      simp only [dd_] at fb76
      refine wp_cond_false (x:=c73_25) (y:=Code.skip) (eval_slot h35) ?_
      refine wp_skip ?_
      change (c73_27).wp _ _ _ _
      refine wp_seq (x:=c73_28) (y:=Code.ret) ?_
      change (Code.region 9 O73_9 false).wp _ _ _ _
      refine reg_in (l:=[0,1,2]) rfl ?_
      have F:=fe_ R;clear R
      refine sw_ g73_9_0 (ym_ rfl (F.of h4)) F fun a78 F h39=>?_
      refine sv_ g73_9_1 (ya_ rfl h39) fun a79 e=>?_
      clear h39 h2;have h2:=pt_ F e;replace F:=pu_ F e;clear e
      have Y:(execOp a79.eval o73_9_2).run Try.prog w37=.ok (.value (.string (⟨#[]⟩))) w37:=by unfold o73_9_2;go_simp
      refine sv_ g73_9_2 Y fun a80 e=>?_;clear Y
      clear h3;have h3:=pt_ F e;replace F:=pu_ F e;replace h2:=so_ e h2;clear e
      refine st_end ?_
      replace h4:=F.of h4;replace h5:=F.of h5;clear h35;have R:=F.r;clear F
      change (Code.ret).wp _ _ _ _
      refine wp_ret ?_
      change bodyPost Try.prog Try.f73 (fun e w'=>e=.returned (.tuple #[.int .i64 (powR a b).1,.string (str (powR a b).2)])∧Keep (fun g=>g < W.heap.size) W w') .ret a80 w37
      refine ret_el2 rfl R.defers h2 h3 ?_
      have ha:=HA.out;have hb:=HB.out;try simp only [and_one] at *
      first | exact ⟨by rw [pow_zero' (by omega)];rfl,K1⟩ | exact ⟨by rw [pow_undef (by omega) (by omega) (by omega)];rfl,K1⟩ | exact ⟨by rw [pow_small (by omega) (by omega) (by omega)];first | (rw [if_pos (by omega),wrap_sq (by omega) (by omega)];rfl) | (rw [if_neg (by omega)];rfl),K1⟩ | exact ⟨by rw [pow_neg (by omega) (by omega)];first | (rw [if_pos (by omega),wrap_sq (by omega) (by omega)];rfl) | (rw [if_neg (by omega)];rfl),K1⟩
     | true =>
      have fb76:=hb76;clear hb76
      simp only [dd_] at fb76
      refine wp_cond_true (x:=c73_25) (y:=Code.skip) (eval_slot h35) ?_
      change (Code.region 8 O73_8 false).wp _ _ _ _
      refine reg_in (l:=[0,1,2,3]) rfl ?_
      have F:=fe_ R;clear R
      refine sw_ g73_8_0 (ym_ rfl (F.of h4)) F fun a81 F h36=>?_
      refine sv_ g73_8_1 (ym_ rfl (F.of h4)) fun a82 e=>?_
      have h37:=pt_ F e;replace F:=pu_ F e;replace h36:=so_ e h36;clear e
      have Y:(execOp a82.eval o73_8_2).run Try.prog w37=.ok (.value (.int .i64 (IntKind.i64.wrap (a * a)))) w37:=by unfold o73_8_2;go_simp
      refine sw_ g73_8_2 Y F fun a83 F h38=>?_;clear Y h36 h37
      refine sv_ g73_8_3 (ya_ rfl h38) fun a84 e=>?_
      clear h38 h4;have h4:=pt_ F e;replace F:=pu_ F e;clear e
      refine st_end ?_
      replace h2:=F.of h2;replace h3:=F.of h3;replace h5:=F.of h5;clear h35;have R:=F.r;clear F
      change (c73_27).wp _ _ _ _
      refine wp_seq (x:=c73_28) (y:=Code.ret) ?_
      change (Code.region 9 O73_9 false).wp _ _ _ _
      refine reg_in (l:=[0,1,2]) rfl ?_
      have F:=fe_ R;clear R
      refine sw_ g73_9_0 (ym_ rfl (F.of h4)) F fun a85 F h39=>?_
      refine sv_ g73_9_1 (ya_ rfl h39) fun a86 e=>?_
      clear h39 h2;have h2:=pt_ F e;replace F:=pu_ F e;clear e
      have Y:(execOp a86.eval o73_9_2).run Try.prog w37=.ok (.value (.string (⟨#[]⟩))) w37:=by unfold o73_9_2;go_simp
      refine sv_ g73_9_2 Y fun a87 e=>?_;clear Y
      clear h3;have h3:=pt_ F e;replace F:=pu_ F e;replace h2:=so_ e h2;clear e
      refine st_end ?_
      replace h4:=F.of h4;replace h5:=F.of h5;have R:=F.r;clear F
      change (Code.ret).wp _ _ _ _
      refine wp_ret ?_
      change bodyPost Try.prog Try.f73 (fun e w'=>e=.returned (.tuple #[.int .i64 (powR a b).1,.string (str (powR a b).2)])∧Keep (fun g=>g < W.heap.size) W w') .ret a87 w37
      refine ret_el2 rfl R.defers h2 h3 ?_
      have ha:=HA.out;have hb:=HB.out;try simp only [and_one] at *
      first | exact ⟨by rw [pow_zero' (by omega)];rfl,K1⟩ | exact ⟨by rw [pow_undef (by omega) (by omega) (by omega)];rfl,K1⟩ | exact ⟨by rw [pow_small (by omega) (by omega) (by omega)];first | (rw [if_pos (by omega),wrap_sq (by omega) (by omega)];rfl) | (rw [if_neg (by omega)];rfl),K1⟩ | exact ⟨by rw [pow_neg (by omega) (by omega)];first | (rw [if_pos (by omega),wrap_sq (by omega) (by omega)];rfl) | (rw [if_neg (by omega)];rfl),K1⟩
  | true =>
   have fb58:=hb58;clear hb58
   simp only [dd_] at fb58
   refine wp_cond_true (x:=c73_15) (y:=c73_18) (eval_slot h23) ?_
   refine wp_seq (x:=c73_16) (y:=Code.ret) ?_
   change (Code.region 5 O73_5 false).wp _ _ _ _
   refine reg_in (l:=[0,1]) rfl ?_
   have F:=fe_ R;clear R
   have Y:(execOp a60.eval o73_5_0).run Try.prog w37=.ok (.value (.int .i64 1)) w37:=by unfold o73_5_0;go_simp
   refine sw_ g73_5_0 Y F fun a88 F h2=>?_;clear Y
   have Y:(execOp a88.eval o73_5_1).run Try.prog w37=.ok (.value (.string (⟨#[]⟩))) w37:=by unfold o73_5_1;go_simp
   refine sv_ g73_5_1 Y fun a89 e=>?_;clear Y
   clear h3;have h3:=pt_ F e;replace F:=pu_ F e;replace h2:=so_ e h2;clear e
   refine st_end ?_
   replace h4:=F.of h4;replace h5:=F.of h5;clear h23;have R:=F.r;clear F
   change (Code.ret).wp _ _ _ _
   refine wp_ret ?_
   change bodyPost Try.prog Try.f73 (fun e w'=>e=.returned (.tuple #[.int .i64 (powR a b).1,.string (str (powR a b).2)])∧Keep (fun g=>g < W.heap.size) W w') .ret a89 w37
   refine ret_el2 rfl R.defers h2 h3 ?_
   have ha:=HA.out;have hb:=HB.out;try simp only [and_one] at *
   first | exact ⟨by rw [pow_zero' (by omega)];rfl,K1⟩ | exact ⟨by rw [pow_undef (by omega) (by omega) (by omega)];rfl,K1⟩ | exact ⟨by rw [pow_small (by omega) (by omega) (by omega)];first | (rw [if_pos (by omega),wrap_sq (by omega) (by omega)];rfl) | (rw [if_neg (by omega)];rfl),K1⟩ | exact ⟨by rw [pow_neg (by omega) (by omega)];first | (rw [if_pos (by omega),wrap_sq (by omega) (by omega)];rfl) | (rw [if_neg (by omega)];rfl),K1⟩
 | true =>
  have fb46:=hb46;clear hb46
  simp only [dd_] at fb46
  refine st_val g73_2_3 rfl (wanted_is (j:=2) (d:=15) rfl rfl h15 rfl) (ym_ rfl (F.of h4)) fun a90 e=>?_
  have h16:=pt_ F e;replace F:=pu_ F e;replace h15:=so_ e h15;clear e
  obtain ⟨b91,hb91⟩:∃ x,(((a:Int) != (1:Int)))=x:=⟨_,rfl⟩
  have Y:(execOp a90.eval o73_2_4).run Try.prog w37=.ok (.value (.bool b91)) w37:=by rw [← hb91];unfold o73_2_4;go_simp
  refine st_val g73_2_4 rfl (wanted_is (j:=2) (d:=15) rfl rfl h15 rfl) Y fun a92 e=>?_;clear Y
  clear h16;have h17:=pt_ F e;replace F:=pu_ F e;replace h15:=so_ e h15;clear e
  have Y:(execOp a92.eval o73_2_5).run Try.prog w37=.ok (.value (.bool b91)) w37:=by unfold o73_2_5;go_simp
  refine sw_ g73_2_5 Y F fun a93 F h18=>?_;clear Y h15 h17
  refine sv_ g73_2_6 (ym_ rfl h18) fun a94 e=>?_
  clear h18;have h19:=pt_ F e;replace F:=pu_ F e;clear e
  cases b91 with
  | false =>
   have fb91:=hb91;clear hb91
   simp only [dd_] at fb91
   refine st_not g73_2_7 rfl (wanted_is (j:=6) (d:=19) rfl rfl h19 rfl) fun a95 e=>?_
   have h20:=pt_ F e;replace F:=pu_ F e;replace h19:=so_ e h19;clear e
   refine st_not g73_2_8 rfl (wanted_is (j:=6) (d:=19) rfl rfl h19 rfl) fun a96 e=>?_
   clear h20;have h21:=pt_ F e;replace F:=pu_ F e;replace h19:=so_ e h19;clear e
   have Y:(execOp a96.eval o73_2_9).run Try.prog w37=.ok (.value (.bool false)) w37:=by unfold o73_2_9;go_simp
   refine sw_ g73_2_9 Y F fun a97 F h22=>?_;clear Y h19 h21
   refine sv_ g73_2_10 (ya_ rfl h22) fun a98 e=>?_
   clear h22;have h12:=pt_ F e;replace F:=pu_ F e;clear e
   refine st_end ?_
   replace h2:=F.of h2;replace h3:=F.of h3;replace h4:=F.of h4;replace h5:=F.of h5;have R:=F.r;clear F
   change (c73_8).wp _ _ _ _
   refine wp_cond_false (x:=c73_9) (y:=c73_12) (eval_slot h12) ?_
   refine wp_seq (x:=c73_13) (y:=c73_14) ?_
   change (Code.region 4 O73_4 false).wp _ _ _ _
   refine reg_in (l:=[0,1,2]) rfl ?_
   have F:=fe_ R;clear R
   refine sw_ g73_4_0 (ym_ rfl (F.of h5)) F fun a99 F h24=>?_
   obtain ⟨b100,hb100⟩:∃ x,(((b:Int) == (0:Int)))=x:=⟨_,rfl⟩
   have Y:(execOp a99.eval o73_4_1).run Try.prog w37=.ok (.value (.bool b100)) w37:=by rw [← hb100];unfold o73_4_1;go_simp
   refine sw_ g73_4_1 Y F fun a101 F h25=>?_;clear Y h24
   refine sv_ g73_4_2 (ya_ rfl h25) fun a102 e=>?_
   clear h25;have h23:=pt_ F e;replace F:=pu_ F e;clear e
   refine st_end ?_
   replace h2:=F.of h2;replace h3:=F.of h3;replace h4:=F.of h4;replace h5:=F.of h5;clear h12;have R:=F.r;clear F
   change (c73_14).wp _ _ _ _
   cases b100 with
   | false =>
    have fb100:=hb100;clear hb100
    simp only [dd_] at fb100
    refine wp_cond_false (x:=c73_15) (y:=c73_18) (eval_slot h23) ?_
    refine wp_seq (x:=c73_19) (y:=c73_20) ?_
    change (Code.region 6 O73_6 false).wp _ _ _ _
    refine reg_in (l:=[0,1,2,3,4,5,6]) rfl ?_
    have F:=fe_ R;clear R
    refine sw_ g73_6_0 (ym_ rfl (F.of h4)) F fun a103 F h27=>?_
    obtain ⟨b104,hb104⟩:∃ x,(decide ((-1:Int) ≤ (a:Int)))=x:=⟨_,rfl⟩
    have Y:(execOp a103.eval o73_6_1).run Try.prog w37=.ok (.value (.bool b104)) w37:=by rw [← hb104];unfold o73_6_1;go_simp
    refine sw_ g73_6_1 Y F fun a105 F h28=>?_;clear Y h27
    refine sv_ g73_6_2 (ym_ rfl h28) fun a106 e=>?_
    clear h28;have h29:=pt_ F e;replace F:=pu_ F e;clear e
    cases b104 with
    | false =>
     have fb104:=hb104;clear hb104
     simp only [dd_] at fb104
     refine st_not g73_6_3 rfl (wanted_is (j:=2) (d:=29) rfl rfl h29 rfl) fun a107 e=>?_
     have h30:=pt_ F e;replace F:=pu_ F e;replace h29:=so_ e h29;clear e
     refine st_not g73_6_4 rfl (wanted_is (j:=2) (d:=29) rfl rfl h29 rfl) fun a108 e=>?_
     clear h30;have h31:=pt_ F e;replace F:=pu_ F e;replace h29:=so_ e h29;clear e
     have Y:(execOp a108.eval o73_6_5).run Try.prog w37=.ok (.value (.bool false)) w37:=by unfold o73_6_5;go_simp
     refine sw_ g73_6_5 Y F fun a109 F h32=>?_;clear Y h29 h31
     refine sv_ g73_6_6 (ya_ rfl h32) fun a110 e=>?_
     clear h32;have h26:=pt_ F e;replace F:=pu_ F e;clear e
     refine st_end ?_
     replace h2:=F.of h2;replace h3:=F.of h3;replace h4:=F.of h4;replace h5:=F.of h5;clear h23;have R:=F.r;clear F
     change (c73_20).wp _ _ _ _
     refine wp_cond_false (x:=c73_21) (y:=Code.skip) (eval_slot h26) ?_
     refine wp_skip ?_
     exact pow_t (W:=W) R h4 h5 K1 HA HB (Lib.hid (by omega))
    | true =>
     have fb104:=hb104;clear hb104
     simp only [dd_] at fb104
     refine st_val g73_6_3 rfl (wanted_is (j:=2) (d:=29) rfl rfl h29 rfl) (ym_ rfl (F.of h4)) fun a111 e=>?_
     have h30:=pt_ F e;replace F:=pu_ F e;replace h29:=so_ e h29;clear e
     obtain ⟨b112,hb112⟩:∃ x,(decide ((a:Int) ≤ (1:Int)))=x:=⟨_,rfl⟩
     have Y:(execOp a111.eval o73_6_4).run Try.prog w37=.ok (.value (.bool b112)) w37:=by rw [← hb112];unfold o73_6_4;go_simp
     refine st_val g73_6_4 rfl (wanted_is (j:=2) (d:=29) rfl rfl h29 rfl) Y fun a113 e=>?_;clear Y
     clear h30;have h31:=pt_ F e;replace F:=pu_ F e;replace h29:=so_ e h29;clear e
     have Y:(execOp a113.eval o73_6_5).run Try.prog w37=.ok (.value (.bool b112)) w37:=by unfold o73_6_5;go_simp
     refine sw_ g73_6_5 Y F fun a114 F h32=>?_;clear Y h29 h31
     refine sv_ g73_6_6 (ya_ rfl h32) fun a115 e=>?_
     clear h32;have h26:=pt_ F e;replace F:=pu_ F e;clear e
     refine st_end ?_
     replace h2:=F.of h2;replace h3:=F.of h3;replace h4:=F.of h4;replace h5:=F.of h5;clear h23;have R:=F.r;clear F
     change (c73_20).wp _ _ _ _
     cases b112 with
     | false =>
      have fb112:=hb112;clear hb112
      simp only [dd_] at fb112
      refine wp_cond_false (x:=c73_21) (y:=Code.skip) (eval_slot h26) ?_
      refine wp_skip ?_
      exact pow_t (W:=W) R h4 h5 K1 HA HB (Lib.hid (by omega))
     | true =>
      have fb112:=hb112;clear hb112
      simp only [dd_] at fb112
      refine wp_cond_true (x:=c73_21) (y:=Code.skip) (eval_slot h26) ?_
      refine wp_seq (x:=c73_22) (y:=c73_27) ?_
      refine wp_seq (x:=c73_23) (y:=c73_24) ?_
      change (Code.region 7 O73_7 false).wp _ _ _ _
      refine reg_in (l:=[0,1,2]) rfl ?_
      have F:=fe_ R;clear R
      refine sw_ g73_7_0 (ym_ rfl (F.of h5)) F fun a116 F h33=>?_
      have Y:(execOp a116.eval o73_7_1).run Try.prog w37=.ok (.value (.int .i64 (bits .and .i64 b 1))) w37:=by unfold o73_7_1;go_simp
      refine sw_ g73_7_1 Y F fun a117 F h34=>?_;clear Y h33
      obtain ⟨b118,hb118⟩:∃ x,(((bits .and .i64 b 1:Int) == (0:Int)))=x:=⟨_,rfl⟩
      have Y:(execOp a117.eval o73_7_2).run Try.prog w37=.ok (.value (.bool b118)) w37:=by rw [← hb118];unfold o73_7_2;go_simp
      refine sw_ g73_7_2 Y F fun a119 F h35=>?_;clear Y h34
      refine st_end ?_
      replace h2:=F.of h2;replace h3:=F.of h3;replace h4:=F.of h4;replace h5:=F.of h5;clear h26;have R:=F.r;clear F
      change (c73_24).wp _ _ _ _
      cases b118 with
      | false =>
       have fb118:=hb118;clear hb118
       simp only [dd_] at fb118
       refine wp_cond_false (x:=c73_25) (y:=Code.skip) (eval_slot h35) ?_
       refine wp_skip ?_
       change (c73_27).wp _ _ _ _
       refine wp_seq (x:=c73_28) (y:=Code.ret) ?_
       change (Code.region 9 O73_9 false).wp _ _ _ _
       refine reg_in (l:=[0,1,2]) rfl ?_
       have F:=fe_ R;clear R
       refine sw_ g73_9_0 (ym_ rfl (F.of h4)) F fun a120 F h39=>?_
       refine sv_ g73_9_1 (ya_ rfl h39) fun a121 e=>?_
       clear h39 h2;have h2:=pt_ F e;replace F:=pu_ F e;clear e
       have Y:(execOp a121.eval o73_9_2).run Try.prog w37=.ok (.value (.string (⟨#[]⟩))) w37:=by unfold o73_9_2;go_simp
       refine sv_ g73_9_2 Y fun a122 e=>?_;clear Y
       clear h3;have h3:=pt_ F e;replace F:=pu_ F e;replace h2:=so_ e h2;clear e
       refine st_end ?_
       replace h4:=F.of h4;replace h5:=F.of h5;clear h35;have R:=F.r;clear F
       change (Code.ret).wp _ _ _ _
       refine wp_ret ?_
       change bodyPost Try.prog Try.f73 (fun e w'=>e=.returned (.tuple #[.int .i64 (powR a b).1,.string (str (powR a b).2)])∧Keep (fun g=>g < W.heap.size) W w') .ret a122 w37
       refine ret_el2 rfl R.defers h2 h3 ?_
       have ha:=HA.out;have hb:=HB.out;try simp only [and_one] at *
       first | exact ⟨by rw [pow_zero' (by omega)];rfl,K1⟩ | exact ⟨by rw [pow_undef (by omega) (by omega) (by omega)];rfl,K1⟩ | exact ⟨by rw [pow_small (by omega) (by omega) (by omega)];first | (rw [if_pos (by omega),wrap_sq (by omega) (by omega)];rfl) | (rw [if_neg (by omega)];rfl),K1⟩ | exact ⟨by rw [pow_neg (by omega) (by omega)];first | (rw [if_pos (by omega),wrap_sq (by omega) (by omega)];rfl) | (rw [if_neg (by omega)];rfl),K1⟩
      | true =>
       have fb118:=hb118;clear hb118
       simp only [dd_] at fb118
       refine wp_cond_true (x:=c73_25) (y:=Code.skip) (eval_slot h35) ?_
       change (Code.region 8 O73_8 false).wp _ _ _ _
       refine reg_in (l:=[0,1,2,3]) rfl ?_
       have F:=fe_ R;clear R
       refine sw_ g73_8_0 (ym_ rfl (F.of h4)) F fun a123 F h36=>?_
       refine sv_ g73_8_1 (ym_ rfl (F.of h4)) fun a124 e=>?_
       have h37:=pt_ F e;replace F:=pu_ F e;replace h36:=so_ e h36;clear e
       have Y:(execOp a124.eval o73_8_2).run Try.prog w37=.ok (.value (.int .i64 (IntKind.i64.wrap (a * a)))) w37:=by unfold o73_8_2;go_simp
       refine sw_ g73_8_2 Y F fun a125 F h38=>?_;clear Y h36 h37
       refine sv_ g73_8_3 (ya_ rfl h38) fun a126 e=>?_
       clear h38 h4;have h4:=pt_ F e;replace F:=pu_ F e;clear e
       refine st_end ?_
       replace h2:=F.of h2;replace h3:=F.of h3;replace h5:=F.of h5;clear h35;have R:=F.r;clear F
       change (c73_27).wp _ _ _ _
       refine wp_seq (x:=c73_28) (y:=Code.ret) ?_
       change (Code.region 9 O73_9 false).wp _ _ _ _
       refine reg_in (l:=[0,1,2]) rfl ?_
       have F:=fe_ R;clear R
       refine sw_ g73_9_0 (ym_ rfl (F.of h4)) F fun a127 F h39=>?_
       refine sv_ g73_9_1 (ya_ rfl h39) fun a128 e=>?_
       clear h39 h2;have h2:=pt_ F e;replace F:=pu_ F e;clear e
       have Y:(execOp a128.eval o73_9_2).run Try.prog w37=.ok (.value (.string (⟨#[]⟩))) w37:=by unfold o73_9_2;go_simp
       refine sv_ g73_9_2 Y fun a129 e=>?_;clear Y
       clear h3;have h3:=pt_ F e;replace F:=pu_ F e;replace h2:=so_ e h2;clear e
       refine st_end ?_
       replace h4:=F.of h4;replace h5:=F.of h5;have R:=F.r;clear F
       change (Code.ret).wp _ _ _ _
       refine wp_ret ?_
       change bodyPost Try.prog Try.f73 (fun e w'=>e=.returned (.tuple #[.int .i64 (powR a b).1,.string (str (powR a b).2)])∧Keep (fun g=>g < W.heap.size) W w') .ret a129 w37
       refine ret_el2 rfl R.defers h2 h3 ?_
       have ha:=HA.out;have hb:=HB.out;try simp only [and_one] at *
       first | exact ⟨by rw [pow_zero' (by omega)];rfl,K1⟩ | exact ⟨by rw [pow_undef (by omega) (by omega) (by omega)];rfl,K1⟩ | exact ⟨by rw [pow_small (by omega) (by omega) (by omega)];first | (rw [if_pos (by omega),wrap_sq (by omega) (by omega)];rfl) | (rw [if_neg (by omega)];rfl),K1⟩ | exact ⟨by rw [pow_neg (by omega) (by omega)];first | (rw [if_pos (by omega),wrap_sq (by omega) (by omega)];rfl) | (rw [if_neg (by omega)];rfl),K1⟩
   | true =>
    have fb100:=hb100;clear hb100
    simp only [dd_] at fb100
    refine wp_cond_true (x:=c73_15) (y:=c73_18) (eval_slot h23) ?_
    refine wp_seq (x:=c73_16) (y:=Code.ret) ?_
    change (Code.region 5 O73_5 false).wp _ _ _ _
    refine reg_in (l:=[0,1]) rfl ?_
    have F:=fe_ R;clear R
    have Y:(execOp a102.eval o73_5_0).run Try.prog w37=.ok (.value (.int .i64 1)) w37:=by unfold o73_5_0;go_simp
    refine sw_ g73_5_0 Y F fun a130 F h2=>?_;clear Y
    have Y:(execOp a130.eval o73_5_1).run Try.prog w37=.ok (.value (.string (⟨#[]⟩))) w37:=by unfold o73_5_1;go_simp
    refine sv_ g73_5_1 Y fun a131 e=>?_;clear Y
    clear h3;have h3:=pt_ F e;replace F:=pu_ F e;replace h2:=so_ e h2;clear e
    refine st_end ?_
    replace h4:=F.of h4;replace h5:=F.of h5;clear h23;have R:=F.r;clear F
    change (Code.ret).wp _ _ _ _
    refine wp_ret ?_
    change bodyPost Try.prog Try.f73 (fun e w'=>e=.returned (.tuple #[.int .i64 (powR a b).1,.string (str (powR a b).2)])∧Keep (fun g=>g < W.heap.size) W w') .ret a131 w37
    refine ret_el2 rfl R.defers h2 h3 ?_
    have ha:=HA.out;have hb:=HB.out;try simp only [and_one] at *
    first | exact ⟨by rw [pow_zero' (by omega)];rfl,K1⟩ | exact ⟨by rw [pow_undef (by omega) (by omega) (by omega)];rfl,K1⟩ | exact ⟨by rw [pow_small (by omega) (by omega) (by omega)];first | (rw [if_pos (by omega),wrap_sq (by omega) (by omega)];rfl) | (rw [if_neg (by omega)];rfl),K1⟩ | exact ⟨by rw [pow_neg (by omega) (by omega)];first | (rw [if_pos (by omega),wrap_sq (by omega) (by omega)];rfl) | (rw [if_neg (by omega)];rfl),K1⟩
  | true =>
   have fb91:=hb91;clear hb91
   simp only [dd_] at fb91
   refine st_val g73_2_7 rfl (wanted_is (j:=6) (d:=19) rfl rfl h19 rfl) (ym_ rfl (F.of h4)) fun a132 e=>?_
   have h20:=pt_ F e;replace F:=pu_ F e;replace h19:=so_ e h19;clear e
   obtain ⟨b133,hb133⟩:∃ x,(((a:Int) != (-1:Int)))=x:=⟨_,rfl⟩
   have Y:(execOp a132.eval o73_2_8).run Try.prog w37=.ok (.value (.bool b133)) w37:=by rw [← hb133];unfold o73_2_8;go_simp
   refine st_val g73_2_8 rfl (wanted_is (j:=6) (d:=19) rfl rfl h19 rfl) Y fun a134 e=>?_;clear Y
   clear h20;have h21:=pt_ F e;replace F:=pu_ F e;replace h19:=so_ e h19;clear e
   have Y:(execOp a134.eval o73_2_9).run Try.prog w37=.ok (.value (.bool b133)) w37:=by unfold o73_2_9;go_simp
   refine sw_ g73_2_9 Y F fun a135 F h22=>?_;clear Y h19 h21
   refine sv_ g73_2_10 (ya_ rfl h22) fun a136 e=>?_
   clear h22;have h12:=pt_ F e;replace F:=pu_ F e;clear e
   refine st_end ?_
   replace h2:=F.of h2;replace h3:=F.of h3;replace h4:=F.of h4;replace h5:=F.of h5;have R:=F.r;clear F
   change (c73_8).wp _ _ _ _
   cases b133 with
   | false =>
    have fb133:=hb133;clear hb133
    simp only [dd_] at fb133
    refine wp_cond_false (x:=c73_9) (y:=c73_12) (eval_slot h12) ?_
    refine wp_seq (x:=c73_13) (y:=c73_14) ?_
    change (Code.region 4 O73_4 false).wp _ _ _ _
    refine reg_in (l:=[0,1,2]) rfl ?_
    have F:=fe_ R;clear R
    refine sw_ g73_4_0 (ym_ rfl (F.of h5)) F fun a137 F h24=>?_
    obtain ⟨b138,hb138⟩:∃ x,(((b:Int) == (0:Int)))=x:=⟨_,rfl⟩
    have Y:(execOp a137.eval o73_4_1).run Try.prog w37=.ok (.value (.bool b138)) w37:=by rw [← hb138];unfold o73_4_1;go_simp
    refine sw_ g73_4_1 Y F fun a139 F h25=>?_;clear Y h24
    refine sv_ g73_4_2 (ya_ rfl h25) fun a140 e=>?_
    clear h25;have h23:=pt_ F e;replace F:=pu_ F e;clear e
    refine st_end ?_
    replace h2:=F.of h2;replace h3:=F.of h3;replace h4:=F.of h4;replace h5:=F.of h5;clear h12;have R:=F.r;clear F
    change (c73_14).wp _ _ _ _
    cases b138 with
    | false =>
     have fb138:=hb138;clear hb138
     simp only [dd_] at fb138
     refine wp_cond_false (x:=c73_15) (y:=c73_18) (eval_slot h23) ?_
     refine wp_seq (x:=c73_19) (y:=c73_20) ?_
     change (Code.region 6 O73_6 false).wp _ _ _ _
     refine reg_in (l:=[0,1,2,3,4,5,6]) rfl ?_
     have F:=fe_ R;clear R
     refine sw_ g73_6_0 (ym_ rfl (F.of h4)) F fun a141 F h27=>?_
     obtain ⟨b142,hb142⟩:∃ x,(decide ((-1:Int) ≤ (a:Int)))=x:=⟨_,rfl⟩
     have Y:(execOp a141.eval o73_6_1).run Try.prog w37=.ok (.value (.bool b142)) w37:=by rw [← hb142];unfold o73_6_1;go_simp
     refine sw_ g73_6_1 Y F fun a143 F h28=>?_;clear Y h27
     refine sv_ g73_6_2 (ym_ rfl h28) fun a144 e=>?_
     clear h28;have h29:=pt_ F e;replace F:=pu_ F e;clear e
     cases b142 with
     | false =>
      have fb142:=hb142;clear hb142
      simp only [dd_] at fb142
      refine st_not g73_6_3 rfl (wanted_is (j:=2) (d:=29) rfl rfl h29 rfl) fun a145 e=>?_
      have h30:=pt_ F e;replace F:=pu_ F e;replace h29:=so_ e h29;clear e
      refine st_not g73_6_4 rfl (wanted_is (j:=2) (d:=29) rfl rfl h29 rfl) fun a146 e=>?_
      clear h30;have h31:=pt_ F e;replace F:=pu_ F e;replace h29:=so_ e h29;clear e
      have Y:(execOp a146.eval o73_6_5).run Try.prog w37=.ok (.value (.bool false)) w37:=by unfold o73_6_5;go_simp
      refine sw_ g73_6_5 Y F fun a147 F h32=>?_;clear Y h29 h31
      refine sv_ g73_6_6 (ya_ rfl h32) fun a148 e=>?_
      clear h32;have h26:=pt_ F e;replace F:=pu_ F e;clear e
      refine st_end ?_
      replace h2:=F.of h2;replace h3:=F.of h3;replace h4:=F.of h4;replace h5:=F.of h5;clear h23;have R:=F.r;clear F
      change (c73_20).wp _ _ _ _
      refine wp_cond_false (x:=c73_21) (y:=Code.skip) (eval_slot h26) ?_
      refine wp_skip ?_
      exact pow_t (W:=W) R h4 h5 K1 HA HB (Lib.hid (by omega))
     | true =>
      have fb142:=hb142;clear hb142
      simp only [dd_] at fb142
      refine st_val g73_6_3 rfl (wanted_is (j:=2) (d:=29) rfl rfl h29 rfl) (ym_ rfl (F.of h4)) fun a149 e=>?_
      have h30:=pt_ F e;replace F:=pu_ F e;replace h29:=so_ e h29;clear e
      obtain ⟨b150,hb150⟩:∃ x,(decide ((a:Int) ≤ (1:Int)))=x:=⟨_,rfl⟩
      have Y:(execOp a149.eval o73_6_4).run Try.prog w37=.ok (.value (.bool b150)) w37:=by rw [← hb150];unfold o73_6_4;go_simp
      refine st_val g73_6_4 rfl (wanted_is (j:=2) (d:=29) rfl rfl h29 rfl) Y fun a151 e=>?_;clear Y
      clear h30;have h31:=pt_ F e;replace F:=pu_ F e;replace h29:=so_ e h29;clear e
      have Y:(execOp a151.eval o73_6_5).run Try.prog w37=.ok (.value (.bool b150)) w37:=by unfold o73_6_5;go_simp
      refine sw_ g73_6_5 Y F fun a152 F h32=>?_;clear Y h29 h31
      refine sv_ g73_6_6 (ya_ rfl h32) fun a153 e=>?_
      clear h32;have h26:=pt_ F e;replace F:=pu_ F e;clear e
      refine st_end ?_
      replace h2:=F.of h2;replace h3:=F.of h3;replace h4:=F.of h4;replace h5:=F.of h5;clear h23;have R:=F.r;clear F
      change (c73_20).wp _ _ _ _
      cases b150 with
      | false =>
       have fb150:=hb150;clear hb150
       simp only [dd_] at fb150
       refine wp_cond_false (x:=c73_21) (y:=Code.skip) (eval_slot h26) ?_
       refine wp_skip ?_
       exact pow_t (W:=W) R h4 h5 K1 HA HB (Lib.hid (by omega))
      | true =>
       have fb150:=hb150;clear hb150
       simp only [dd_] at fb150
       refine wp_cond_true (x:=c73_21) (y:=Code.skip) (eval_slot h26) ?_
       refine wp_seq (x:=c73_22) (y:=c73_27) ?_
       refine wp_seq (x:=c73_23) (y:=c73_24) ?_
       change (Code.region 7 O73_7 false).wp _ _ _ _
       refine reg_in (l:=[0,1,2]) rfl ?_
       have F:=fe_ R;clear R
       refine sw_ g73_7_0 (ym_ rfl (F.of h5)) F fun a154 F h33=>?_
       have Y:(execOp a154.eval o73_7_1).run Try.prog w37=.ok (.value (.int .i64 (bits .and .i64 b 1))) w37:=by unfold o73_7_1;go_simp
       refine sw_ g73_7_1 Y F fun a155 F h34=>?_;clear Y h33
       obtain ⟨b156,hb156⟩:∃ x,(((bits .and .i64 b 1:Int) == (0:Int)))=x:=⟨_,rfl⟩
       have Y:(execOp a155.eval o73_7_2).run Try.prog w37=.ok (.value (.bool b156)) w37:=by rw [← hb156];unfold o73_7_2;go_simp
       refine sw_ g73_7_2 Y F fun a157 F h35=>?_;clear Y h34
       refine st_end ?_
       replace h2:=F.of h2;replace h3:=F.of h3;replace h4:=F.of h4;replace h5:=F.of h5;clear h26;have R:=F.r;clear F
       change (c73_24).wp _ _ _ _
       cases b156 with
       | false =>
        have fb156:=hb156;clear hb156
        simp only [dd_] at fb156
        refine wp_cond_false (x:=c73_25) (y:=Code.skip) (eval_slot h35) ?_
        refine wp_skip ?_
        change (c73_27).wp _ _ _ _
        refine wp_seq (x:=c73_28) (y:=Code.ret) ?_
        change (Code.region 9 O73_9 false).wp _ _ _ _
        refine reg_in (l:=[0,1,2]) rfl ?_
        have F:=fe_ R;clear R
        refine sw_ g73_9_0 (ym_ rfl (F.of h4)) F fun a158 F h39=>?_
        refine sv_ g73_9_1 (ya_ rfl h39) fun a159 e=>?_
        clear h39 h2;have h2:=pt_ F e;replace F:=pu_ F e;clear e
        have Y:(execOp a159.eval o73_9_2).run Try.prog w37=.ok (.value (.string (⟨#[]⟩))) w37:=by unfold o73_9_2;go_simp
        refine sv_ g73_9_2 Y fun a160 e=>?_;clear Y
        clear h3;have h3:=pt_ F e;replace F:=pu_ F e;replace h2:=so_ e h2;clear e
        refine st_end ?_
        replace h4:=F.of h4;replace h5:=F.of h5;clear h35;have R:=F.r;clear F
        change (Code.ret).wp _ _ _ _
        refine wp_ret ?_
        change bodyPost Try.prog Try.f73 (fun e w'=>e=.returned (.tuple #[.int .i64 (powR a b).1,.string (str (powR a b).2)])∧Keep (fun g=>g < W.heap.size) W w') .ret a160 w37
        refine ret_el2 rfl R.defers h2 h3 ?_
        have ha:=HA.out;have hb:=HB.out;try simp only [and_one] at *
        first | exact ⟨by rw [pow_zero' (by omega)];rfl,K1⟩ | exact ⟨by rw [pow_undef (by omega) (by omega) (by omega)];rfl,K1⟩ | exact ⟨by rw [pow_small (by omega) (by omega) (by omega)];first | (rw [if_pos (by omega),wrap_sq (by omega) (by omega)];rfl) | (rw [if_neg (by omega)];rfl),K1⟩ | exact ⟨by rw [pow_neg (by omega) (by omega)];first | (rw [if_pos (by omega),wrap_sq (by omega) (by omega)];rfl) | (rw [if_neg (by omega)];rfl),K1⟩
       | true =>
        have fb156:=hb156;clear hb156
        simp only [dd_] at fb156
        refine wp_cond_true (x:=c73_25) (y:=Code.skip) (eval_slot h35) ?_
        change (Code.region 8 O73_8 false).wp _ _ _ _
        refine reg_in (l:=[0,1,2,3]) rfl ?_
        have F:=fe_ R;clear R
        refine sw_ g73_8_0 (ym_ rfl (F.of h4)) F fun a161 F h36=>?_
        refine sv_ g73_8_1 (ym_ rfl (F.of h4)) fun a162 e=>?_
        have h37:=pt_ F e;replace F:=pu_ F e;replace h36:=so_ e h36;clear e
        have Y:(execOp a162.eval o73_8_2).run Try.prog w37=.ok (.value (.int .i64 (IntKind.i64.wrap (a * a)))) w37:=by unfold o73_8_2;go_simp
        refine sw_ g73_8_2 Y F fun a163 F h38=>?_;clear Y h36 h37
        refine sv_ g73_8_3 (ya_ rfl h38) fun a164 e=>?_
        clear h38 h4;have h4:=pt_ F e;replace F:=pu_ F e;clear e
        refine st_end ?_
        replace h2:=F.of h2;replace h3:=F.of h3;replace h5:=F.of h5;clear h35;have R:=F.r;clear F
        change (c73_27).wp _ _ _ _
        refine wp_seq (x:=c73_28) (y:=Code.ret) ?_
        change (Code.region 9 O73_9 false).wp _ _ _ _
        refine reg_in (l:=[0,1,2]) rfl ?_
        have F:=fe_ R;clear R
        refine sw_ g73_9_0 (ym_ rfl (F.of h4)) F fun a165 F h39=>?_
        refine sv_ g73_9_1 (ya_ rfl h39) fun a166 e=>?_
        clear h39 h2;have h2:=pt_ F e;replace F:=pu_ F e;clear e
        have Y:(execOp a166.eval o73_9_2).run Try.prog w37=.ok (.value (.string (⟨#[]⟩))) w37:=by unfold o73_9_2;go_simp
        refine sv_ g73_9_2 Y fun a167 e=>?_;clear Y
        clear h3;have h3:=pt_ F e;replace F:=pu_ F e;replace h2:=so_ e h2;clear e
        refine st_end ?_
        replace h4:=F.of h4;replace h5:=F.of h5;have R:=F.r;clear F
        change (Code.ret).wp _ _ _ _
        refine wp_ret ?_
        change bodyPost Try.prog Try.f73 (fun e w'=>e=.returned (.tuple #[.int .i64 (powR a b).1,.string (str (powR a b).2)])∧Keep (fun g=>g < W.heap.size) W w') .ret a167 w37
        refine ret_el2 rfl R.defers h2 h3 ?_
        have ha:=HA.out;have hb:=HB.out;try simp only [and_one] at *
        first | exact ⟨by rw [pow_zero' (by omega)];rfl,K1⟩ | exact ⟨by rw [pow_undef (by omega) (by omega) (by omega)];rfl,K1⟩ | exact ⟨by rw [pow_small (by omega) (by omega) (by omega)];first | (rw [if_pos (by omega),wrap_sq (by omega) (by omega)];rfl) | (rw [if_neg (by omega)];rfl),K1⟩ | exact ⟨by rw [pow_neg (by omega) (by omega)];first | (rw [if_pos (by omega),wrap_sq (by omega) (by omega)];rfl) | (rw [if_neg (by omega)];rfl),K1⟩
    | true =>
     have fb138:=hb138;clear hb138
     simp only [dd_] at fb138
     refine wp_cond_true (x:=c73_15) (y:=c73_18) (eval_slot h23) ?_
     refine wp_seq (x:=c73_16) (y:=Code.ret) ?_
     change (Code.region 5 O73_5 false).wp _ _ _ _
     refine reg_in (l:=[0,1]) rfl ?_
     have F:=fe_ R;clear R
     have Y:(execOp a140.eval o73_5_0).run Try.prog w37=.ok (.value (.int .i64 1)) w37:=by unfold o73_5_0;go_simp
     refine sw_ g73_5_0 Y F fun a168 F h2=>?_;clear Y
     have Y:(execOp a168.eval o73_5_1).run Try.prog w37=.ok (.value (.string (⟨#[]⟩))) w37:=by unfold o73_5_1;go_simp
     refine sv_ g73_5_1 Y fun a169 e=>?_;clear Y
     clear h3;have h3:=pt_ F e;replace F:=pu_ F e;replace h2:=so_ e h2;clear e
     refine st_end ?_
     replace h4:=F.of h4;replace h5:=F.of h5;clear h23;have R:=F.r;clear F
     change (Code.ret).wp _ _ _ _
     refine wp_ret ?_
     change bodyPost Try.prog Try.f73 (fun e w'=>e=.returned (.tuple #[.int .i64 (powR a b).1,.string (str (powR a b).2)])∧Keep (fun g=>g < W.heap.size) W w') .ret a169 w37
     refine ret_el2 rfl R.defers h2 h3 ?_
     have ha:=HA.out;have hb:=HB.out;try simp only [and_one] at *
     first | exact ⟨by rw [pow_zero' (by omega)];rfl,K1⟩ | exact ⟨by rw [pow_undef (by omega) (by omega) (by omega)];rfl,K1⟩ | exact ⟨by rw [pow_small (by omega) (by omega) (by omega)];first | (rw [if_pos (by omega),wrap_sq (by omega) (by omega)];rfl) | (rw [if_neg (by omega)];rfl),K1⟩ | exact ⟨by rw [pow_neg (by omega) (by omega)];first | (rw [if_pos (by omega),wrap_sq (by omega) (by omega)];rfl) | (rw [if_neg (by omega)];rfl),K1⟩
   | true =>
    have fb133:=hb133;clear hb133
    simp only [dd_] at fb133
    refine wp_cond_true (x:=c73_9) (y:=c73_12) (eval_slot h12) ?_
    refine wp_seq (x:=c73_10) (y:=Code.ret) ?_
    change (Code.region 3 O73_3 false).wp _ _ _ _
    refine reg_in (l:=[0,1]) rfl ?_
    have F:=fe_ R;clear R
    have Y:(execOp a136.eval o73_3_0).run Try.prog w37=.ok (.value (.int .i64 0)) w37:=by unfold o73_3_0;go_simp
    refine sw_ g73_3_0 Y F fun a170 F h2=>?_;clear Y
    have Y:(execOp a170.eval o73_3_1).run Try.prog w37=.ok (.value (.string (⟨#[117,110,100,101,102,105,110,101,100]⟩))) w37:=by unfold o73_3_1;go_simp
    refine sv_ g73_3_1 Y fun a171 e=>?_;clear Y
    clear h3;have h3:=pt_ F e;replace F:=pu_ F e;replace h2:=so_ e h2;clear e
    refine st_end ?_
    replace h4:=F.of h4;replace h5:=F.of h5;clear h12;have R:=F.r;clear F
    change (Code.ret).wp _ _ _ _
    refine wp_ret ?_
    change bodyPost Try.prog Try.f73 (fun e w'=>e=.returned (.tuple #[.int .i64 (powR a b).1,.string (str (powR a b).2)])∧Keep (fun g=>g < W.heap.size) W w') .ret a171 w37
    refine ret_el2 rfl R.defers h2 h3 ?_
    have ha:=HA.out;have hb:=HB.out;try simp only [and_one] at *
    first | exact ⟨by rw [pow_zero' (by omega)];rfl,K1⟩ | exact ⟨by rw [pow_undef (by omega) (by omega) (by omega)];rfl,K1⟩ | exact ⟨by rw [pow_small (by omega) (by omega) (by omega)];first | (rw [if_pos (by omega),wrap_sq (by omega) (by omega)];rfl) | (rw [if_neg (by omega)];rfl),K1⟩ | exact ⟨by rw [pow_neg (by omega) (by omega)];first | (rw [if_pos (by omega),wrap_sq (by omega) (by omega)];rfl) | (rw [if_neg (by omega)];rfl),K1⟩
theorem pow_any (w:World) (a b:Int) (ha:inR a) (hb:inR b):Calls Try.prog 73 #[.agg #[.int .i64 a,.int .i64 b]] w fun e w'=>e=.returned (.tuple #[.int .i64 (powR a b).1,.string (str (powR a b).2)])∧Keep (fun g=>g < w.heap.size) w w':=by
  refine enter_sx Try.func73 body73 rfl (by show (1:Nat) ≤ 55;decide) fun f0 R hs=>?_
  exact pow_w (W:=w) R (hs 0 _ rfl) (Keep.refl _ w) (Lib.hid ha) (Lib.hid hb)
end Go.Proofs.Ytmgephleogiaoaa
