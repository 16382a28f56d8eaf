/-
  The law ArithBits, walked. No condition but that its numbers are of 64 bits.
-/
import Derived.Test.YtmgephleogiaoaaQAr16
namespace Go.Proofs.Ytmgephleogiaoaa
open Go.RowKit Go.Maps
set_option linter.unusedVariables false
set_option linter.unusedSimpArgs false
theorem ev_and (a b : Int) : evW (opT [47, 92] a b) = .num (bits .and .i64 a b) := (ev_op (by decide) (by decide)).trans rfl
theorem ev_or (a b : Int) : evW (opT [92, 47] a b) = .num (bits .or .i64 a b) := (ev_op (by decide) (by decide)).trans rfl
theorem ev_xor (a b : Int) : evW (opT [120, 111, 114] a b) = .num (bits .xor .i64 a b) := (ev_op (by decide) (by decide)).trans rfl
def notT (a : Int) : Tm := .node 4 [92] 0 [.node 2 [] a []]
theorem ev_not {a : Int} (ha : inR a) : evW (notT a) = .num (-1 - a) := by
  have hr : (notT a).right = true := right_of.2 ⟨by simp [notT, Tm.ok, okL], by simp [notT, Tm.ns, nsL], by simp [notT, Tm.nd, ndL]⟩
  rw [evW, if_pos hr, wo_f (t := notT a) rfl (show isFn [92] 1 = true by decide)]
  show woL [92] [.node 2 [] a []] [] = _
  rw [woL, wo_2 (t := .node 2 [] a []) rfl]
  show resW (bits .xor .i64 (-1) a, []) = _
  rw [xor_not ha]; rfl
theorem ev_shl (a k : Int) : evW (opT [60, 60] a k) = resW (shlR a k) := ev_op (by decide) (by decide)
theorem ev_shr (a k : Int) : evW (opT [62, 62] a k) = resW (shrR a k) := ev_op (by decide) (by decide)
theorem shl_fact {a k : Int} (ha : inR a) : inR (evW (opT [60, 60] a k)).v ∧ ((evW (opT [60, 60] a k)).k = true → evW (opT [62, 62] (evW (opT [60, 60] a k)).v k) = .num a) := by
  rw [ev_shl]
  by_cases hk : k < 0
  · rw [shl_no hk]; exact ⟨inR_0, fun h => by cases h⟩
  · rw [shlR, if_neg hk, res_big]
    by_cases h : inR (a * 2 ^ k.toNat)
    · rw [if_pos h]
      refine ⟨h, fun _ => ?_⟩
      show evW (opT [62, 62] (a * 2 ^ k.toNat) k) = _
      rw [ev_shr, shrR, if_neg hk, shl_back]; rfl
    · rw [if_neg h]; exact ⟨inR_0, fun h => by cases h⟩
theorem shr_fact {a k : Int} (ha : inR a) : ((evW (opT [62, 62] a k)).k = true ↔ 0 ≤ k) ∧ ((evW (opT [62, 62] a k)).k = true → ((evW (opT [62, 62] a k)).v < 0 ↔ a < 0)) := by
  rw [ev_shr]
  by_cases hk : k < 0
  · rw [shr_no hk]; exact ⟨⟨fun h => (by cases h), fun h => absurd hk (by omega)⟩, fun h => by cases h⟩
  · rw [shrR, if_neg hk]
    have hp := pow_pos' k.toNat
    refine ⟨⟨fun _ => by omega, fun _ => rfl⟩, fun _ => ?_⟩
    show a / 2 ^ k.toNat < 0 ↔ a < 0
    constructor
    · intro h
      by_cases h0 : 0 ≤ a
      · exact absurd h (Int.not_lt.2 (Int.ediv_nonneg h0 (by omega)))
      · omega
    · intro h; exact Int.ediv_neg_of_neg_of_pos h hp
theorem pow_fact {a k : Int} (ha : inR a) : inR (evW (opT [94] a k)).v ∧ (0 ≤ k → (evW (opT [94] a k)).k = true → evW (opT [42, 42] a (k + 1)) = resW (big ((evW (opT [94] a k)).v * a))) := by
  rw [show evW (opT [94] a k) = resW (powR a k) from ev_op (by decide) (by decide)]
  refine ⟨?_, fun hk h => ?_⟩
  · have h := pow_in (a := a) (n := k)
    unfold resW
    by_cases h0 : (powR a k).2 = []
    · rw [if_pos h0]; exact h
    · rw [if_neg h0]; exact inR_0
  · rw [powR, if_neg (by omega)] at h ⊢
    obtain ⟨h1, h2⟩ := res_k h
    rw [h2]
    rw [show evW (opT [42, 42] a (k + 1)) = resW (powR a (k + 1)) from ev_op (by decide) (by decide), powR, if_neg (by omega), show (k + 1).toNat = k.toNat + 1 by omega, Int.pow_succ]
    rfl
def oA6_0_0 : Oper := ⟨some 6, Op.assign (Operand.const (Value.bool false)), 4, "law.go:106", #[], none⟩
def OA6_0 : Array Oper := List.toArray (oA6_0_0 :: [])
theorem gA6_0_0 : OA6_0[0]? = some oA6_0_0 := rfl
def cA6_1 : Code := Code.region 0 OA6_0 false
def oA6_1_0 : Oper := ⟨some 28, Op.call { callee := Callee.value (Operand.func 9), args := #[], argTypes := #[] }, 4, "law.go:107", #[], none⟩
def oA6_1_1 : Oper := ⟨some 29, Op.unOp Go.UnOp.not 4 (Operand.tmp 28), 4, "law.go:107", #[ed_ 0], none⟩
def OA6_1 : Array Oper := List.toArray (oA6_1_0 :: oA6_1_1 :: [])
theorem gA6_1_0 : OA6_1[0]? = some oA6_1_0 := rfl
theorem gA6_1_1 : OA6_1[1]? = some oA6_1_1 := rfl
def cA6_4 : Code := Code.region 1 OA6_1 false
def oA6_2_0 : Oper := ⟨some 6, Op.assign (Operand.const (Value.bool false)), 4, "law.go:108", #[], none⟩
def OA6_2 : Array Oper := List.toArray (oA6_2_0 :: [])
def cA6_7 : Code := Code.region 2 OA6_2 false
def cA6_6 : Code := Code.seq cA6_7 Code.ret
def cA6_5 : Code := Code.cond (Operand.tmp 29) cA6_6 Code.skip
def cA6_3 : Code := Code.seq cA6_4 cA6_5
def oA6_3_0 : Oper := ⟨some 31, Op.move (Operand.tmp 0), 2, "law.go:110", #[], none⟩
def oA6_3_1 : Oper := ⟨some 32, Op.move (Operand.tmp 1), 2, "law.go:110", #[], none⟩
def oA6_3_2 : Oper := ⟨some 33, Op.call { callee := Callee.value (Operand.func 19), args := #[Operand.const (Value.string { data := #[47, 92] }), Operand.tmp 31, Operand.tmp 32], argTypes := #[9, 2, 2] }, 39, "law.go:110", #[ed_ 0, ed_ 1], none⟩
def oA6_3_3 : Oper := ⟨some 30, Op.move (Operand.tmp 33), 39, "law.go:110", #[ed_ 2], none⟩
def oA6_3_4 : Oper := ⟨some 34, Op.extract (Operand.tmp 30) 0, 2, "law.go:110", #[ed_ 3], none⟩
def oA6_3_5 : Oper := ⟨some 35, Op.extract (Operand.tmp 30) 1, 4, "law.go:110", #[ed_ 3, { on := 6, ground := Go.Ground.gcOnly Go.Departure.lateStores }], none⟩
def oA6_3_6 : Oper := ⟨some 7, Op.assign (Operand.tmp 34), 2, "law.go:110", #[ed_ 4, ec_ 2, ep_ 0, ep_ 1, ep_ 2, ep_ 3, ep_ 4, { on := 5, ground := Go.Ground.textOnly Go.Departure.lateStores }], none⟩
def oA6_3_7 : Oper := ⟨some 8, Op.assign (Operand.tmp 35), 4, "law.go:110", #[ed_ 5, ec_ 6, ep_ 0, ep_ 1, ep_ 2, ep_ 3, ep_ 4, ep_ 5, ep_ 6], none⟩
def OA6_3 : Array Oper := List.toArray (oA6_3_0 :: oA6_3_1 :: oA6_3_2 :: oA6_3_3 :: oA6_3_4 :: oA6_3_5 :: oA6_3_6 :: oA6_3_7 :: [])
theorem gA6_3_0 : OA6_3[0]? = some oA6_3_0 := rfl
theorem gA6_3_1 : OA6_3[1]? = some oA6_3_1 := rfl
theorem gA6_3_2 : OA6_3[2]? = some oA6_3_2 := rfl
theorem gA6_3_3 : OA6_3[3]? = some oA6_3_3 := rfl
theorem gA6_3_4 : OA6_3[4]? = some oA6_3_4 := rfl
theorem gA6_3_5 : OA6_3[5]? = some oA6_3_5 := rfl
theorem gA6_3_6 : OA6_3[6]? = some oA6_3_6 := rfl
theorem gA6_3_7 : OA6_3[7]? = some oA6_3_7 := rfl
def cA6_11 : Code := Code.region 3 OA6_3 false
def oA6_4_0 : Oper := ⟨some 37, Op.move (Operand.tmp 0), 2, "law.go:111", #[], none⟩
def oA6_4_1 : Oper := ⟨some 38, Op.move (Operand.tmp 1), 2, "law.go:111", #[], none⟩
def oA6_4_2 : Oper := ⟨some 39, Op.call { callee := Callee.value (Operand.func 19), args := #[Operand.const (Value.string { data := #[92, 47] }), Operand.tmp 37, Operand.tmp 38], argTypes := #[9, 2, 2] }, 39, "law.go:111", #[ed_ 0, ed_ 1], none⟩
def oA6_4_3 : Oper := ⟨some 36, Op.move (Operand.tmp 39), 39, "law.go:111", #[ed_ 2], none⟩
def oA6_4_4 : Oper := ⟨some 40, Op.extract (Operand.tmp 36) 0, 2, "law.go:111", #[ed_ 3], none⟩
def oA6_4_5 : Oper := ⟨some 41, Op.extract (Operand.tmp 36) 1, 4, "law.go:111", #[ed_ 3, { on := 6, ground := Go.Ground.gcOnly Go.Departure.lateStores }], none⟩
def oA6_4_6 : Oper := ⟨some 9, Op.assign (Operand.tmp 40), 2, "law.go:111", #[ed_ 4, ec_ 2, ep_ 0, ep_ 1, ep_ 2, ep_ 3, ep_ 4, { on := 5, ground := Go.Ground.textOnly Go.Departure.lateStores }], none⟩
def oA6_4_7 : Oper := ⟨some 10, Op.assign (Operand.tmp 41), 4, "law.go:111", #[ed_ 5, ec_ 6, ep_ 0, ep_ 1, ep_ 2, ep_ 3, ep_ 4, ep_ 5, ep_ 6], none⟩
def OA6_4 : Array Oper := List.toArray (oA6_4_0 :: oA6_4_1 :: oA6_4_2 :: oA6_4_3 :: oA6_4_4 :: oA6_4_5 :: oA6_4_6 :: oA6_4_7 :: [])
theorem gA6_4_0 : OA6_4[0]? = some oA6_4_0 := rfl
theorem gA6_4_1 : OA6_4[1]? = some oA6_4_1 := rfl
theorem gA6_4_2 : OA6_4[2]? = some oA6_4_2 := rfl
theorem gA6_4_3 : OA6_4[3]? = some oA6_4_3 := rfl
theorem gA6_4_4 : OA6_4[4]? = some oA6_4_4 := rfl
theorem gA6_4_5 : OA6_4[5]? = some oA6_4_5 := rfl
theorem gA6_4_6 : OA6_4[6]? = some oA6_4_6 := rfl
theorem gA6_4_7 : OA6_4[7]? = some oA6_4_7 := rfl
def cA6_13 : Code := Code.region 4 OA6_4 false
def oA6_5_0 : Oper := ⟨some 43, Op.move (Operand.tmp 0), 2, "law.go:112", #[], none⟩
def oA6_5_1 : Oper := ⟨some 44, Op.move (Operand.tmp 1), 2, "law.go:112", #[], none⟩
def oA6_5_2 : Oper := ⟨some 45, Op.call { callee := Callee.value (Operand.func 19), args := #[Operand.const (Value.string { data := #[120, 111, 114] }), Operand.tmp 43, Operand.tmp 44], argTypes := #[9, 2, 2] }, 39, "law.go:112", #[ed_ 0, ed_ 1], none⟩
def oA6_5_3 : Oper := ⟨some 42, Op.move (Operand.tmp 45), 39, "law.go:112", #[ed_ 2], none⟩
def oA6_5_4 : Oper := ⟨some 46, Op.extract (Operand.tmp 42) 0, 2, "law.go:112", #[ed_ 3], none⟩
def oA6_5_5 : Oper := ⟨some 47, Op.extract (Operand.tmp 42) 1, 4, "law.go:112", #[ed_ 3, { on := 6, ground := Go.Ground.gcOnly Go.Departure.lateStores }], none⟩
def oA6_5_6 : Oper := ⟨some 11, Op.assign (Operand.tmp 46), 2, "law.go:112", #[ed_ 4, ec_ 2, ep_ 0, ep_ 1, ep_ 2, ep_ 3, ep_ 4, { on := 5, ground := Go.Ground.textOnly Go.Departure.lateStores }], none⟩
def oA6_5_7 : Oper := ⟨some 12, Op.assign (Operand.tmp 47), 4, "law.go:112", #[ed_ 5, ec_ 6, ep_ 0, ep_ 1, ep_ 2, ep_ 3, ep_ 4, ep_ 5, ep_ 6], none⟩
def OA6_5 : Array Oper := List.toArray (oA6_5_0 :: oA6_5_1 :: oA6_5_2 :: oA6_5_3 :: oA6_5_4 :: oA6_5_5 :: oA6_5_6 :: oA6_5_7 :: [])
theorem gA6_5_0 : OA6_5[0]? = some oA6_5_0 := rfl
theorem gA6_5_1 : OA6_5[1]? = some oA6_5_1 := rfl
theorem gA6_5_2 : OA6_5[2]? = some oA6_5_2 := rfl
theorem gA6_5_3 : OA6_5[3]? = some oA6_5_3 := rfl
theorem gA6_5_4 : OA6_5[4]? = some oA6_5_4 := rfl
theorem gA6_5_5 : OA6_5[5]? = some oA6_5_5 := rfl
theorem gA6_5_6 : OA6_5[6]? = some oA6_5_6 := rfl
theorem gA6_5_7 : OA6_5[7]? = some oA6_5_7 := rfl
def cA6_15 : Code := Code.region 5 OA6_5 false
def oA6_6_0 : Oper := ⟨some 48, Op.move (Operand.tmp 7), 2, "law.go:113", #[], none⟩
def oA6_6_1 : Oper := ⟨some 49, Op.move (Operand.tmp 11), 2, "law.go:113", #[], none⟩
def oA6_6_2 : Oper := ⟨some 50, Op.binOp Go.BinOp.and 2 (Operand.tmp 48) (Operand.tmp 49) 2, 2, "law.go:113", #[ed_ 0, ed_ 1], none⟩
def oA6_6_3 : Oper := ⟨some 51, Op.binOp Go.BinOp.neq 2 (Operand.tmp 50) (Operand.const (Value.int IntKind.i64 0)) 2, 4, "law.go:113", #[ed_ 2], none⟩
def oA6_6_4 : Oper := ⟨some 52, Op.move (Operand.tmp 51), 4, "law.go:113", #[ed_ 3], none⟩
def oA6_6_5 : Oper := ⟨some 53, Op.move (Operand.tmp 7), 2, "law.go:113", #[eg_ 4], some (4, false)⟩
def oA6_6_6 : Oper := ⟨some 54, Op.move (Operand.tmp 11), 2, "law.go:113", #[eg_ 4], some (4, false)⟩
def oA6_6_7 : Oper := ⟨some 55, Op.binOp Go.BinOp.or 2 (Operand.tmp 53) (Operand.tmp 54) 2, 2, "law.go:113", #[ed_ 5, ed_ 6, eg_ 4], some (4, false)⟩
def oA6_6_8 : Oper := ⟨some 56, Op.move (Operand.tmp 9), 2, "law.go:113", #[eg_ 4], some (4, false)⟩
def oA6_6_9 : Oper := ⟨some 57, Op.binOp Go.BinOp.neq 2 (Operand.tmp 55) (Operand.tmp 56) 2, 4, "law.go:113", #[ed_ 7, ed_ 8, eg_ 4], some (4, false)⟩
def oA6_6_10 : Oper := ⟨some 58, Op.pick (Operand.tmp 52) (Operand.const (Value.bool true)) (Operand.tmp 57), 4, "law.go:113", #[ed_ 4, ed_ 9], none⟩
def oA6_6_11 : Oper := ⟨some 59, Op.move (Operand.tmp 58), 4, "law.go:113", #[ed_ 10, ec_ 4], none⟩
def oA6_6_12 : Oper := ⟨some 60, Op.move (Operand.tmp 7), 2, "law.go:113", #[eg_ 11], some (11, false)⟩
def oA6_6_13 : Oper := ⟨some 61, Op.move (Operand.tmp 9), 2, "law.go:113", #[eg_ 11], some (11, false)⟩
def oA6_6_14 : Oper := ⟨some 62, Op.binOp Go.BinOp.add 2 (Operand.tmp 60) (Operand.tmp 61) 2, 2, "law.go:113", #[ed_ 12, ed_ 13, eg_ 11], some (11, false)⟩
def oA6_6_15 : Oper := ⟨some 63, Op.move (Operand.tmp 0), 2, "law.go:113", #[eg_ 11], some (11, false)⟩
def oA6_6_16 : Oper := ⟨some 64, Op.move (Operand.tmp 1), 2, "law.go:113", #[eg_ 11], some (11, false)⟩
def oA6_6_17 : Oper := ⟨some 65, Op.binOp Go.BinOp.add 2 (Operand.tmp 63) (Operand.tmp 64) 2, 2, "law.go:113", #[ed_ 15, ed_ 16, eg_ 11], some (11, false)⟩
def oA6_6_18 : Oper := ⟨some 66, Op.binOp Go.BinOp.neq 2 (Operand.tmp 62) (Operand.tmp 65) 2, 4, "law.go:113", #[ed_ 14, ed_ 17, eg_ 11], some (11, false)⟩
def oA6_6_19 : Oper := ⟨some 67, Op.pick (Operand.tmp 59) (Operand.const (Value.bool true)) (Operand.tmp 66), 4, "law.go:113", #[ed_ 11, ed_ 18], none⟩
def OA6_6 : Array Oper := List.toArray (oA6_6_0 :: oA6_6_1 :: oA6_6_2 :: oA6_6_3 :: oA6_6_4 :: oA6_6_5 :: oA6_6_6 :: oA6_6_7 :: oA6_6_8 :: oA6_6_9 :: oA6_6_10 :: oA6_6_11 :: oA6_6_12 :: oA6_6_13 :: oA6_6_14 :: oA6_6_15 :: oA6_6_16 :: oA6_6_17 :: oA6_6_18 :: oA6_6_19 :: [])
theorem gA6_6_0 : OA6_6[0]? = some oA6_6_0 := rfl
theorem gA6_6_1 : OA6_6[1]? = some oA6_6_1 := rfl
theorem gA6_6_2 : OA6_6[2]? = some oA6_6_2 := rfl
theorem gA6_6_3 : OA6_6[3]? = some oA6_6_3 := rfl
theorem gA6_6_4 : OA6_6[4]? = some oA6_6_4 := rfl
theorem gA6_6_5 : OA6_6[5]? = some oA6_6_5 := rfl
theorem gA6_6_6 : OA6_6[6]? = some oA6_6_6 := rfl
theorem gA6_6_7 : OA6_6[7]? = some oA6_6_7 := rfl
theorem gA6_6_8 : OA6_6[8]? = some oA6_6_8 := rfl
theorem gA6_6_9 : OA6_6[9]? = some oA6_6_9 := rfl
theorem gA6_6_10 : OA6_6[10]? = some oA6_6_10 := rfl
theorem gA6_6_11 : OA6_6[11]? = some oA6_6_11 := rfl
theorem gA6_6_12 : OA6_6[12]? = some oA6_6_12 := rfl
theorem gA6_6_13 : OA6_6[13]? = some oA6_6_13 := rfl
theorem gA6_6_14 : OA6_6[14]? = some oA6_6_14 := rfl
theorem gA6_6_15 : OA6_6[15]? = some oA6_6_15 := rfl
theorem gA6_6_16 : OA6_6[16]? = some oA6_6_16 := rfl
theorem gA6_6_17 : OA6_6[17]? = some oA6_6_17 := rfl
theorem gA6_6_18 : OA6_6[18]? = some oA6_6_18 := rfl
theorem gA6_6_19 : OA6_6[19]? = some oA6_6_19 := rfl
def cA6_18 : Code := Code.region 6 OA6_6 false
def oA6_7_0 : Oper := ⟨some 6, Op.assign (Operand.const (Value.bool false)), 4, "law.go:114", #[], none⟩
def OA6_7 : Array Oper := List.toArray (oA6_7_0 :: [])
def cA6_21 : Code := Code.region 7 OA6_7 false
def cA6_20 : Code := Code.seq cA6_21 Code.ret
def cA6_19 : Code := Code.cond (Operand.tmp 67) cA6_20 Code.skip
def cA6_17 : Code := Code.seq cA6_18 cA6_19
def oA6_8_0 : Oper := ⟨some 69, Op.move (Operand.tmp 0), 2, "law.go:116", #[], none⟩
def oA6_8_1 : Oper := ⟨some 70, Op.call { callee := Callee.value (Operand.func 16), args := #[Operand.tmp 69], argTypes := #[2] }, 24, "law.go:116", #[ed_ 0], none⟩
def oA6_8_2 : Oper := ⟨some 71, Op.buildSlice 22 1 #[(0, Operand.tmp 70)], 22, "law.go:116", #[ed_ 1], none⟩
def oA6_8_3 : Oper := ⟨some 72, Op.call { callee := Callee.value (Operand.func 15), args := #[Operand.const (Value.string { data := #[92] }), Operand.tmp 71], argTypes := #[9, 22] }, 24, "law.go:116", #[ed_ 2, ec_ 1], none⟩
def oA6_8_4 : Oper := ⟨some 73, Op.call { callee := Callee.value (Operand.func 10), args := #[Operand.tmp 72], argTypes := #[24] }, 26, "law.go:116", #[ed_ 3, ec_ 3], none⟩
def oA6_8_5 : Oper := ⟨some 68, Op.move (Operand.tmp 73), 26, "law.go:116", #[ed_ 4], none⟩
def oA6_8_6 : Oper := ⟨some 74, Op.extract (Operand.tmp 68) 0, 2, "law.go:116", #[ed_ 5], none⟩
def oA6_8_7 : Oper := ⟨some 75, Op.extract (Operand.tmp 68) 1, 24, "law.go:116", #[ed_ 5, { on := 10, ground := Go.Ground.gcOnly Go.Departure.lateStores }], none⟩
def oA6_8_8 : Oper := ⟨some 76, Op.extract (Operand.tmp 68) 2, 4, "law.go:116", #[ed_ 5, { on := 11, ground := Go.Ground.gcOnly Go.Departure.lateStores }], none⟩
def oA6_8_9 : Oper := ⟨some 14, Op.alloc 24, 0, "law.go:116", #[], none⟩
def oA6_8_10 : Oper := ⟨some 13, Op.assign (Operand.tmp 74), 2, "law.go:116", #[ed_ 6, ec_ 4, ep_ 0, ep_ 1, ep_ 2, ep_ 3, ep_ 4, ep_ 5, ep_ 6, { on := 7, ground := Go.Ground.textOnly Go.Departure.lateStores }, { on := 8, ground := Go.Ground.textOnly Go.Departure.lateStores }, ep_ 9], none⟩
def oA6_8_11 : Oper := ⟨none, Op.store 24 (Operand.tmp 14) (Operand.tmp 75), 0, "law.go:116", #[ed_ 9, ed_ 7, ec_ 10, ep_ 0, ep_ 1, ep_ 2, ep_ 3, ep_ 4, ep_ 5, ep_ 6, ep_ 7, { on := 8, ground := Go.Ground.textOnly Go.Departure.lateStores }, ep_ 9, ep_ 10], none⟩
def oA6_8_12 : Oper := ⟨some 15, Op.assign (Operand.tmp 76), 4, "law.go:116", #[ed_ 8, ec_ 11, ep_ 0, ep_ 1, ep_ 2, ep_ 3, ep_ 4, ep_ 5, ep_ 6, ep_ 7, ep_ 8, ep_ 9, ep_ 10, ep_ 11], none⟩
def OA6_8 : Array Oper := List.toArray (oA6_8_0 :: oA6_8_1 :: oA6_8_2 :: oA6_8_3 :: oA6_8_4 :: oA6_8_5 :: oA6_8_6 :: oA6_8_7 :: oA6_8_8 :: oA6_8_9 :: oA6_8_10 :: oA6_8_11 :: oA6_8_12 :: [])
theorem gA6_8_0 : OA6_8[0]? = some oA6_8_0 := rfl
theorem gA6_8_1 : OA6_8[1]? = some oA6_8_1 := rfl
theorem gA6_8_2 : OA6_8[2]? = some oA6_8_2 := rfl
theorem gA6_8_3 : OA6_8[3]? = some oA6_8_3 := rfl
theorem gA6_8_4 : OA6_8[4]? = some oA6_8_4 := rfl
theorem gA6_8_5 : OA6_8[5]? = some oA6_8_5 := rfl
theorem gA6_8_6 : OA6_8[6]? = some oA6_8_6 := rfl
theorem gA6_8_7 : OA6_8[7]? = some oA6_8_7 := rfl
theorem gA6_8_8 : OA6_8[8]? = some oA6_8_8 := rfl
theorem gA6_8_9 : OA6_8[9]? = some oA6_8_9 := rfl
theorem gA6_8_10 : OA6_8[10]? = some oA6_8_10 := rfl
theorem gA6_8_11 : OA6_8[11]? = some oA6_8_11 := rfl
theorem gA6_8_12 : OA6_8[12]? = some oA6_8_12 := rfl
def cA6_25 : Code := Code.region 8 OA6_8 false
def oA6_9_0 : Oper := ⟨some 77, Op.move (Operand.tmp 15), 4, "law.go:117", #[], none⟩
def oA6_9_1 : Oper := ⟨some 78, Op.unOp Go.UnOp.not 4 (Operand.tmp 77), 4, "law.go:117", #[ed_ 0], none⟩
def oA6_9_2 : Oper := ⟨some 79, Op.move (Operand.tmp 78), 4, "law.go:117", #[ed_ 1], none⟩
def oA6_9_3 : Oper := ⟨some 80, Op.move (Operand.tmp 13), 2, "law.go:117", #[eg_ 2], some (2, false)⟩
def oA6_9_4 : Oper := ⟨some 81, Op.move (Operand.tmp 0), 2, "law.go:117", #[eg_ 2], some (2, false)⟩
def oA6_9_5 : Oper := ⟨some 82, Op.unOp Go.UnOp.neg 2 (Operand.tmp 81), 2, "law.go:117", #[ed_ 4, eg_ 2], some (2, false)⟩
def oA6_9_6 : Oper := ⟨some 83, Op.binOp Go.BinOp.sub 2 (Operand.tmp 82) (Operand.const (Value.int IntKind.i64 1)) 2, 2, "law.go:117", #[ed_ 5, eg_ 2], some (2, false)⟩
def oA6_9_7 : Oper := ⟨some 84, Op.binOp Go.BinOp.neq 2 (Operand.tmp 80) (Operand.tmp 83) 2, 4, "law.go:117", #[ed_ 3, ed_ 6, eg_ 2], some (2, false)⟩
def oA6_9_8 : Oper := ⟨some 85, Op.pick (Operand.tmp 79) (Operand.const (Value.bool true)) (Operand.tmp 84), 4, "law.go:117", #[ed_ 2, ed_ 7], none⟩
def OA6_9 : Array Oper := List.toArray (oA6_9_0 :: oA6_9_1 :: oA6_9_2 :: oA6_9_3 :: oA6_9_4 :: oA6_9_5 :: oA6_9_6 :: oA6_9_7 :: oA6_9_8 :: [])
theorem gA6_9_0 : OA6_9[0]? = some oA6_9_0 := rfl
theorem gA6_9_1 : OA6_9[1]? = some oA6_9_1 := rfl
theorem gA6_9_2 : OA6_9[2]? = some oA6_9_2 := rfl
theorem gA6_9_3 : OA6_9[3]? = some oA6_9_3 := rfl
theorem gA6_9_4 : OA6_9[4]? = some oA6_9_4 := rfl
theorem gA6_9_5 : OA6_9[5]? = some oA6_9_5 := rfl
theorem gA6_9_6 : OA6_9[6]? = some oA6_9_6 := rfl
theorem gA6_9_7 : OA6_9[7]? = some oA6_9_7 := rfl
theorem gA6_9_8 : OA6_9[8]? = some oA6_9_8 := rfl
def cA6_28 : Code := Code.region 9 OA6_9 false
def oA6_10_0 : Oper := ⟨some 6, Op.assign (Operand.const (Value.bool false)), 4, "law.go:118", #[], none⟩
def OA6_10 : Array Oper := List.toArray (oA6_10_0 :: [])
def cA6_31 : Code := Code.region 10 OA6_10 false
def cA6_30 : Code := Code.seq cA6_31 Code.ret
def cA6_29 : Code := Code.cond (Operand.tmp 85) cA6_30 Code.skip
def cA6_27 : Code := Code.seq cA6_28 cA6_29
def oA6_11_0 : Oper := ⟨some 87, Op.move (Operand.tmp 0), 2, "law.go:120", #[], none⟩
def oA6_11_1 : Oper := ⟨some 88, Op.move (Operand.tmp 2), 2, "law.go:120", #[], none⟩
def oA6_11_2 : Oper := ⟨some 89, Op.call { callee := Callee.value (Operand.func 19), args := #[Operand.const (Value.string { data := #[60, 60] }), Operand.tmp 87, Operand.tmp 88], argTypes := #[9, 2, 2] }, 39, "law.go:120", #[ed_ 0, ed_ 1], none⟩
def oA6_11_3 : Oper := ⟨some 86, Op.move (Operand.tmp 89), 39, "law.go:120", #[ed_ 2], none⟩
def oA6_11_4 : Oper := ⟨some 90, Op.extract (Operand.tmp 86) 0, 2, "law.go:120", #[ed_ 3], none⟩
def oA6_11_5 : Oper := ⟨some 91, Op.extract (Operand.tmp 86) 1, 4, "law.go:120", #[ed_ 3, { on := 6, ground := Go.Ground.gcOnly Go.Departure.lateStores }], none⟩
def oA6_11_6 : Oper := ⟨some 16, Op.assign (Operand.tmp 90), 2, "law.go:120", #[ed_ 4, ec_ 2, ep_ 0, ep_ 1, ep_ 2, ep_ 3, ep_ 4, { on := 5, ground := Go.Ground.textOnly Go.Departure.lateStores }], none⟩
def oA6_11_7 : Oper := ⟨some 17, Op.assign (Operand.tmp 91), 4, "law.go:120", #[ed_ 5, ec_ 6, ep_ 0, ep_ 1, ep_ 2, ep_ 3, ep_ 4, ep_ 5, ep_ 6], none⟩
def OA6_11 : Array Oper := List.toArray (oA6_11_0 :: oA6_11_1 :: oA6_11_2 :: oA6_11_3 :: oA6_11_4 :: oA6_11_5 :: oA6_11_6 :: oA6_11_7 :: [])
theorem gA6_11_0 : OA6_11[0]? = some oA6_11_0 := rfl
theorem gA6_11_1 : OA6_11[1]? = some oA6_11_1 := rfl
theorem gA6_11_2 : OA6_11[2]? = some oA6_11_2 := rfl
theorem gA6_11_3 : OA6_11[3]? = some oA6_11_3 := rfl
theorem gA6_11_4 : OA6_11[4]? = some oA6_11_4 := rfl
theorem gA6_11_5 : OA6_11[5]? = some oA6_11_5 := rfl
theorem gA6_11_6 : OA6_11[6]? = some oA6_11_6 := rfl
theorem gA6_11_7 : OA6_11[7]? = some oA6_11_7 := rfl
def cA6_35 : Code := Code.region 11 OA6_11 false
def oA6_12_0 : Oper := ⟨some 92, Op.move (Operand.tmp 17), 4, "law.go:121", #[], none⟩
def OA6_12 : Array Oper := List.toArray (oA6_12_0 :: [])
theorem gA6_12_0 : OA6_12[0]? = some oA6_12_0 := rfl
def cA6_38 : Code := Code.region 12 OA6_12 false
def oA6_13_0 : Oper := ⟨some 94, Op.move (Operand.tmp 16), 2, "law.go:122", #[], none⟩
def oA6_13_1 : Oper := ⟨some 95, Op.move (Operand.tmp 2), 2, "law.go:122", #[], none⟩
def oA6_13_2 : Oper := ⟨some 96, Op.call { callee := Callee.value (Operand.func 19), args := #[Operand.const (Value.string { data := #[62, 62] }), Operand.tmp 94, Operand.tmp 95], argTypes := #[9, 2, 2] }, 39, "law.go:122", #[ed_ 0, ed_ 1], none⟩
def oA6_13_3 : Oper := ⟨some 93, Op.move (Operand.tmp 96), 39, "law.go:122", #[ed_ 2], none⟩
def oA6_13_4 : Oper := ⟨some 97, Op.extract (Operand.tmp 93) 0, 2, "law.go:122", #[ed_ 3], none⟩
def oA6_13_5 : Oper := ⟨some 98, Op.extract (Operand.tmp 93) 1, 4, "law.go:122", #[ed_ 3, { on := 6, ground := Go.Ground.gcOnly Go.Departure.lateStores }], none⟩
def oA6_13_6 : Oper := ⟨some 18, Op.assign (Operand.tmp 97), 2, "law.go:122", #[ed_ 4, ec_ 2, ep_ 0, ep_ 1, ep_ 2, ep_ 3, ep_ 4, { on := 5, ground := Go.Ground.textOnly Go.Departure.lateStores }], none⟩
def oA6_13_7 : Oper := ⟨some 19, Op.assign (Operand.tmp 98), 4, "law.go:122", #[ed_ 5, ec_ 6, ep_ 0, ep_ 1, ep_ 2, ep_ 3, ep_ 4, ep_ 5, ep_ 6], none⟩
def OA6_13 : Array Oper := List.toArray (oA6_13_0 :: oA6_13_1 :: oA6_13_2 :: oA6_13_3 :: oA6_13_4 :: oA6_13_5 :: oA6_13_6 :: oA6_13_7 :: [])
theorem gA6_13_0 : OA6_13[0]? = some oA6_13_0 := rfl
theorem gA6_13_1 : OA6_13[1]? = some oA6_13_1 := rfl
theorem gA6_13_2 : OA6_13[2]? = some oA6_13_2 := rfl
theorem gA6_13_3 : OA6_13[3]? = some oA6_13_3 := rfl
theorem gA6_13_4 : OA6_13[4]? = some oA6_13_4 := rfl
theorem gA6_13_5 : OA6_13[5]? = some oA6_13_5 := rfl
theorem gA6_13_6 : OA6_13[6]? = some oA6_13_6 := rfl
theorem gA6_13_7 : OA6_13[7]? = some oA6_13_7 := rfl
def cA6_41 : Code := Code.region 13 OA6_13 false
def oA6_14_0 : Oper := ⟨some 99, Op.move (Operand.tmp 19), 4, "law.go:123", #[], none⟩
def oA6_14_1 : Oper := ⟨some 100, Op.unOp Go.UnOp.not 4 (Operand.tmp 99), 4, "law.go:123", #[ed_ 0], none⟩
def oA6_14_2 : Oper := ⟨some 101, Op.move (Operand.tmp 100), 4, "law.go:123", #[ed_ 1], none⟩
def oA6_14_3 : Oper := ⟨some 102, Op.move (Operand.tmp 18), 2, "law.go:123", #[eg_ 2], some (2, false)⟩
def oA6_14_4 : Oper := ⟨some 103, Op.move (Operand.tmp 0), 2, "law.go:123", #[eg_ 2], some (2, false)⟩
def oA6_14_5 : Oper := ⟨some 104, Op.binOp Go.BinOp.neq 2 (Operand.tmp 102) (Operand.tmp 103) 2, 4, "law.go:123", #[ed_ 3, ed_ 4, eg_ 2], some (2, false)⟩
def oA6_14_6 : Oper := ⟨some 105, Op.pick (Operand.tmp 101) (Operand.const (Value.bool true)) (Operand.tmp 104), 4, "law.go:123", #[ed_ 2, ed_ 5], none⟩
def OA6_14 : Array Oper := List.toArray (oA6_14_0 :: oA6_14_1 :: oA6_14_2 :: oA6_14_3 :: oA6_14_4 :: oA6_14_5 :: oA6_14_6 :: [])
theorem gA6_14_0 : OA6_14[0]? = some oA6_14_0 := rfl
theorem gA6_14_1 : OA6_14[1]? = some oA6_14_1 := rfl
theorem gA6_14_2 : OA6_14[2]? = some oA6_14_2 := rfl
theorem gA6_14_3 : OA6_14[3]? = some oA6_14_3 := rfl
theorem gA6_14_4 : OA6_14[4]? = some oA6_14_4 := rfl
theorem gA6_14_5 : OA6_14[5]? = some oA6_14_5 := rfl
theorem gA6_14_6 : OA6_14[6]? = some oA6_14_6 := rfl
def cA6_43 : Code := Code.region 14 OA6_14 false
def oA6_15_0 : Oper := ⟨some 6, Op.assign (Operand.const (Value.bool false)), 4, "law.go:124", #[], none⟩
def OA6_15 : Array Oper := List.toArray (oA6_15_0 :: [])
def cA6_46 : Code := Code.region 15 OA6_15 false
def cA6_45 : Code := Code.seq cA6_46 Code.ret
def cA6_44 : Code := Code.cond (Operand.tmp 105) cA6_45 Code.skip
def cA6_42 : Code := Code.seq cA6_43 cA6_44
def cA6_40 : Code := Code.seq cA6_41 cA6_42
def cA6_39 : Code := Code.cond (Operand.tmp 92) cA6_40 Code.skip
def cA6_37 : Code := Code.seq cA6_38 cA6_39
def oA6_16_0 : Oper := ⟨some 107, Op.move (Operand.tmp 0), 2, "law.go:127", #[], none⟩
def oA6_16_1 : Oper := ⟨some 108, Op.move (Operand.tmp 2), 2, "law.go:127", #[], none⟩
def oA6_16_2 : Oper := ⟨some 109, Op.call { callee := Callee.value (Operand.func 19), args := #[Operand.const (Value.string { data := #[62, 62] }), Operand.tmp 107, Operand.tmp 108], argTypes := #[9, 2, 2] }, 39, "law.go:127", #[ed_ 0, ed_ 1], none⟩
def oA6_16_3 : Oper := ⟨some 106, Op.move (Operand.tmp 109), 39, "law.go:127", #[ed_ 2], none⟩
def oA6_16_4 : Oper := ⟨some 110, Op.extract (Operand.tmp 106) 0, 2, "law.go:127", #[ed_ 3], none⟩
def oA6_16_5 : Oper := ⟨some 111, Op.extract (Operand.tmp 106) 1, 4, "law.go:127", #[ed_ 3, { on := 6, ground := Go.Ground.gcOnly Go.Departure.lateStores }], none⟩
def oA6_16_6 : Oper := ⟨some 20, Op.assign (Operand.tmp 110), 2, "law.go:127", #[ed_ 4, ec_ 2, ep_ 0, ep_ 1, ep_ 2, ep_ 3, ep_ 4, { on := 5, ground := Go.Ground.textOnly Go.Departure.lateStores }], none⟩
def oA6_16_7 : Oper := ⟨some 21, Op.assign (Operand.tmp 111), 4, "law.go:127", #[ed_ 5, ec_ 6, ep_ 0, ep_ 1, ep_ 2, ep_ 3, ep_ 4, ep_ 5, ep_ 6], none⟩
def OA6_16 : Array Oper := List.toArray (oA6_16_0 :: oA6_16_1 :: oA6_16_2 :: oA6_16_3 :: oA6_16_4 :: oA6_16_5 :: oA6_16_6 :: oA6_16_7 :: [])
theorem gA6_16_0 : OA6_16[0]? = some oA6_16_0 := rfl
theorem gA6_16_1 : OA6_16[1]? = some oA6_16_1 := rfl
theorem gA6_16_2 : OA6_16[2]? = some oA6_16_2 := rfl
theorem gA6_16_3 : OA6_16[3]? = some oA6_16_3 := rfl
theorem gA6_16_4 : OA6_16[4]? = some oA6_16_4 := rfl
theorem gA6_16_5 : OA6_16[5]? = some oA6_16_5 := rfl
theorem gA6_16_6 : OA6_16[6]? = some oA6_16_6 := rfl
theorem gA6_16_7 : OA6_16[7]? = some oA6_16_7 := rfl
def cA6_51 : Code := Code.region 16 OA6_16 false
def oA6_17_0 : Oper := ⟨some 112, Op.move (Operand.tmp 21), 4, "law.go:128", #[], none⟩
def oA6_17_1 : Oper := ⟨some 113, Op.move (Operand.tmp 2), 2, "law.go:128", #[], none⟩
def oA6_17_2 : Oper := ⟨some 114, Op.binOp Go.BinOp.geq 2 (Operand.tmp 113) (Operand.const (Value.int IntKind.i64 0)) 2, 4, "law.go:128", #[ed_ 1], none⟩
def oA6_17_3 : Oper := ⟨some 115, Op.binOp Go.BinOp.neq 4 (Operand.tmp 112) (Operand.tmp 114) 4, 4, "law.go:128", #[ed_ 0, ed_ 2], none⟩
def oA6_17_4 : Oper := ⟨some 116, Op.move (Operand.tmp 115), 4, "law.go:128", #[ed_ 3], none⟩
def oA6_17_5 : Oper := ⟨some 117, Op.move (Operand.tmp 21), 4, "law.go:128", #[eg_ 4], some (4, false)⟩
def oA6_17_6 : Oper := ⟨some 118, Op.move (Operand.tmp 117), 4, "law.go:128", #[ed_ 5, ec_ 4, eg_ 4], some (4, false)⟩
def oA6_17_7 : Oper := ⟨some 119, Op.move (Operand.tmp 20), 2, "law.go:128", #[eg_ 6], some (6, true)⟩
def oA6_17_8 : Oper := ⟨some 120, Op.binOp Go.BinOp.lss 2 (Operand.tmp 119) (Operand.const (Value.int IntKind.i64 0)) 2, 4, "law.go:128", #[ed_ 7, eg_ 6], some (6, true)⟩
def oA6_17_9 : Oper := ⟨some 121, Op.move (Operand.tmp 0), 2, "law.go:128", #[eg_ 6], some (6, true)⟩
def oA6_17_10 : Oper := ⟨some 122, Op.binOp Go.BinOp.lss 2 (Operand.tmp 121) (Operand.const (Value.int IntKind.i64 0)) 2, 4, "law.go:128", #[ed_ 9, eg_ 6], some (6, true)⟩
def oA6_17_11 : Oper := ⟨some 123, Op.binOp Go.BinOp.neq 4 (Operand.tmp 120) (Operand.tmp 122) 4, 4, "law.go:128", #[ed_ 8, ed_ 10, eg_ 6], some (6, true)⟩
def oA6_17_12 : Oper := ⟨some 124, Op.pick (Operand.tmp 118) (Operand.tmp 123) (Operand.const (Value.bool false)), 4, "law.go:128", #[ed_ 6, ed_ 11, eg_ 4], some (4, false)⟩
def oA6_17_13 : Oper := ⟨some 125, Op.pick (Operand.tmp 116) (Operand.const (Value.bool true)) (Operand.tmp 124), 4, "law.go:128", #[ed_ 4, ed_ 12], none⟩
def OA6_17 : Array Oper := List.toArray (oA6_17_0 :: oA6_17_1 :: oA6_17_2 :: oA6_17_3 :: oA6_17_4 :: oA6_17_5 :: oA6_17_6 :: oA6_17_7 :: oA6_17_8 :: oA6_17_9 :: oA6_17_10 :: oA6_17_11 :: oA6_17_12 :: oA6_17_13 :: [])
theorem gA6_17_0 : OA6_17[0]? = some oA6_17_0 := rfl
theorem gA6_17_1 : OA6_17[1]? = some oA6_17_1 := rfl
theorem gA6_17_2 : OA6_17[2]? = some oA6_17_2 := rfl
theorem gA6_17_3 : OA6_17[3]? = some oA6_17_3 := rfl
theorem gA6_17_4 : OA6_17[4]? = some oA6_17_4 := rfl
theorem gA6_17_5 : OA6_17[5]? = some oA6_17_5 := rfl
theorem gA6_17_6 : OA6_17[6]? = some oA6_17_6 := rfl
theorem gA6_17_7 : OA6_17[7]? = some oA6_17_7 := rfl
theorem gA6_17_8 : OA6_17[8]? = some oA6_17_8 := rfl
theorem gA6_17_9 : OA6_17[9]? = some oA6_17_9 := rfl
theorem gA6_17_10 : OA6_17[10]? = some oA6_17_10 := rfl
theorem gA6_17_11 : OA6_17[11]? = some oA6_17_11 := rfl
theorem gA6_17_12 : OA6_17[12]? = some oA6_17_12 := rfl
theorem gA6_17_13 : OA6_17[13]? = some oA6_17_13 := rfl
def cA6_54 : Code := Code.region 17 OA6_17 false
def oA6_18_0 : Oper := ⟨some 6, Op.assign (Operand.const (Value.bool false)), 4, "law.go:129", #[], none⟩
def OA6_18 : Array Oper := List.toArray (oA6_18_0 :: [])
theorem gA6_18_0 : OA6_18[0]? = some oA6_18_0 := rfl
def cA6_57 : Code := Code.region 18 OA6_18 false
def cA6_56 : Code := Code.seq cA6_57 Code.ret
def cA6_55 : Code := Code.cond (Operand.tmp 125) cA6_56 Code.skip
def cA6_53 : Code := Code.seq cA6_54 cA6_55
def oA6_19_0 : Oper := ⟨some 127, Op.move (Operand.tmp 0), 2, "law.go:131", #[], none⟩
def oA6_19_1 : Oper := ⟨some 128, Op.move (Operand.tmp 2), 2, "law.go:131", #[], none⟩
def oA6_19_2 : Oper := ⟨some 129, Op.call { callee := Callee.value (Operand.func 19), args := #[Operand.const (Value.string { data := #[94] }), Operand.tmp 127, Operand.tmp 128], argTypes := #[9, 2, 2] }, 39, "law.go:131", #[ed_ 0, ed_ 1], none⟩
def oA6_19_3 : Oper := ⟨some 126, Op.move (Operand.tmp 129), 39, "law.go:131", #[ed_ 2], none⟩
def oA6_19_4 : Oper := ⟨some 130, Op.extract (Operand.tmp 126) 0, 2, "law.go:131", #[ed_ 3], none⟩
def oA6_19_5 : Oper := ⟨some 131, Op.extract (Operand.tmp 126) 1, 4, "law.go:131", #[ed_ 3, { on := 6, ground := Go.Ground.gcOnly Go.Departure.lateStores }], none⟩
def oA6_19_6 : Oper := ⟨some 22, Op.assign (Operand.tmp 130), 2, "law.go:131", #[ed_ 4, ec_ 2, ep_ 0, ep_ 1, ep_ 2, ep_ 3, ep_ 4, { on := 5, ground := Go.Ground.textOnly Go.Departure.lateStores }], none⟩
def oA6_19_7 : Oper := ⟨some 23, Op.assign (Operand.tmp 131), 4, "law.go:131", #[ed_ 5, ec_ 6, ep_ 0, ep_ 1, ep_ 2, ep_ 3, ep_ 4, ep_ 5, ep_ 6], none⟩
def OA6_19 : Array Oper := List.toArray (oA6_19_0 :: oA6_19_1 :: oA6_19_2 :: oA6_19_3 :: oA6_19_4 :: oA6_19_5 :: oA6_19_6 :: oA6_19_7 :: [])
theorem gA6_19_0 : OA6_19[0]? = some oA6_19_0 := rfl
theorem gA6_19_1 : OA6_19[1]? = some oA6_19_1 := rfl
theorem gA6_19_2 : OA6_19[2]? = some oA6_19_2 := rfl
theorem gA6_19_3 : OA6_19[3]? = some oA6_19_3 := rfl
theorem gA6_19_4 : OA6_19[4]? = some oA6_19_4 := rfl
theorem gA6_19_5 : OA6_19[5]? = some oA6_19_5 := rfl
theorem gA6_19_6 : OA6_19[6]? = some oA6_19_6 := rfl
theorem gA6_19_7 : OA6_19[7]? = some oA6_19_7 := rfl
def cA6_61 : Code := Code.region 19 OA6_19 false
def oA6_20_0 : Oper := ⟨some 132, Op.move (Operand.tmp 2), 2, "law.go:132", #[], none⟩
def oA6_20_1 : Oper := ⟨some 133, Op.binOp Go.BinOp.lss 2 (Operand.tmp 132) (Operand.const (Value.int IntKind.i64 0)) 2, 4, "law.go:132", #[ed_ 0], none⟩
def oA6_20_2 : Oper := ⟨some 134, Op.move (Operand.tmp 133), 4, "law.go:132", #[ed_ 1], none⟩
def oA6_20_3 : Oper := ⟨some 135, Op.move (Operand.tmp 2), 2, "law.go:132", #[eg_ 2], some (2, false)⟩
def oA6_20_4 : Oper := ⟨some 136, Op.binOp Go.BinOp.geq 2 (Operand.tmp 135) (Operand.const (Value.int IntKind.i64 100)) 2, 4, "law.go:132", #[ed_ 3, eg_ 2], some (2, false)⟩
def oA6_20_5 : Oper := ⟨some 137, Op.pick (Operand.tmp 134) (Operand.const (Value.bool true)) (Operand.tmp 136), 4, "law.go:132", #[ed_ 2, ed_ 4], none⟩
def oA6_20_6 : Oper := ⟨some 138, Op.move (Operand.tmp 137), 4, "law.go:132", #[ed_ 5, ec_ 2], none⟩
def oA6_20_7 : Oper := ⟨some 139, Op.move (Operand.tmp 23), 4, "law.go:132", #[eg_ 6], some (6, false)⟩
def oA6_20_8 : Oper := ⟨some 140, Op.unOp Go.UnOp.not 4 (Operand.tmp 139), 4, "law.go:132", #[ed_ 7, eg_ 6], some (6, false)⟩
def oA6_20_9 : Oper := ⟨some 141, Op.pick (Operand.tmp 138) (Operand.const (Value.bool true)) (Operand.tmp 140), 4, "law.go:132", #[ed_ 6, ed_ 8], none⟩
def OA6_20 : Array Oper := List.toArray (oA6_20_0 :: oA6_20_1 :: oA6_20_2 :: oA6_20_3 :: oA6_20_4 :: oA6_20_5 :: oA6_20_6 :: oA6_20_7 :: oA6_20_8 :: oA6_20_9 :: [])
theorem gA6_20_0 : OA6_20[0]? = some oA6_20_0 := rfl
theorem gA6_20_1 : OA6_20[1]? = some oA6_20_1 := rfl
theorem gA6_20_2 : OA6_20[2]? = some oA6_20_2 := rfl
theorem gA6_20_3 : OA6_20[3]? = some oA6_20_3 := rfl
theorem gA6_20_4 : OA6_20[4]? = some oA6_20_4 := rfl
theorem gA6_20_5 : OA6_20[5]? = some oA6_20_5 := rfl
theorem gA6_20_6 : OA6_20[6]? = some oA6_20_6 := rfl
theorem gA6_20_7 : OA6_20[7]? = some oA6_20_7 := rfl
theorem gA6_20_8 : OA6_20[8]? = some oA6_20_8 := rfl
theorem gA6_20_9 : OA6_20[9]? = some oA6_20_9 := rfl
def cA6_64 : Code := Code.region 20 OA6_20 false
def oA6_21_0 : Oper := ⟨some 6, Op.assign (Operand.const (Value.bool true)), 4, "law.go:133", #[], none⟩
def OA6_21 : Array Oper := List.toArray (oA6_21_0 :: [])
theorem gA6_21_0 : OA6_21[0]? = some oA6_21_0 := rfl
def cA6_67 : Code := Code.region 21 OA6_21 false
def cA6_66 : Code := Code.seq cA6_67 Code.ret
def cA6_65 : Code := Code.cond (Operand.tmp 141) cA6_66 Code.skip
def cA6_63 : Code := Code.seq cA6_64 cA6_65
def oA6_22_0 : Oper := ⟨some 143, Op.move (Operand.tmp 0), 2, "law.go:135", #[], none⟩
def oA6_22_1 : Oper := ⟨some 144, Op.move (Operand.tmp 2), 2, "law.go:135", #[], none⟩
def oA6_22_2 : Oper := ⟨some 145, Op.binOp Go.BinOp.add 2 (Operand.tmp 144) (Operand.const (Value.int IntKind.i64 1)) 2, 2, "law.go:135", #[ed_ 1], none⟩
def oA6_22_3 : Oper := ⟨some 146, Op.call { callee := Callee.value (Operand.func 19), args := #[Operand.const (Value.string { data := #[42, 42] }), Operand.tmp 143, Operand.tmp 145], argTypes := #[9, 2, 2] }, 39, "law.go:135", #[ed_ 0, ed_ 2], none⟩
def oA6_22_4 : Oper := ⟨some 142, Op.move (Operand.tmp 146), 39, "law.go:135", #[ed_ 3], none⟩
def oA6_22_5 : Oper := ⟨some 147, Op.extract (Operand.tmp 142) 0, 2, "law.go:135", #[ed_ 4], none⟩
def oA6_22_6 : Oper := ⟨some 148, Op.extract (Operand.tmp 142) 1, 4, "law.go:135", #[ed_ 4, { on := 7, ground := Go.Ground.gcOnly Go.Departure.lateStores }], none⟩
def oA6_22_7 : Oper := ⟨some 24, Op.assign (Operand.tmp 147), 2, "law.go:135", #[ed_ 5, ec_ 3, ep_ 0, ep_ 1, ep_ 2, ep_ 3, ep_ 4, ep_ 5, { on := 6, ground := Go.Ground.textOnly Go.Departure.lateStores }], none⟩
def oA6_22_8 : Oper := ⟨some 25, Op.assign (Operand.tmp 148), 4, "law.go:135", #[ed_ 6, ec_ 7, ep_ 0, ep_ 1, ep_ 2, ep_ 3, ep_ 4, ep_ 5, ep_ 6, ep_ 7], none⟩
def OA6_22 : Array Oper := List.toArray (oA6_22_0 :: oA6_22_1 :: oA6_22_2 :: oA6_22_3 :: oA6_22_4 :: oA6_22_5 :: oA6_22_6 :: oA6_22_7 :: oA6_22_8 :: [])
theorem gA6_22_0 : OA6_22[0]? = some oA6_22_0 := rfl
theorem gA6_22_1 : OA6_22[1]? = some oA6_22_1 := rfl
theorem gA6_22_2 : OA6_22[2]? = some oA6_22_2 := rfl
theorem gA6_22_3 : OA6_22[3]? = some oA6_22_3 := rfl
theorem gA6_22_4 : OA6_22[4]? = some oA6_22_4 := rfl
theorem gA6_22_5 : OA6_22[5]? = some oA6_22_5 := rfl
theorem gA6_22_6 : OA6_22[6]? = some oA6_22_6 := rfl
theorem gA6_22_7 : OA6_22[7]? = some oA6_22_7 := rfl
theorem gA6_22_8 : OA6_22[8]? = some oA6_22_8 := rfl
def cA6_71 : Code := Code.region 22 OA6_22 false
def oA6_23_0 : Oper := ⟨some 150, Op.move (Operand.tmp 22), 2, "law.go:136", #[], none⟩
def oA6_23_1 : Oper := ⟨some 151, Op.move (Operand.tmp 0), 2, "law.go:136", #[], none⟩
def oA6_23_2 : Oper := ⟨some 152, Op.call { callee := Callee.value (Operand.func 19), args := #[Operand.const (Value.string { data := #[42] }), Operand.tmp 150, Operand.tmp 151], argTypes := #[9, 2, 2] }, 39, "law.go:136", #[ed_ 0, ed_ 1], none⟩
def oA6_23_3 : Oper := ⟨some 149, Op.move (Operand.tmp 152), 39, "law.go:136", #[ed_ 2], none⟩
def oA6_23_4 : Oper := ⟨some 153, Op.extract (Operand.tmp 149) 0, 2, "law.go:136", #[ed_ 3], none⟩
def oA6_23_5 : Oper := ⟨some 154, Op.extract (Operand.tmp 149) 1, 4, "law.go:136", #[ed_ 3, { on := 6, ground := Go.Ground.gcOnly Go.Departure.lateStores }], none⟩
def oA6_23_6 : Oper := ⟨some 26, Op.assign (Operand.tmp 153), 2, "law.go:136", #[ed_ 4, ec_ 2, ep_ 0, ep_ 1, ep_ 2, ep_ 3, ep_ 4, { on := 5, ground := Go.Ground.textOnly Go.Departure.lateStores }], none⟩
def oA6_23_7 : Oper := ⟨some 27, Op.assign (Operand.tmp 154), 4, "law.go:136", #[ed_ 5, ec_ 6, ep_ 0, ep_ 1, ep_ 2, ep_ 3, ep_ 4, ep_ 5, ep_ 6], none⟩
def OA6_23 : Array Oper := List.toArray (oA6_23_0 :: oA6_23_1 :: oA6_23_2 :: oA6_23_3 :: oA6_23_4 :: oA6_23_5 :: oA6_23_6 :: oA6_23_7 :: [])
theorem gA6_23_0 : OA6_23[0]? = some oA6_23_0 := rfl
theorem gA6_23_1 : OA6_23[1]? = some oA6_23_1 := rfl
theorem gA6_23_2 : OA6_23[2]? = some oA6_23_2 := rfl
theorem gA6_23_3 : OA6_23[3]? = some oA6_23_3 := rfl
theorem gA6_23_4 : OA6_23[4]? = some oA6_23_4 := rfl
theorem gA6_23_5 : OA6_23[5]? = some oA6_23_5 := rfl
theorem gA6_23_6 : OA6_23[6]? = some oA6_23_6 := rfl
theorem gA6_23_7 : OA6_23[7]? = some oA6_23_7 := rfl
def cA6_73 : Code := Code.region 23 OA6_23 false
def oA6_24_0 : Oper := ⟨some 155, Op.move (Operand.tmp 25), 4, "law.go:137", #[], none⟩
def oA6_24_1 : Oper := ⟨some 156, Op.move (Operand.tmp 27), 4, "law.go:137", #[], none⟩
def oA6_24_2 : Oper := ⟨some 157, Op.binOp Go.BinOp.eql 4 (Operand.tmp 155) (Operand.tmp 156) 4, 4, "law.go:137", #[ed_ 0, ed_ 1], none⟩
def oA6_24_3 : Oper := ⟨some 158, Op.move (Operand.tmp 157), 4, "law.go:137", #[ed_ 2], none⟩
def oA6_24_4 : Oper := ⟨some 159, Op.move (Operand.tmp 25), 4, "law.go:137", #[eg_ 3], some (3, true)⟩
def oA6_24_5 : Oper := ⟨some 160, Op.unOp Go.UnOp.not 4 (Operand.tmp 159), 4, "law.go:137", #[ed_ 4, eg_ 3], some (3, true)⟩
def oA6_24_6 : Oper := ⟨some 161, Op.move (Operand.tmp 160), 4, "law.go:137", #[ed_ 5, ec_ 3, eg_ 3], some (3, true)⟩
def oA6_24_7 : Oper := ⟨some 162, Op.move (Operand.tmp 24), 2, "law.go:137", #[eg_ 6], some (6, false)⟩
def oA6_24_8 : Oper := ⟨some 163, Op.move (Operand.tmp 26), 2, "law.go:137", #[eg_ 6], some (6, false)⟩
def oA6_24_9 : Oper := ⟨some 164, Op.binOp Go.BinOp.eql 2 (Operand.tmp 162) (Operand.tmp 163) 2, 4, "law.go:137", #[ed_ 7, ed_ 8, eg_ 6], some (6, false)⟩
def oA6_24_10 : Oper := ⟨some 165, Op.pick (Operand.tmp 161) (Operand.const (Value.bool true)) (Operand.tmp 164), 4, "law.go:137", #[ed_ 6, ed_ 9, eg_ 3], some (3, true)⟩
def oA6_24_11 : Oper := ⟨some 166, Op.pick (Operand.tmp 158) (Operand.tmp 165) (Operand.const (Value.bool false)), 4, "law.go:137", #[ed_ 3, ed_ 10], none⟩
def oA6_24_12 : Oper := ⟨some 6, Op.assign (Operand.tmp 166), 4, "law.go:137", #[ed_ 11, ec_ 6, ep_ 0, ep_ 1, ep_ 2, ep_ 3, ep_ 4, ep_ 5, ep_ 6, ep_ 7, ep_ 8, ep_ 9, ep_ 10, ep_ 11], none⟩
def OA6_24 : Array Oper := List.toArray (oA6_24_0 :: oA6_24_1 :: oA6_24_2 :: oA6_24_3 :: oA6_24_4 :: oA6_24_5 :: oA6_24_6 :: oA6_24_7 :: oA6_24_8 :: oA6_24_9 :: oA6_24_10 :: oA6_24_11 :: oA6_24_12 :: [])
theorem gA6_24_0 : OA6_24[0]? = some oA6_24_0 := rfl
theorem gA6_24_1 : OA6_24[1]? = some oA6_24_1 := rfl
theorem gA6_24_2 : OA6_24[2]? = some oA6_24_2 := rfl
theorem gA6_24_3 : OA6_24[3]? = some oA6_24_3 := rfl
theorem gA6_24_4 : OA6_24[4]? = some oA6_24_4 := rfl
theorem gA6_24_5 : OA6_24[5]? = some oA6_24_5 := rfl
theorem gA6_24_6 : OA6_24[6]? = some oA6_24_6 := rfl
theorem gA6_24_7 : OA6_24[7]? = some oA6_24_7 := rfl
theorem gA6_24_8 : OA6_24[8]? = some oA6_24_8 := rfl
theorem gA6_24_9 : OA6_24[9]? = some oA6_24_9 := rfl
theorem gA6_24_10 : OA6_24[10]? = some oA6_24_10 := rfl
theorem gA6_24_11 : OA6_24[11]? = some oA6_24_11 := rfl
theorem gA6_24_12 : OA6_24[12]? = some oA6_24_12 := rfl
def cA6_75 : Code := Code.region 24 OA6_24 false
def cA6_74 : Code := Code.seq cA6_75 Code.ret
def cA6_72 : Code := Code.seq cA6_73 cA6_74
def cA6_70 : Code := Code.seq cA6_71 cA6_72
def cA6_62 : Code := Code.seq cA6_63 cA6_70
def cA6_60 : Code := Code.seq cA6_61 cA6_62
def cA6_52 : Code := Code.seq cA6_53 cA6_60
def cA6_50 : Code := Code.seq cA6_51 cA6_52
def cA6_36 : Code := Code.seq cA6_37 cA6_50
def cA6_34 : Code := Code.seq cA6_35 cA6_36
def cA6_26 : Code := Code.seq cA6_27 cA6_34
def cA6_24 : Code := Code.seq cA6_25 cA6_26
def cA6_16 : Code := Code.seq cA6_17 cA6_24
def cA6_14 : Code := Code.seq cA6_15 cA6_16
def cA6_12 : Code := Code.seq cA6_13 cA6_14
def cA6_10 : Code := Code.seq cA6_11 cA6_12
def cA6_2 : Code := Code.seq cA6_3 cA6_10
def cA6_0 : Code := Code.seq cA6_1 cA6_2
theorem enA6_10 : Enters Try.prog 10 := enters_of Try.func10 (by kernel_rfl) rfl
theorem enA6_16 : Enters Try.prog 16 := enters_of Try.func16 (by kernel_rfl) rfl
theorem bodyA6 : Try.f6.body = some cA6_0 := by kernel_rfl
set_option maxRecDepth 100000 in
set_option maxHeartbeats 4000000 in
theorem bits_w {W : World} {a b k x0 y0 z0 s0 n0 c0 : Int} {f0 : Act} {w0 : World} (R : FrS 167 f0) (h0 : f0.tmps[0]? = some (.int .i64 a)) (h1 : f0.tmps[1]? = some (.int .i64 b)) (h2 : f0.tmps[2]? = some (.int .i64 k)) (K1 : Keep (fun g => g < W.heap.size) W w0)  (HA : Hid (inR a)) (HB : Hid (inR b)) (HK : Hid (inR k)) (HX : Hid (evW (opT [47, 92] a b) = .num x0)) (HY : Hid (evW (opT [92, 47] a b) = .num y0)) (HZ : Hid (evW (opT [120, 111, 114] a b) = .num z0)) (HF : Hid (bits .and .i64 x0 z0 = 0 ∧ bits .or .i64 x0 z0 = y0 ∧ IntKind.i64.wrap (x0 + y0) = s0 ∧ IntKind.i64.wrap (a + b) = s0 ∧ IntKind.i64.wrap (-a) = n0 ∧ IntKind.i64.wrap (n0 - 1) = c0)) (HN : Hid (evW (notT a) = .num c0)) : cA6_0.wp Try.prog (bodyPost Try.prog Try.f6 (fun e w' => e = .returned (.bool true) ∧ Keep (fun g => g < W.heap.size) W w')) f0 w0 := by
  refine wp_seq (x := cA6_1) (y := cA6_2) ?_
  change (Code.region 0 OA6_0 false).wp _ _ _ _
  refine reg_in (l := [0]) rfl ?_
  have F : FE_ _ [] f0 f0 := ⟨R, Ag_.refl _⟩; clear R
  have Y : (execOp f0.eval oA6_0_0).run Try.prog w0 = .ok (.value (.bool false)) w0 := by unfold oA6_0_0; go_simp
  refine sv_ gA6_0_0 Y fun a1 e => ?_; clear Y
  have h6 := pt_ F e; replace F := pu_ F e; clear e
  refine st_end ?_
  replace h0 := F.of h0; replace h1 := F.of h1; replace h2 := F.of h2; have R := F.r; clear F
  change (cA6_2).wp _ _ _ _
  refine wp_seq (x := cA6_3) (y := cA6_10) ?_
  refine wp_seq (x := cA6_4) (y := cA6_5) ?_
  change (Code.region 1 OA6_1 false).wp _ _ _ _
  refine reg_in (l := [0, 1]) rfl ?_
  have F : FE_ _ [] a1 a1 := ⟨R, Ag_.refl _⟩; clear R
  have Y : (execOp a1.eval oA6_1_0).run Try.prog w0 = .ok (.enter 9 #[]) w0 := by unfold oA6_1_0; go_simp
  refine st_call gA6_1_0 rfl (wanted_free rfl) Y ((alive_any _).mono ?_); clear Y
  rintro e9 w2 ⟨rfl, kk⟩
  replace K1 := keep_onto K1 kk
  clear kk
  refine ⟨_, rfl, fun a3 e => ?_⟩
  have h28 := pt_ F e; replace F := pu_ F e; clear e
  have Y : (execOp a3.eval oA6_1_1).run Try.prog w2 = .ok (.value (.bool false)) w2 := by unfold oA6_1_1; go_simp
  refine sv_ gA6_1_1 Y fun a4 e => ?_; clear Y
  clear h28; have h29 := pt_ F e; replace F := pu_ F e; clear e
  refine st_end ?_
  replace h0 := F.of h0; replace h1 := F.of h1; replace h2 := F.of h2; replace h6 := F.of h6; have R := F.r; clear F
  change (cA6_5).wp _ _ _ _
  refine wp_cond_false (x := cA6_6) (y := Code.skip) (eval_slot h29) ?_
  refine wp_skip ?_
  change (cA6_10).wp _ _ _ _
  refine wp_seq (x := cA6_11) (y := cA6_12) ?_
  change (Code.region 3 OA6_3 false).wp _ _ _ _
  refine reg_in (l := [0, 1, 2, 3, 4, 5, 6, 7]) rfl ?_
  have F : FE_ _ [] a4 a4 := ⟨R, Ag_.refl _⟩; clear R
  refine sv_ gA6_3_0 (ym_ rfl (F.of h0)) fun a5 e => ?_
  have h31 := pt_ F e; replace F := pu_ F e; clear e
  refine sv_ gA6_3_1 (ym_ rfl (F.of h1)) fun a6 e => ?_
  have h32 := pt_ F e; replace F := pu_ F e; replace h31 := so_ e h31; clear e
  have Y : (execOp a6.eval oA6_3_2).run Try.prog w2 = .ok (.enter 19 #[.string (⟨#[47, 92]⟩), .int .i64 a, .int .i64 b]) w2 := by unfold oA6_3_2; go_simp
  refine st_call gA6_3_2 rfl (wanted_free rfl) Y ((lworth_num HX.out (by decide) HA.out HB.out).mono ?_); clear Y
  rintro e9 w7 ⟨rfl, kk⟩
  replace K1 := keep_onto K1 kk
  clear kk
  refine ⟨_, rfl, fun a8 e => ?_⟩
  clear h31 h32; have h33 := pt_ F e; replace F := pu_ F e; clear e
  refine sv_ gA6_3_3 (ym_ rfl h33) fun a9 e => ?_
  clear h33; have h30 := pt_ F e; replace F := pu_ F e; clear e
  refine sv_ gA6_3_4 (ye20_ rfl h30) fun a10 e => ?_
  have h34 := pt_ F e; replace F := pu_ F e; replace h30 := so_ e h30; clear e
  refine sv_ gA6_3_5 (ye21_ rfl h30) fun a11 e => ?_
  clear h30; have h35 := pt_ F e; replace F := pu_ F e; replace h34 := so_ e h34; clear e
  refine sv_ gA6_3_6 (ya_ rfl h34) fun a12 e => ?_
  clear h34; have h7 := pt_ F e; replace F := pu_ F e; replace h35 := so_ e h35; clear e
  refine sv_ gA6_3_7 (ya_ rfl h35) fun a13 e => ?_
  clear h35; replace F := pu_ F e; replace h7 := so_ e h7; clear e
  refine st_end ?_
  replace h0 := F.of h0; replace h1 := F.of h1; replace h2 := F.of h2; replace h6 := F.of h6; clear h29; have R := F.r; clear F
  change (cA6_12).wp _ _ _ _
  refine wp_seq (x := cA6_13) (y := cA6_14) ?_
  change (Code.region 4 OA6_4 false).wp _ _ _ _
  refine reg_in (l := [0, 1, 2, 3, 4, 5, 6, 7]) rfl ?_
  have F : FE_ _ [] a13 a13 := ⟨R, Ag_.refl _⟩; clear R
  refine sv_ gA6_4_0 (ym_ rfl (F.of h0)) fun a14 e => ?_
  have h37 := pt_ F e; replace F := pu_ F e; clear e
  refine sv_ gA6_4_1 (ym_ rfl (F.of h1)) fun a15 e => ?_
  have h38 := pt_ F e; replace F := pu_ F e; replace h37 := so_ e h37; clear e
  have Y : (execOp a15.eval oA6_4_2).run Try.prog w7 = .ok (.enter 19 #[.string (⟨#[92, 47]⟩), .int .i64 a, .int .i64 b]) w7 := by unfold oA6_4_2; go_simp
  refine st_call gA6_4_2 rfl (wanted_free rfl) Y ((lworth_num HY.out (by decide) HA.out HB.out).mono ?_); clear Y
  rintro e9 w16 ⟨rfl, kk⟩
  replace K1 := keep_onto K1 kk
  clear kk
  refine ⟨_, rfl, fun a17 e => ?_⟩
  clear h37 h38; have h39 := pt_ F e; replace F := pu_ F e; clear e
  refine sv_ gA6_4_3 (ym_ rfl h39) fun a18 e => ?_
  clear h39; have h36 := pt_ F e; replace F := pu_ F e; clear e
  refine sv_ gA6_4_4 (ye20_ rfl h36) fun a19 e => ?_
  have h40 := pt_ F e; replace F := pu_ F e; replace h36 := so_ e h36; clear e
  refine sv_ gA6_4_5 (ye21_ rfl h36) fun a20 e => ?_
  clear h36; have h41 := pt_ F e; replace F := pu_ F e; replace h40 := so_ e h40; clear e
  refine sv_ gA6_4_6 (ya_ rfl h40) fun a21 e => ?_
  clear h40; have h9 := pt_ F e; replace F := pu_ F e; replace h41 := so_ e h41; clear e
  refine sv_ gA6_4_7 (ya_ rfl h41) fun a22 e => ?_
  clear h41; replace F := pu_ F e; replace h9 := so_ e h9; clear e
  refine st_end ?_
  replace h0 := F.of h0; replace h1 := F.of h1; replace h2 := F.of h2; replace h6 := F.of h6; replace h7 := F.of h7; have R := F.r; clear F
  change (cA6_14).wp _ _ _ _
  refine wp_seq (x := cA6_15) (y := cA6_16) ?_
  change (Code.region 5 OA6_5 false).wp _ _ _ _
  refine reg_in (l := [0, 1, 2, 3, 4, 5, 6, 7]) rfl ?_
  have F : FE_ _ [] a22 a22 := ⟨R, Ag_.refl _⟩; clear R
  refine sv_ gA6_5_0 (ym_ rfl (F.of h0)) fun a23 e => ?_
  have h43 := pt_ F e; replace F := pu_ F e; clear e
  refine sv_ gA6_5_1 (ym_ rfl (F.of h1)) fun a24 e => ?_
  have h44 := pt_ F e; replace F := pu_ F e; replace h43 := so_ e h43; clear e
  have Y : (execOp a24.eval oA6_5_2).run Try.prog w16 = .ok (.enter 19 #[.string (⟨#[120, 111, 114]⟩), .int .i64 a, .int .i64 b]) w16 := by unfold oA6_5_2; go_simp
  refine st_call gA6_5_2 rfl (wanted_free rfl) Y ((lworth_num HZ.out (by decide) HA.out HB.out).mono ?_); clear Y
  rintro e9 w25 ⟨rfl, kk⟩
  replace K1 := keep_onto K1 kk
  clear kk
  refine ⟨_, rfl, fun a26 e => ?_⟩
  clear h43 h44; have h45 := pt_ F e; replace F := pu_ F e; clear e
  refine sv_ gA6_5_3 (ym_ rfl h45) fun a27 e => ?_
  clear h45; have h42 := pt_ F e; replace F := pu_ F e; clear e
  refine sv_ gA6_5_4 (ye20_ rfl h42) fun a28 e => ?_
  have h46 := pt_ F e; replace F := pu_ F e; replace h42 := so_ e h42; clear e
  refine sv_ gA6_5_5 (ye21_ rfl h42) fun a29 e => ?_
  clear h42; have h47 := pt_ F e; replace F := pu_ F e; replace h46 := so_ e h46; clear e
  refine sv_ gA6_5_6 (ya_ rfl h46) fun a30 e => ?_
  clear h46; have h11 := pt_ F e; replace F := pu_ F e; replace h47 := so_ e h47; clear e
  refine sv_ gA6_5_7 (ya_ rfl h47) fun a31 e => ?_
  clear h47; replace F := pu_ F e; replace h11 := so_ e h11; clear e
  refine st_end ?_
  replace h0 := F.of h0; replace h1 := F.of h1; replace h2 := F.of h2; replace h6 := F.of h6; replace h7 := F.of h7; replace h9 := F.of h9; have R := F.r; clear F
  change (cA6_16).wp _ _ _ _
  refine wp_seq (x := cA6_17) (y := cA6_24) ?_
  refine wp_seq (x := cA6_18) (y := cA6_19) ?_
  change (Code.region 6 OA6_6 false).wp _ _ _ _
  refine reg_in (l := [0, 1, 2, 3, 4, 5, 6, 7, 8, 9, 10, 11, 12, 13, 14, 15, 16, 17, 18, 19]) rfl ?_
  have F : FE_ _ [] a31 a31 := ⟨R, Ag_.refl _⟩; clear R
  refine sv_ gA6_6_0 (ym_ rfl (F.of h7)) fun a32 e => ?_
  have h48 := pt_ F e; replace F := pu_ F e; clear e
  refine sv_ gA6_6_1 (ym_ rfl (F.of h11)) fun a33 e => ?_
  have h49 := pt_ F e; replace F := pu_ F e; replace h48 := so_ e h48; clear e
  have Y : (execOp a33.eval oA6_6_2).run Try.prog w25 = .ok (.value (.int .i64 0)) w25 := by have h8 := HF.out.1; unfold oA6_6_2; go_simp
  refine sv_ gA6_6_2 Y fun a34 e => ?_; clear Y
  clear h48 h49; have h50 := pt_ F e; replace F := pu_ F e; clear e
  have Y : (execOp a34.eval oA6_6_3).run Try.prog w25 = .ok (.value (.bool false)) w25 := by unfold oA6_6_3; go_simp
  refine sv_ gA6_6_3 Y fun a35 e => ?_; clear Y
  clear h50; have h51 := pt_ F e; replace F := pu_ F e; clear e
  refine sv_ gA6_6_4 (ym_ rfl h51) fun a36 e => ?_
  clear h51; have h52 := pt_ F e; replace F := pu_ F e; clear e
  refine st_val gA6_6_5 rfl (wanted_is (j := 4) (d := 52) rfl rfl h52 rfl) (ym_ rfl (F.of h7)) fun a37 e => ?_
  have h53 := pt_ F e; replace F := pu_ F e; replace h52 := so_ e h52; clear e
  refine st_val gA6_6_6 rfl (wanted_is (j := 4) (d := 52) rfl rfl h52 rfl) (ym_ rfl (F.of h11)) fun a38 e => ?_
  have h54 := pt_ F e; replace F := pu_ F e; replace h52 := so_ e h52; replace h53 := so_ e h53; clear e
  have Y : (execOp a38.eval oA6_6_7).run Try.prog w25 = .ok (.value (.int .i64 y0)) w25 := by have h8 := HF.out.2.1; unfold oA6_6_7; go_simp
  refine st_val gA6_6_7 rfl (wanted_is (j := 4) (d := 52) rfl rfl h52 rfl) Y fun a39 e => ?_; clear Y
  clear h53 h54; have h55 := pt_ F e; replace F := pu_ F e; replace h52 := so_ e h52; clear e
  refine st_val gA6_6_8 rfl (wanted_is (j := 4) (d := 52) rfl rfl h52 rfl) (ym_ rfl (F.of h9)) fun a40 e => ?_
  have h56 := pt_ F e; replace F := pu_ F e; replace h52 := so_ e h52; replace h55 := so_ e h55; clear e
  have Y : (execOp a40.eval oA6_6_9).run Try.prog w25 = .ok (.value (.bool false)) w25 := by unfold oA6_6_9; go_simp
  refine st_val gA6_6_9 rfl (wanted_is (j := 4) (d := 52) rfl rfl h52 rfl) Y fun a41 e => ?_; clear Y
  clear h55 h56; have h57 := pt_ F e; replace F := pu_ F e; replace h52 := so_ e h52; clear e
  have Y : (execOp a41.eval oA6_6_10).run Try.prog w25 = .ok (.value (.bool false)) w25 := by unfold oA6_6_10; go_simp
  refine sv_ gA6_6_10 Y fun a42 e => ?_; clear Y
  clear h52 h57; have h58 := pt_ F e; replace F := pu_ F e; clear e
  refine sv_ gA6_6_11 (ym_ rfl h58) fun a43 e => ?_
  clear h58; have h59 := pt_ F e; replace F := pu_ F e; clear e
  refine st_val gA6_6_12 rfl (wanted_is (j := 11) (d := 59) rfl rfl h59 rfl) (ym_ rfl (F.of h7)) fun a44 e => ?_
  have h60 := pt_ F e; replace F := pu_ F e; replace h59 := so_ e h59; clear e
  refine st_val gA6_6_13 rfl (wanted_is (j := 11) (d := 59) rfl rfl h59 rfl) (ym_ rfl (F.of h9)) fun a45 e => ?_
  have h61 := pt_ F e; replace F := pu_ F e; replace h59 := so_ e h59; replace h60 := so_ e h60; clear e
  have Y : (execOp a45.eval oA6_6_14).run Try.prog w25 = .ok (.value (.int .i64 s0)) w25 := by have h8 := HF.out.2.2.1; unfold oA6_6_14; go_simp
  refine st_val gA6_6_14 rfl (wanted_is (j := 11) (d := 59) rfl rfl h59 rfl) Y fun a46 e => ?_; clear Y
  clear h60 h61; have h62 := pt_ F e; replace F := pu_ F e; replace h59 := so_ e h59; clear e
  refine st_val gA6_6_15 rfl (wanted_is (j := 11) (d := 59) rfl rfl h59 rfl) (ym_ rfl (F.of h0)) fun a47 e => ?_
  have h63 := pt_ F e; replace F := pu_ F e; replace h59 := so_ e h59; replace h62 := so_ e h62; clear e
  refine st_val gA6_6_16 rfl (wanted_is (j := 11) (d := 59) rfl rfl h59 rfl) (ym_ rfl (F.of h1)) fun a48 e => ?_
  have h64 := pt_ F e; replace F := pu_ F e; replace h59 := so_ e h59; replace h62 := so_ e h62; replace h63 := so_ e h63; clear e
  have Y : (execOp a48.eval oA6_6_17).run Try.prog w25 = .ok (.value (.int .i64 s0)) w25 := by have h8 := HF.out.2.2.2.1; unfold oA6_6_17; go_simp
  refine st_val gA6_6_17 rfl (wanted_is (j := 11) (d := 59) rfl rfl h59 rfl) Y fun a49 e => ?_; clear Y
  clear h63 h64; have h65 := pt_ F e; replace F := pu_ F e; replace h59 := so_ e h59; replace h62 := so_ e h62; clear e
  have Y : (execOp a49.eval oA6_6_18).run Try.prog w25 = .ok (.value (.bool false)) w25 := by unfold oA6_6_18; go_simp
  refine st_val gA6_6_18 rfl (wanted_is (j := 11) (d := 59) rfl rfl h59 rfl) Y fun a50 e => ?_; clear Y
  clear h62 h65; have h66 := pt_ F e; replace F := pu_ F e; replace h59 := so_ e h59; clear e
  have Y : (execOp a50.eval oA6_6_19).run Try.prog w25 = .ok (.value (.bool false)) w25 := by unfold oA6_6_19; go_simp
  refine sv_ gA6_6_19 Y fun a51 e => ?_; clear Y
  clear h59 h66; have h67 := pt_ F e; replace F := pu_ F e; clear e
  refine st_end ?_
  replace h0 := F.of h0; clear h1; replace h2 := F.of h2; replace h6 := F.of h6; clear h7; clear h9; clear h11; have R := F.r; clear F
  change (cA6_19).wp _ _ _ _
  refine wp_cond_false (x := cA6_20) (y := Code.skip) (eval_slot h67) ?_
  refine wp_skip ?_
  change (cA6_24).wp _ _ _ _
  refine wp_seq (x := cA6_25) (y := cA6_26) ?_
  change (Code.region 8 OA6_8 false).wp _ _ _ _
  refine reg_in (l := [0, 1, 2, 3, 4, 5, 6, 7, 8, 9, 10, 11, 12]) rfl ?_
  have F : FE_ _ [] a51 a51 := ⟨R, Ag_.refl _⟩; clear R
  refine sv_ gA6_8_0 (ym_ rfl (F.of h0)) fun a52 e => ?_
  have h69 := pt_ F e; replace F := pu_ F e; clear e
  refine st_call gA6_8_1 rfl (wanted_free rfl) (yc1_ enA6_16 rfl h69) ((refN_any _ a).mono ?_)
  rintro e9 w53 ⟨rfl, kk⟩
  replace K1 := keep_onto K1 kk
  clear kk
  refine ⟨_, rfl, fun a54 e => ?_⟩
  clear h69; have h70 := pt_ F e; replace F := pu_ F e; clear e
  have Y : (execOp a54.eval oA6_8_2).run Try.prog w53 = .ok (.value (.slice (some ⟨w53.heap.size, 0, none⟩) 1 1)) (w53.alloc (.cells #[.int .i64 ((Tm.node 2 [] a []).k), .string (str (Tm.node 2 [] a []).nm), .int .i64 ((Tm.node 2 [] a []).i), .slice none (Tm.node 2 [] a []).args.length 0] 24)) := by unfold oA6_8_2; go_simp
  have B55 := Blk.new w53 24 #[.int .i64 ((Tm.node 2 [] a []).k), .string (str (Tm.node 2 [] a []).nm), .int .i64 ((Tm.node 2 [] a []).i), .slice none (Tm.node 2 [] a []).args.length 0]
  obtain ⟨w56, hw⟩ : ∃ x, x = w53.alloc (.cells #[.int .i64 ((Tm.node 2 [] a []).k), .string (str (Tm.node 2 [] a []).nm), .int .i64 ((Tm.node 2 [] a []).i), .slice none (Tm.node 2 [] a []).args.length 0] 24) := ⟨_, rfl⟩; rw [← hw] at Y B55
  obtain ⟨b55, hb⟩ : ∃ x, x = w53.heap.size := ⟨_, rfl⟩; rw [← hb] at Y B55
  have LK1_b55 := lk_ hb K1; replace K1 := ka_ hw K1; clear hw hb
  refine sv_ gA6_8_2 Y fun a57 e => ?_; clear Y
  clear h70; have h71 := pt_ F e; replace F := pu_ F e; clear e
  have Y : (execOp a57.eval oA6_8_3).run Try.prog w56 = .ok (.enter 15 #[.string (⟨#[92]⟩), .slice (some ⟨b55, 0, none⟩) 1 1]) w56 := by unfold oA6_8_3; go_simp
  refine st_call gA6_8_3 rfl (wanted_free rfl) Y ((refC_any _ [92] [Tm.node 2 [] a []] (some ⟨b55, 0, none⟩) 1).mono ?_); clear Y
  rintro e9 w58 ⟨rfl, kk⟩
  replace K1 := keep_onto K1 kk
  replace B55 := blk_on B55 kk
  clear kk
  refine ⟨_, rfl, fun a59 e => ?_⟩
  clear h71; have h72 := pt_ F e; replace F := pu_ F e; clear e
  have hT : TmAt w58.heap.size w58 (notT a) (some ⟨b55, 0, none⟩) 1 := comp_at (ps := [(.node 2 [] a [], none, 0)]) B55 (fun p hp => by rw [List.mem_singleton.1 hp]; exact tm_leaf (by decide) (ik_wf HA.out.1 HA.out.2) (by decide)) (by decide) (Nat.le_of_ble_eq_true rfl)
  have hca := eval_num hT HN.out; clear hT
  refine st_call gA6_8_4 rfl (wanted_free rfl) (yc1_ enA6_10 rfl h72) ((hca).mono ?_)
  rintro e9 w60 ⟨ax, cx, rfl, -, kk⟩
  replace K1 := keep_onto K1 kk
  replace B55 := blk_on B55 kk
  clear kk
  clear hca
  refine ⟨_, rfl, fun a61 e => ?_⟩
  clear h72; have h73 := pt_ F e; replace F := pu_ F e; clear e
  refine sv_ gA6_8_5 (ym_ rfl h73) fun a62 e => ?_
  clear h73; have h68 := pt_ F e; replace F := pu_ F e; clear e
  refine sv_ gA6_8_6 (ye30_ rfl h68) fun a63 e => ?_
  have h74 := pt_ F e; replace F := pu_ F e; replace h68 := so_ e h68; clear e
  refine sv_ gA6_8_7 (ye31_ rfl h68) fun a64 e => ?_
  have h75 := pt_ F e; replace F := pu_ F e; replace h68 := so_ e h68; replace h74 := so_ e h74; clear e
  refine sv_ gA6_8_8 (ye32_ rfl h68) fun a65 e => ?_
  clear h68; have h76 := pt_ F e; replace F := pu_ F e; replace h74 := so_ e h74; replace h75 := so_ e h75; clear e
  have Y : (execOp a65.eval oA6_8_9).run Try.prog w60 = .ok (.value (.pointer (some ⟨w60.heap.size, 0, none⟩))) (w60.alloc (.cells #[.int .i64 0, .string (⟨#[]⟩), .int .i64 0, .slice none 0 0] 24)) := by unfold oA6_8_9; go_simp
  have B66 := Blk.new w60 24 #[.int .i64 0, .string (⟨#[]⟩), .int .i64 0, .slice none 0 0]
  obtain ⟨w67, hw⟩ : ∃ x, x = w60.alloc (.cells #[.int .i64 0, .string (⟨#[]⟩), .int .i64 0, .slice none 0 0] 24) := ⟨_, rfl⟩; rw [← hw] at Y B66
  obtain ⟨b66, hb⟩ : ∃ x, x = w60.heap.size := ⟨_, rfl⟩; rw [← hb] at Y B66
  have Nb55_b66 := nb_ hb B55; replace B55 := ba_ hw B55; have LK1_b66 := lk_ hb K1; replace K1 := ka_ hw K1; clear hw hb
  refine sv_ gA6_8_9 Y fun a68 e => ?_; clear Y
  have h14 := pt_ F e; replace F := pu_ F e; replace h74 := so_ e h74; replace h75 := so_ e h75; replace h76 := so_ e h76; clear e
  refine sv_ gA6_8_10 (ya_ rfl h74) fun a69 e => ?_
  clear h74; have h13 := pt_ F e; replace F := pu_ F e; replace h14 := so_ e h14; replace h75 := so_ e h75; replace h76 := so_ e h76; clear e
  obtain ⟨w70, Y, hk, hB⟩ := ys4_ (o := oA6_8_11) rfl h14 h75 B66
  replace K1 := kx_ hk K1 (Nat.not_lt.2 LK1_b66); replace B55 := bx_ hk B55 Nb55_b66; clear B66; have B66 := hB; clear hB hk
  refine st_skip gA6_8_11 rfl (wanted_free rfl) Y ?_; clear Y
  refine sv_ gA6_8_12 (ya_ rfl h76) fun a71 e => ?_
  clear h14 h75 h76; have h15 := pt_ F e; replace F := pu_ F e; replace h13 := so_ e h13; clear e
  refine st_end ?_
  replace h0 := F.of h0; replace h2 := F.of h2; replace h6 := F.of h6; clear h67; have R := F.r; clear F
  change (cA6_26).wp _ _ _ _
  refine wp_seq (x := cA6_27) (y := cA6_34) ?_
  refine wp_seq (x := cA6_28) (y := cA6_29) ?_
  change (Code.region 9 OA6_9 false).wp _ _ _ _
  refine reg_in (l := [0, 1, 2, 3, 4, 5, 6, 7, 8]) rfl ?_
  have F : FE_ _ [] a71 a71 := ⟨R, Ag_.refl _⟩; clear R
  refine sv_ gA6_9_0 (ym_ rfl (F.of h15)) fun a72 e => ?_
  have h77 := pt_ F e; replace F := pu_ F e; clear e
  have Y : (execOp a72.eval oA6_9_1).run Try.prog w70 = .ok (.value (.bool false)) w70 := by unfold oA6_9_1; go_simp
  refine sv_ gA6_9_1 Y fun a73 e => ?_; clear Y
  clear h77; have h78 := pt_ F e; replace F := pu_ F e; clear e
  refine sv_ gA6_9_2 (ym_ rfl h78) fun a74 e => ?_
  clear h78; have h79 := pt_ F e; replace F := pu_ F e; clear e
  refine st_val gA6_9_3 rfl (wanted_is (j := 2) (d := 79) rfl rfl h79 rfl) (ym_ rfl (F.of h13)) fun a75 e => ?_
  have h80 := pt_ F e; replace F := pu_ F e; replace h79 := so_ e h79; clear e
  refine st_val gA6_9_4 rfl (wanted_is (j := 2) (d := 79) rfl rfl h79 rfl) (ym_ rfl (F.of h0)) fun a76 e => ?_
  have h81 := pt_ F e; replace F := pu_ F e; replace h79 := so_ e h79; replace h80 := so_ e h80; clear e
  have Y : (execOp a76.eval oA6_9_5).run Try.prog w70 = .ok (.value (.int .i64 n0)) w70 := by have h8 := HF.out.2.2.2.2.1; unfold oA6_9_5; go_simp
  refine st_val gA6_9_5 rfl (wanted_is (j := 2) (d := 79) rfl rfl h79 rfl) Y fun a77 e => ?_; clear Y
  clear h81; have h82 := pt_ F e; replace F := pu_ F e; replace h79 := so_ e h79; replace h80 := so_ e h80; clear e
  have Y : (execOp a77.eval oA6_9_6).run Try.prog w70 = .ok (.value (.int .i64 c0)) w70 := by have h8 := HF.out.2.2.2.2.2; unfold oA6_9_6; go_simp
  refine st_val gA6_9_6 rfl (wanted_is (j := 2) (d := 79) rfl rfl h79 rfl) Y fun a78 e => ?_; clear Y
  clear h82; have h83 := pt_ F e; replace F := pu_ F e; replace h79 := so_ e h79; replace h80 := so_ e h80; clear e
  have Y : (execOp a78.eval oA6_9_7).run Try.prog w70 = .ok (.value (.bool false)) w70 := by unfold oA6_9_7; go_simp
  refine st_val gA6_9_7 rfl (wanted_is (j := 2) (d := 79) rfl rfl h79 rfl) Y fun a79 e => ?_; clear Y
  clear h80 h83; have h84 := pt_ F e; replace F := pu_ F e; replace h79 := so_ e h79; clear e
  have Y : (execOp a79.eval oA6_9_8).run Try.prog w70 = .ok (.value (.bool false)) w70 := by unfold oA6_9_8; go_simp
  refine sv_ gA6_9_8 Y fun a80 e => ?_; clear Y
  clear h79 h84; have h85 := pt_ F e; replace F := pu_ F e; clear e
  refine st_end ?_
  replace h0 := F.of h0; replace h2 := F.of h2; replace h6 := F.of h6; clear h13; clear h15; have R := F.r; clear F
  change (cA6_29).wp _ _ _ _
  refine wp_cond_false (x := cA6_30) (y := Code.skip) (eval_slot h85) ?_
  refine wp_skip ?_
  change (cA6_34).wp _ _ _ _
  refine wp_seq (x := cA6_35) (y := cA6_36) ?_
  change (Code.region 11 OA6_11 false).wp _ _ _ _
  refine reg_in (l := [0, 1, 2, 3, 4, 5, 6, 7]) rfl ?_
  have F : FE_ _ [] a80 a80 := ⟨R, Ag_.refl _⟩; clear R
  refine sv_ gA6_11_0 (ym_ rfl (F.of h0)) fun a81 e => ?_
  have h87 := pt_ F e; replace F := pu_ F e; clear e
  refine sv_ gA6_11_1 (ym_ rfl (F.of h2)) fun a82 e => ?_
  have h88 := pt_ F e; replace F := pu_ F e; replace h87 := so_ e h87; clear e
  have Y : (execOp a82.eval oA6_11_2).run Try.prog w70 = .ok (.enter 19 #[.string (⟨#[60, 60]⟩), .int .i64 a, .int .i64 k]) w70 := by unfold oA6_11_2; go_simp
  have hca := lworth_any (W := w70) (nm := [60, 60]) (i := a) (k := k) (by decide) (ik_wf HA.out.1 HA.out.2) (ik_wf HK.out.1 HK.out.2)
  have hfa := shl_fact (k := k) HA.out
  generalize (evW (opT [60, 60] a k)).v = vl at hca hfa; generalize (evW (opT [60, 60] a k)).k = kl at hca hfa
  have HSL := Lib.hid hfa; clear hfa
  refine st_call gA6_11_2 rfl (wanted_free rfl) Y ((hca).mono ?_); clear Y
  rintro e9 w83 ⟨rfl, kk⟩
  replace K1 := keep_onto K1 kk
  replace B55 := blk_on B55 kk
  replace B66 := blk_on B66 kk
  clear kk
  clear hca
  refine ⟨_, rfl, fun a84 e => ?_⟩
  clear h87 h88; have h89 := pt_ F e; replace F := pu_ F e; clear e
  refine sv_ gA6_11_3 (ym_ rfl h89) fun a85 e => ?_
  clear h89; have h86 := pt_ F e; replace F := pu_ F e; clear e
  refine sv_ gA6_11_4 (ye20_ rfl h86) fun a86 e => ?_
  have h90 := pt_ F e; replace F := pu_ F e; replace h86 := so_ e h86; clear e
  refine sv_ gA6_11_5 (ye21_ rfl h86) fun a87 e => ?_
  clear h86; have h91 := pt_ F e; replace F := pu_ F e; replace h90 := so_ e h90; clear e
  refine sv_ gA6_11_6 (ya_ rfl h90) fun a88 e => ?_
  clear h90; have h16 := pt_ F e; replace F := pu_ F e; replace h91 := so_ e h91; clear e
  refine sv_ gA6_11_7 (ya_ rfl h91) fun a89 e => ?_
  clear h91; have h17 := pt_ F e; replace F := pu_ F e; replace h16 := so_ e h16; clear e
  refine st_end ?_
  replace h0 := F.of h0; replace h2 := F.of h2; replace h6 := F.of h6; clear h85; have R := F.r; clear F
  change (cA6_36).wp _ _ _ _
  refine js_ (x := cA6_37) (y := cA6_50) (fun fX wX => FrS 167 fX ∧ fX.tmps[0]? = some (.int .i64 a) ∧ fX.tmps[2]? = some (.int .i64 k) ∧ fX.tmps[6]? = some (.bool false) ∧ Keep (fun g => g < W.heap.size) W wX ∧ Blk wX b55 24 #[.int .i64 ((Tm.node 2 [] a []).k), .string (str (Tm.node 2 [] a []).nm), .int .i64 ((Tm.node 2 [] a []).i), .slice none (Tm.node 2 [] a []).args.length 0] ∧ Blk wX b66 24 #[.int .i64 zeroT.k, .string (str zeroT.nm), .int .i64 zeroT.i, .slice ax zeroT.args.length cx]) ?_ ?_
  ·
    refine wp_seq (x := cA6_38) (y := cA6_39) ?_
    change (Code.region 12 OA6_12 false).wp _ _ _ _
    refine reg_in (l := [0]) rfl ?_
    have F : FE_ _ [] a89 a89 := ⟨R, Ag_.refl _⟩; clear R
    refine sv_ gA6_12_0 (ym_ rfl (F.of h17)) fun a90 e => ?_
    have h92 := pt_ F e; replace F := pu_ F e; clear e
    refine st_end ?_
    replace h0 := F.of h0; replace h2 := F.of h2; replace h6 := F.of h6; replace h16 := F.of h16; clear h17; have R := F.r; clear F
    change (cA6_39).wp _ _ _ _
    cases kl with
    | false =>
      refine wp_cond_false (x := cA6_40) (y := Code.skip) (eval_slot h92) ?_
      refine wp_skip ?_
      exact ⟨R, h0, h2, h6, K1, B55, B66⟩
    | true =>
      refine wp_cond_true (x := cA6_40) (y := Code.skip) (eval_slot h92) ?_
      refine wp_seq (x := cA6_41) (y := cA6_42) ?_
      change (Code.region 13 OA6_13 false).wp _ _ _ _
      refine reg_in (l := [0, 1, 2, 3, 4, 5, 6, 7]) rfl ?_
      have F : FE_ _ [] a90 a90 := ⟨R, Ag_.refl _⟩; clear R
      refine sv_ gA6_13_0 (ym_ rfl (F.of h16)) fun a91 e => ?_
      have h94 := pt_ F e; replace F := pu_ F e; clear e
      refine sv_ gA6_13_1 (ym_ rfl (F.of h2)) fun a92 e => ?_
      have h95 := pt_ F e; replace F := pu_ F e; replace h94 := so_ e h94; clear e
      have Y : (execOp a92.eval oA6_13_2).run Try.prog w83 = .ok (.enter 19 #[.string (⟨#[62, 62]⟩), .int .i64 vl, .int .i64 k]) w83 := by unfold oA6_13_2; go_simp
      refine st_call gA6_13_2 rfl (wanted_free rfl) Y ((lworth_num (HSL.out.2 rfl) (by decide) HSL.out.1 HK.out).mono ?_); clear Y
      rintro e9 w93 ⟨rfl, kk⟩
      replace K1 := keep_onto K1 kk
      replace B55 := blk_on B55 kk
      replace B66 := blk_on B66 kk
      clear kk
      refine ⟨_, rfl, fun a94 e => ?_⟩
      clear h94 h95; have h96 := pt_ F e; replace F := pu_ F e; clear e
      refine sv_ gA6_13_3 (ym_ rfl h96) fun a95 e => ?_
      clear h96; have h93 := pt_ F e; replace F := pu_ F e; clear e
      refine sv_ gA6_13_4 (ye20_ rfl h93) fun a96 e => ?_
      have h97 := pt_ F e; replace F := pu_ F e; replace h93 := so_ e h93; clear e
      refine sv_ gA6_13_5 (ye21_ rfl h93) fun a97 e => ?_
      clear h93; have h98 := pt_ F e; replace F := pu_ F e; replace h97 := so_ e h97; clear e
      refine sv_ gA6_13_6 (ya_ rfl h97) fun a98 e => ?_
      clear h97; have h18 := pt_ F e; replace F := pu_ F e; replace h98 := so_ e h98; clear e
      refine sv_ gA6_13_7 (ya_ rfl h98) fun a99 e => ?_
      clear h98; have h19 := pt_ F e; replace F := pu_ F e; replace h18 := so_ e h18; clear e
      refine st_end ?_
      replace h0 := F.of h0; replace h2 := F.of h2; replace h6 := F.of h6; clear h16; clear h92; have R := F.r; clear F
      change (cA6_42).wp _ _ _ _
      refine wp_seq (x := cA6_43) (y := cA6_44) ?_
      change (Code.region 14 OA6_14 false).wp _ _ _ _
      refine reg_in (l := [0, 1, 2, 3, 4, 5, 6]) rfl ?_
      have F : FE_ _ [] a99 a99 := ⟨R, Ag_.refl _⟩; clear R
      refine sv_ gA6_14_0 (ym_ rfl (F.of h19)) fun a100 e => ?_
      have h99 := pt_ F e; replace F := pu_ F e; clear e
      have Y : (execOp a100.eval oA6_14_1).run Try.prog w93 = .ok (.value (.bool false)) w93 := by unfold oA6_14_1; go_simp
      refine sv_ gA6_14_1 Y fun a101 e => ?_; clear Y
      clear h99; have h100 := pt_ F e; replace F := pu_ F e; clear e
      refine sv_ gA6_14_2 (ym_ rfl h100) fun a102 e => ?_
      clear h100; have h101 := pt_ F e; replace F := pu_ F e; clear e
      refine st_val gA6_14_3 rfl (wanted_is (j := 2) (d := 101) rfl rfl h101 rfl) (ym_ rfl (F.of h18)) fun a103 e => ?_
      have h102 := pt_ F e; replace F := pu_ F e; replace h101 := so_ e h101; clear e
      refine st_val gA6_14_4 rfl (wanted_is (j := 2) (d := 101) rfl rfl h101 rfl) (ym_ rfl (F.of h0)) fun a104 e => ?_
      have h103 := pt_ F e; replace F := pu_ F e; replace h101 := so_ e h101; replace h102 := so_ e h102; clear e
      have Y : (execOp a104.eval oA6_14_5).run Try.prog w93 = .ok (.value (.bool false)) w93 := by unfold oA6_14_5; go_simp
      refine st_val gA6_14_5 rfl (wanted_is (j := 2) (d := 101) rfl rfl h101 rfl) Y fun a105 e => ?_; clear Y
      clear h102 h103; have h104 := pt_ F e; replace F := pu_ F e; replace h101 := so_ e h101; clear e
      have Y : (execOp a105.eval oA6_14_6).run Try.prog w93 = .ok (.value (.bool false)) w93 := by unfold oA6_14_6; go_simp
      refine sv_ gA6_14_6 Y fun a106 e => ?_; clear Y
      clear h101 h104; have h105 := pt_ F e; replace F := pu_ F e; clear e
      refine st_end ?_
      replace h0 := F.of h0; replace h2 := F.of h2; replace h6 := F.of h6; clear h18; clear h19; have R := F.r; clear F
      change (cA6_44).wp _ _ _ _
      refine wp_cond_false (x := cA6_45) (y := Code.skip) (eval_slot h105) ?_
      refine wp_skip ?_
      exact ⟨R, h0, h2, h6, K1, B55, B66⟩
  ·
    clear R h0 h2 h6 K1 B55 B66 h16 h17
    rintro a107 w108 ⟨R, h0, h2, h6, K1, B55, B66⟩
    refine wp_seq (x := cA6_51) (y := cA6_52) ?_
    change (Code.region 16 OA6_16 false).wp _ _ _ _
    refine reg_in (l := [0, 1, 2, 3, 4, 5, 6, 7]) rfl ?_
    have F : FE_ _ [] a107 a107 := ⟨R, Ag_.refl _⟩; clear R
    refine sv_ gA6_16_0 (ym_ rfl (F.of h0)) fun a109 e => ?_
    have h107 := pt_ F e; replace F := pu_ F e; clear e
    refine sv_ gA6_16_1 (ym_ rfl (F.of h2)) fun a110 e => ?_
    have h108 := pt_ F e; replace F := pu_ F e; replace h107 := so_ e h107; clear e
    have Y : (execOp a110.eval oA6_16_2).run Try.prog w108 = .ok (.enter 19 #[.string (⟨#[62, 62]⟩), .int .i64 a, .int .i64 k]) w108 := by unfold oA6_16_2; go_simp
    have hca := lworth_any (W := w108) (nm := [62, 62]) (i := a) (k := k) (by decide) (ik_wf HA.out.1 HA.out.2) (ik_wf HK.out.1 HK.out.2)
    have hfa := shr_fact (k := k) HA.out
    generalize (evW (opT [62, 62] a k)).v = vr at hca hfa; generalize (evW (opT [62, 62] a k)).k = kr at hca hfa
    have HSR := Lib.hid hfa; clear hfa
    refine st_call gA6_16_2 rfl (wanted_free rfl) Y ((hca).mono ?_); clear Y
    rintro e9 w111 ⟨rfl, kk⟩
    replace K1 := keep_onto K1 kk
    replace B55 := blk_on B55 kk
    replace B66 := blk_on B66 kk
    clear kk
    clear hca
    refine ⟨_, rfl, fun a112 e => ?_⟩
    clear h107 h108; have h109 := pt_ F e; replace F := pu_ F e; clear e
    refine sv_ gA6_16_3 (ym_ rfl h109) fun a113 e => ?_
    clear h109; have h106 := pt_ F e; replace F := pu_ F e; clear e
    refine sv_ gA6_16_4 (ye20_ rfl h106) fun a114 e => ?_
    have h110 := pt_ F e; replace F := pu_ F e; replace h106 := so_ e h106; clear e
    refine sv_ gA6_16_5 (ye21_ rfl h106) fun a115 e => ?_
    clear h106; have h111 := pt_ F e; replace F := pu_ F e; replace h110 := so_ e h110; clear e
    refine sv_ gA6_16_6 (ya_ rfl h110) fun a116 e => ?_
    clear h110; have h20 := pt_ F e; replace F := pu_ F e; replace h111 := so_ e h111; clear e
    refine sv_ gA6_16_7 (ya_ rfl h111) fun a117 e => ?_
    clear h111; have h21 := pt_ F e; replace F := pu_ F e; replace h20 := so_ e h20; clear e
    refine st_end ?_
    replace h0 := F.of h0; replace h2 := F.of h2; replace h6 := F.of h6; have R := F.r; clear F
    change (cA6_52).wp _ _ _ _
    refine js_ (x := cA6_53) (y := cA6_60) (fun fX wX => FrS 167 fX ∧ fX.tmps[0]? = some (.int .i64 a) ∧ fX.tmps[2]? = some (.int .i64 k) ∧ fX.tmps[6]? = some (.bool false) ∧ Keep (fun g => g < W.heap.size) W wX ∧ Blk wX b55 24 #[.int .i64 ((Tm.node 2 [] a []).k), .string (str (Tm.node 2 [] a []).nm), .int .i64 ((Tm.node 2 [] a []).i), .slice none (Tm.node 2 [] a []).args.length 0] ∧ Blk wX b66 24 #[.int .i64 zeroT.k, .string (str zeroT.nm), .int .i64 zeroT.i, .slice ax zeroT.args.length cx]) ?_ ?_
    ·
      refine wp_seq (x := cA6_54) (y := cA6_55) ?_
      change (Code.region 17 OA6_17 false).wp _ _ _ _
      refine reg_in (l := [0, 1, 2, 3, 4, 5, 6, 7, 8, 9, 10, 11, 12, 13]) rfl ?_
      have F : FE_ _ [] a117 a117 := ⟨R, Ag_.refl _⟩; clear R
      refine sv_ gA6_17_0 (ym_ rfl (F.of h21)) fun a118 e => ?_
      have h112 := pt_ F e; replace F := pu_ F e; clear e
      refine sv_ gA6_17_1 (ym_ rfl (F.of h2)) fun a119 e => ?_
      have h113 := pt_ F e; replace F := pu_ F e; replace h112 := so_ e h112; clear e
      obtain ⟨b120, hb120⟩ : ∃ x, (decide ((0 : Int) ≤ (k : Int))) = x := ⟨_, rfl⟩
      have Y : (execOp a119.eval oA6_17_2).run Try.prog w111 = .ok (.value (.bool b120)) w111 := by rw [← hb120]; unfold oA6_17_2; go_simp
      refine sv_ gA6_17_2 Y fun a121 e => ?_; clear Y
      clear h113; have h114 := pt_ F e; replace F := pu_ F e; replace h112 := so_ e h112; clear e
      cases kr with
      | false =>
        cases b120 with
        | false =>
          have fb120 := hb120; clear hb120
          simp only [decide_eq_true_eq, decide_eq_false_iff_not, bne_iff_ne, bne_eq_false_iff_eq, beq_iff_eq, beq_eq_false_iff_ne, ne_eq, Bool.not_eq_true', Bool.not_eq_false', Bool.not_eq_eq_eq_not, Bool.not_true, Bool.not_false] at fb120
          have Y : (execOp a121.eval oA6_17_3).run Try.prog w111 = .ok (.value (.bool false)) w111 := by unfold oA6_17_3; go_simp
          refine sv_ gA6_17_3 Y fun a122 e => ?_; clear Y
          clear h112 h114; have h115 := pt_ F e; replace F := pu_ F e; clear e
          refine sv_ gA6_17_4 (ym_ rfl h115) fun a123 e => ?_
          clear h115; have h116 := pt_ F e; replace F := pu_ F e; clear e
          refine st_val gA6_17_5 rfl (wanted_is (j := 4) (d := 116) rfl rfl h116 rfl) (ym_ rfl (F.of h21)) fun a124 e => ?_
          have h117 := pt_ F e; replace F := pu_ F e; replace h116 := so_ e h116; clear e
          refine st_val gA6_17_6 rfl (wanted_is (j := 4) (d := 116) rfl rfl h116 rfl) (ym_ rfl h117) fun a125 e => ?_
          clear h117; have h118 := pt_ F e; replace F := pu_ F e; replace h116 := so_ e h116; clear e
          refine st_not gA6_17_7 rfl (wanted_is (j := 6) (d := 118) rfl rfl h118 rfl) fun a126 e => ?_
          have h119 := pt_ F e; replace F := pu_ F e; replace h116 := so_ e h116; replace h118 := so_ e h118; clear e
          refine st_not gA6_17_8 rfl (wanted_is (j := 6) (d := 118) rfl rfl h118 rfl) fun a127 e => ?_
          clear h119; have h120 := pt_ F e; replace F := pu_ F e; replace h116 := so_ e h116; replace h118 := so_ e h118; clear e
          refine st_not gA6_17_9 rfl (wanted_is (j := 6) (d := 118) rfl rfl h118 rfl) fun a128 e => ?_
          have h121 := pt_ F e; replace F := pu_ F e; replace h116 := so_ e h116; replace h118 := so_ e h118; replace h120 := so_ e h120; clear e
          refine st_not gA6_17_10 rfl (wanted_is (j := 6) (d := 118) rfl rfl h118 rfl) fun a129 e => ?_
          clear h121; have h122 := pt_ F e; replace F := pu_ F e; replace h116 := so_ e h116; replace h118 := so_ e h118; replace h120 := so_ e h120; clear e
          refine st_not gA6_17_11 rfl (wanted_is (j := 6) (d := 118) rfl rfl h118 rfl) fun a130 e => ?_
          clear h120 h122; have h123 := pt_ F e; replace F := pu_ F e; replace h116 := so_ e h116; replace h118 := so_ e h118; clear e
          have Y : (execOp a130.eval oA6_17_12).run Try.prog w111 = .ok (.value (.bool false)) w111 := by unfold oA6_17_12; go_simp
          refine st_val gA6_17_12 rfl (wanted_is (j := 4) (d := 116) rfl rfl h116 rfl) Y fun a131 e => ?_; clear Y
          clear h118 h123; have h124 := pt_ F e; replace F := pu_ F e; replace h116 := so_ e h116; clear e
          have Y : (execOp a131.eval oA6_17_13).run Try.prog w111 = .ok (.value (.bool false)) w111 := by unfold oA6_17_13; go_simp
          refine sv_ gA6_17_13 Y fun a132 e => ?_; clear Y
          clear h116 h124; have h125 := pt_ F e; replace F := pu_ F e; clear e
          refine st_end ?_
          replace h0 := F.of h0; replace h2 := F.of h2; replace h6 := F.of h6; clear h20; clear h21; have R := F.r; clear F
          change (cA6_55).wp _ _ _ _
          refine wp_cond_false (x := cA6_56) (y := Code.skip) (eval_slot h125) ?_
          refine wp_skip ?_
          exact ⟨R, h0, h2, h6, K1, B55, B66⟩
        | true =>
          have fb120 := hb120; clear hb120
          simp only [decide_eq_true_eq, decide_eq_false_iff_not, bne_iff_ne, bne_eq_false_iff_eq, beq_iff_eq, beq_eq_false_iff_ne, ne_eq, Bool.not_eq_true', Bool.not_eq_false', Bool.not_eq_eq_eq_not, Bool.not_true, Bool.not_false] at fb120
          have Y : (execOp a121.eval oA6_17_3).run Try.prog w111 = .ok (.value (.bool true)) w111 := by unfold oA6_17_3; go_simp
          refine sv_ gA6_17_3 Y fun a133 e => ?_; clear Y
          clear h112 h114; have h115 := pt_ F e; replace F := pu_ F e; clear e
          refine sv_ gA6_17_4 (ym_ rfl h115) fun a134 e => ?_
          clear h115; have h116 := pt_ F e; replace F := pu_ F e; clear e
          refine st_not gA6_17_5 rfl (wanted_is (j := 4) (d := 116) rfl rfl h116 rfl) fun a135 e => ?_
          have h117 := pt_ F e; replace F := pu_ F e; replace h116 := so_ e h116; clear e
          refine st_not gA6_17_6 rfl (wanted_is (j := 4) (d := 116) rfl rfl h116 rfl) fun a136 e => ?_
          clear h117; have h118 := pt_ F e; replace F := pu_ F e; replace h116 := so_ e h116; clear e
          refine st_not gA6_17_7 rfl (wanted_un (j := 6) (d := 118) rfl rfl h118) fun a137 e => ?_
          have h119 := pt_ F e; replace F := pu_ F e; replace h116 := so_ e h116; replace h118 := so_ e h118; clear e
          refine st_not gA6_17_8 rfl (wanted_un (j := 6) (d := 118) rfl rfl h118) fun a138 e => ?_
          clear h119; have h120 := pt_ F e; replace F := pu_ F e; replace h116 := so_ e h116; replace h118 := so_ e h118; clear e
          refine st_not gA6_17_9 rfl (wanted_un (j := 6) (d := 118) rfl rfl h118) fun a139 e => ?_
          have h121 := pt_ F e; replace F := pu_ F e; replace h116 := so_ e h116; replace h118 := so_ e h118; replace h120 := so_ e h120; clear e
          refine st_not gA6_17_10 rfl (wanted_un (j := 6) (d := 118) rfl rfl h118) fun a140 e => ?_
          clear h121; have h122 := pt_ F e; replace F := pu_ F e; replace h116 := so_ e h116; replace h118 := so_ e h118; replace h120 := so_ e h120; clear e
          refine st_not gA6_17_11 rfl (wanted_un (j := 6) (d := 118) rfl rfl h118) fun a141 e => ?_
          clear h120 h122; have h123 := pt_ F e; replace F := pu_ F e; replace h116 := so_ e h116; replace h118 := so_ e h118; clear e
          refine st_not gA6_17_12 rfl (wanted_is (j := 4) (d := 116) rfl rfl h116 rfl) fun a142 e => ?_
          clear h118 h123; have h124 := pt_ F e; replace F := pu_ F e; replace h116 := so_ e h116; clear e
          have Y : (execOp a142.eval oA6_17_13).run Try.prog w111 = .ok (.value (.bool true)) w111 := by unfold oA6_17_13; go_simp
          refine sv_ gA6_17_13 Y fun a143 e => ?_; clear Y
          clear h116 h124; have h125 := pt_ F e; replace F := pu_ F e; clear e
          refine st_end ?_
          replace h0 := F.of h0; replace h2 := F.of h2; replace h6 := F.of h6; clear h20; clear h21; have R := F.r; clear F
          change (cA6_55).wp _ _ _ _
          refine wp_cond_true (x := cA6_56) (y := Code.skip) (eval_slot h125) ?_
          refine wp_seq (x := cA6_57) (y := Code.ret) ?_
          change (Code.region 18 OA6_18 false).wp _ _ _ _
          refine reg_in (l := [0]) rfl ?_
          have F : FE_ _ [] a143 a143 := ⟨R, Ag_.refl _⟩; clear R
          have Y : (execOp a143.eval oA6_18_0).run Try.prog w111 = .ok (.value (.bool false)) w111 := by unfold oA6_18_0; go_simp
          refine sv_ gA6_18_0 Y fun a144 e => ?_; clear Y
          clear h6; have h6 := pt_ F e; replace F := pu_ F e; clear e
          refine st_end ?_
          replace h0 := F.of h0; replace h2 := F.of h2; clear h125; have R := F.r; clear F
          change (Code.ret).wp _ _ _ _
          refine wp_ret ?_
          change bodyPost Try.prog Try.f6 (fun e w' => e = .returned (.bool true) ∧ Keep (fun g => g < W.heap.size) W w') .ret a144 w111
          refine ret_one rfl R h6 ?_
          exfalso; have h8 := HSR.out; simp at h8; omega
      | true =>
        cases b120 with
        | false =>
          have fb120 := hb120; clear hb120
          simp only [decide_eq_true_eq, decide_eq_false_iff_not, bne_iff_ne, bne_eq_false_iff_eq, beq_iff_eq, beq_eq_false_iff_ne, ne_eq, Bool.not_eq_true', Bool.not_eq_false', Bool.not_eq_eq_eq_not, Bool.not_true, Bool.not_false] at fb120
          have Y : (execOp a121.eval oA6_17_3).run Try.prog w111 = .ok (.value (.bool true)) w111 := by unfold oA6_17_3; go_simp
          refine sv_ gA6_17_3 Y fun a145 e => ?_; clear Y
          clear h112 h114; have h115 := pt_ F e; replace F := pu_ F e; clear e
          refine sv_ gA6_17_4 (ym_ rfl h115) fun a146 e => ?_
          clear h115; have h116 := pt_ F e; replace F := pu_ F e; clear e
          refine st_not gA6_17_5 rfl (wanted_is (j := 4) (d := 116) rfl rfl h116 rfl) fun a147 e => ?_
          have h117 := pt_ F e; replace F := pu_ F e; replace h116 := so_ e h116; clear e
          refine st_not gA6_17_6 rfl (wanted_is (j := 4) (d := 116) rfl rfl h116 rfl) fun a148 e => ?_
          clear h117; have h118 := pt_ F e; replace F := pu_ F e; replace h116 := so_ e h116; clear e
          refine st_not gA6_17_7 rfl (wanted_un (j := 6) (d := 118) rfl rfl h118) fun a149 e => ?_
          have h119 := pt_ F e; replace F := pu_ F e; replace h116 := so_ e h116; replace h118 := so_ e h118; clear e
          refine st_not gA6_17_8 rfl (wanted_un (j := 6) (d := 118) rfl rfl h118) fun a150 e => ?_
          clear h119; have h120 := pt_ F e; replace F := pu_ F e; replace h116 := so_ e h116; replace h118 := so_ e h118; clear e
          refine st_not gA6_17_9 rfl (wanted_un (j := 6) (d := 118) rfl rfl h118) fun a151 e => ?_
          have h121 := pt_ F e; replace F := pu_ F e; replace h116 := so_ e h116; replace h118 := so_ e h118; replace h120 := so_ e h120; clear e
          refine st_not gA6_17_10 rfl (wanted_un (j := 6) (d := 118) rfl rfl h118) fun a152 e => ?_
          clear h121; have h122 := pt_ F e; replace F := pu_ F e; replace h116 := so_ e h116; replace h118 := so_ e h118; replace h120 := so_ e h120; clear e
          refine st_not gA6_17_11 rfl (wanted_un (j := 6) (d := 118) rfl rfl h118) fun a153 e => ?_
          clear h120 h122; have h123 := pt_ F e; replace F := pu_ F e; replace h116 := so_ e h116; replace h118 := so_ e h118; clear e
          refine st_not gA6_17_12 rfl (wanted_is (j := 4) (d := 116) rfl rfl h116 rfl) fun a154 e => ?_
          clear h118 h123; have h124 := pt_ F e; replace F := pu_ F e; replace h116 := so_ e h116; clear e
          have Y : (execOp a154.eval oA6_17_13).run Try.prog w111 = .ok (.value (.bool true)) w111 := by unfold oA6_17_13; go_simp
          refine sv_ gA6_17_13 Y fun a155 e => ?_; clear Y
          clear h116 h124; have h125 := pt_ F e; replace F := pu_ F e; clear e
          refine st_end ?_
          replace h0 := F.of h0; replace h2 := F.of h2; replace h6 := F.of h6; clear h20; clear h21; have R := F.r; clear F
          change (cA6_55).wp _ _ _ _
          refine wp_cond_true (x := cA6_56) (y := Code.skip) (eval_slot h125) ?_
          refine wp_seq (x := cA6_57) (y := Code.ret) ?_
          change (Code.region 18 OA6_18 false).wp _ _ _ _
          refine reg_in (l := [0]) rfl ?_
          have F : FE_ _ [] a155 a155 := ⟨R, Ag_.refl _⟩; clear R
          have Y : (execOp a155.eval oA6_18_0).run Try.prog w111 = .ok (.value (.bool false)) w111 := by unfold oA6_18_0; go_simp
          refine sv_ gA6_18_0 Y fun a156 e => ?_; clear Y
          clear h6; have h6 := pt_ F e; replace F := pu_ F e; clear e
          refine st_end ?_
          replace h0 := F.of h0; replace h2 := F.of h2; clear h125; have R := F.r; clear F
          change (Code.ret).wp _ _ _ _
          refine wp_ret ?_
          change bodyPost Try.prog Try.f6 (fun e w' => e = .returned (.bool true) ∧ Keep (fun g => g < W.heap.size) W w') .ret a156 w111
          refine ret_one rfl R h6 ?_
          exfalso; have h8 := HSR.out; simp at h8; omega
        | true =>
          have fb120 := hb120; clear hb120
          simp only [decide_eq_true_eq, decide_eq_false_iff_not, bne_iff_ne, bne_eq_false_iff_eq, beq_iff_eq, beq_eq_false_iff_ne, ne_eq, Bool.not_eq_true', Bool.not_eq_false', Bool.not_eq_eq_eq_not, Bool.not_true, Bool.not_false] at fb120
          have Y : (execOp a121.eval oA6_17_3).run Try.prog w111 = .ok (.value (.bool false)) w111 := by unfold oA6_17_3; go_simp
          refine sv_ gA6_17_3 Y fun a157 e => ?_; clear Y
          clear h112 h114; have h115 := pt_ F e; replace F := pu_ F e; clear e
          refine sv_ gA6_17_4 (ym_ rfl h115) fun a158 e => ?_
          clear h115; have h116 := pt_ F e; replace F := pu_ F e; clear e
          refine st_val gA6_17_5 rfl (wanted_is (j := 4) (d := 116) rfl rfl h116 rfl) (ym_ rfl (F.of h21)) fun a159 e => ?_
          have h117 := pt_ F e; replace F := pu_ F e; replace h116 := so_ e h116; clear e
          refine st_val gA6_17_6 rfl (wanted_is (j := 4) (d := 116) rfl rfl h116 rfl) (ym_ rfl h117) fun a160 e => ?_
          clear h117; have h118 := pt_ F e; replace F := pu_ F e; replace h116 := so_ e h116; clear e
          refine st_val gA6_17_7 rfl (wanted_is (j := 6) (d := 118) rfl rfl h118 rfl) (ym_ rfl (F.of h20)) fun a161 e => ?_
          have h119 := pt_ F e; replace F := pu_ F e; replace h116 := so_ e h116; replace h118 := so_ e h118; clear e
          obtain ⟨b162, hb162⟩ : ∃ x, (decide ((vr : Int) < (0 : Int))) = x := ⟨_, rfl⟩
          have Y : (execOp a161.eval oA6_17_8).run Try.prog w111 = .ok (.value (.bool b162)) w111 := by rw [← hb162]; unfold oA6_17_8; go_simp
          refine st_val gA6_17_8 rfl (wanted_is (j := 6) (d := 118) rfl rfl h118 rfl) Y fun a163 e => ?_; clear Y
          clear h119; have h120 := pt_ F e; replace F := pu_ F e; replace h116 := so_ e h116; replace h118 := so_ e h118; clear e
          refine st_val gA6_17_9 rfl (wanted_is (j := 6) (d := 118) rfl rfl h118 rfl) (ym_ rfl (F.of h0)) fun a164 e => ?_
          have h121 := pt_ F e; replace F := pu_ F e; replace h116 := so_ e h116; replace h118 := so_ e h118; replace h120 := so_ e h120; clear e
          obtain ⟨b165, hb165⟩ : ∃ x, (decide ((a : Int) < (0 : Int))) = x := ⟨_, rfl⟩
          have Y : (execOp a164.eval oA6_17_10).run Try.prog w111 = .ok (.value (.bool b165)) w111 := by rw [← hb165]; unfold oA6_17_10; go_simp
          refine st_val gA6_17_10 rfl (wanted_is (j := 6) (d := 118) rfl rfl h118 rfl) Y fun a166 e => ?_; clear Y
          clear h121; have h122 := pt_ F e; replace F := pu_ F e; replace h116 := so_ e h116; replace h118 := so_ e h118; replace h120 := so_ e h120; clear e
          cases b162 with
          | false =>
            have fb162 := hb162; clear hb162
            simp only [decide_eq_true_eq, decide_eq_false_iff_not, bne_iff_ne, bne_eq_false_iff_eq, beq_iff_eq, beq_eq_false_iff_ne, ne_eq, Bool.not_eq_true', Bool.not_eq_false', Bool.not_eq_eq_eq_not, Bool.not_true, Bool.not_false] at fb162
            cases b165 with
            | false =>
              have fb165 := hb165; clear hb165
              simp only [decide_eq_true_eq, decide_eq_false_iff_not, bne_iff_ne, bne_eq_false_iff_eq, beq_iff_eq, beq_eq_false_iff_ne, ne_eq, Bool.not_eq_true', Bool.not_eq_false', Bool.not_eq_eq_eq_not, Bool.not_true, Bool.not_false] at fb165
              have Y : (execOp a166.eval oA6_17_11).run Try.prog w111 = .ok (.value (.bool false)) w111 := by unfold oA6_17_11; go_simp
              refine st_val gA6_17_11 rfl (wanted_is (j := 6) (d := 118) rfl rfl h118 rfl) Y fun a167 e => ?_; clear Y
              clear h120 h122; have h123 := pt_ F e; replace F := pu_ F e; replace h116 := so_ e h116; replace h118 := so_ e h118; clear e
              have Y : (execOp a167.eval oA6_17_12).run Try.prog w111 = .ok (.value (.bool false)) w111 := by unfold oA6_17_12; go_simp
              refine st_val gA6_17_12 rfl (wanted_is (j := 4) (d := 116) rfl rfl h116 rfl) Y fun a168 e => ?_; clear Y
              clear h118 h123; have h124 := pt_ F e; replace F := pu_ F e; replace h116 := so_ e h116; clear e
              have Y : (execOp a168.eval oA6_17_13).run Try.prog w111 = .ok (.value (.bool false)) w111 := by unfold oA6_17_13; go_simp
              refine sv_ gA6_17_13 Y fun a169 e => ?_; clear Y
              clear h116 h124; have h125 := pt_ F e; replace F := pu_ F e; clear e
              refine st_end ?_
              replace h0 := F.of h0; replace h2 := F.of h2; replace h6 := F.of h6; clear h20; clear h21; have R := F.r; clear F
              change (cA6_55).wp _ _ _ _
              refine wp_cond_false (x := cA6_56) (y := Code.skip) (eval_slot h125) ?_
              refine wp_skip ?_
              exact ⟨R, h0, h2, h6, K1, B55, B66⟩
            | true =>
              have fb165 := hb165; clear hb165
              simp only [decide_eq_true_eq, decide_eq_false_iff_not, bne_iff_ne, bne_eq_false_iff_eq, beq_iff_eq, beq_eq_false_iff_ne, ne_eq, Bool.not_eq_true', Bool.not_eq_false', Bool.not_eq_eq_eq_not, Bool.not_true, Bool.not_false] at fb165
              have Y : (execOp a166.eval oA6_17_11).run Try.prog w111 = .ok (.value (.bool true)) w111 := by unfold oA6_17_11; go_simp
              refine st_val gA6_17_11 rfl (wanted_is (j := 6) (d := 118) rfl rfl h118 rfl) Y fun a170 e => ?_; clear Y
              clear h120 h122; have h123 := pt_ F e; replace F := pu_ F e; replace h116 := so_ e h116; replace h118 := so_ e h118; clear e
              have Y : (execOp a170.eval oA6_17_12).run Try.prog w111 = .ok (.value (.bool true)) w111 := by unfold oA6_17_12; go_simp
              refine st_val gA6_17_12 rfl (wanted_is (j := 4) (d := 116) rfl rfl h116 rfl) Y fun a171 e => ?_; clear Y
              clear h118 h123; have h124 := pt_ F e; replace F := pu_ F e; replace h116 := so_ e h116; clear e
              have Y : (execOp a171.eval oA6_17_13).run Try.prog w111 = .ok (.value (.bool true)) w111 := by unfold oA6_17_13; go_simp
              refine sv_ gA6_17_13 Y fun a172 e => ?_; clear Y
              clear h116 h124; have h125 := pt_ F e; replace F := pu_ F e; clear e
              refine st_end ?_
              replace h0 := F.of h0; replace h2 := F.of h2; replace h6 := F.of h6; clear h20; clear h21; have R := F.r; clear F
              change (cA6_55).wp _ _ _ _
              refine wp_cond_true (x := cA6_56) (y := Code.skip) (eval_slot h125) ?_
              refine wp_seq (x := cA6_57) (y := Code.ret) ?_
              change (Code.region 18 OA6_18 false).wp _ _ _ _
              refine reg_in (l := [0]) rfl ?_
              have F : FE_ _ [] a172 a172 := ⟨R, Ag_.refl _⟩; clear R
              have Y : (execOp a172.eval oA6_18_0).run Try.prog w111 = .ok (.value (.bool false)) w111 := by unfold oA6_18_0; go_simp
              refine sv_ gA6_18_0 Y fun a173 e => ?_; clear Y
              clear h6; have h6 := pt_ F e; replace F := pu_ F e; clear e
              refine st_end ?_
              replace h0 := F.of h0; replace h2 := F.of h2; clear h125; have R := F.r; clear F
              change (Code.ret).wp _ _ _ _
              refine wp_ret ?_
              change bodyPost Try.prog Try.f6 (fun e w' => e = .returned (.bool true) ∧ Keep (fun g => g < W.heap.size) W w') .ret a173 w111
              refine ret_one rfl R h6 ?_
              exfalso; have h8 := HSR.out; simp at h8; omega
          | true =>
            have fb162 := hb162; clear hb162
            simp only [decide_eq_true_eq, decide_eq_false_iff_not, bne_iff_ne, bne_eq_false_iff_eq, beq_iff_eq, beq_eq_false_iff_ne, ne_eq, Bool.not_eq_true', Bool.not_eq_false', Bool.not_eq_eq_eq_not, Bool.not_true, Bool.not_false] at fb162
            cases b165 with
            | false =>
              have fb165 := hb165; clear hb165
              simp only [decide_eq_true_eq, decide_eq_false_iff_not, bne_iff_ne, bne_eq_false_iff_eq, beq_iff_eq, beq_eq_false_iff_ne, ne_eq, Bool.not_eq_true', Bool.not_eq_false', Bool.not_eq_eq_eq_not, Bool.not_true, Bool.not_false] at fb165
              have Y : (execOp a166.eval oA6_17_11).run Try.prog w111 = .ok (.value (.bool true)) w111 := by unfold oA6_17_11; go_simp
              refine st_val gA6_17_11 rfl (wanted_is (j := 6) (d := 118) rfl rfl h118 rfl) Y fun a174 e => ?_; clear Y
              clear h120 h122; have h123 := pt_ F e; replace F := pu_ F e; replace h116 := so_ e h116; replace h118 := so_ e h118; clear e
              have Y : (execOp a174.eval oA6_17_12).run Try.prog w111 = .ok (.value (.bool true)) w111 := by unfold oA6_17_12; go_simp
              refine st_val gA6_17_12 rfl (wanted_is (j := 4) (d := 116) rfl rfl h116 rfl) Y fun a175 e => ?_; clear Y
              clear h118 h123; have h124 := pt_ F e; replace F := pu_ F e; replace h116 := so_ e h116; clear e
              have Y : (execOp a175.eval oA6_17_13).run Try.prog w111 = .ok (.value (.bool true)) w111 := by unfold oA6_17_13; go_simp
              refine sv_ gA6_17_13 Y fun a176 e => ?_; clear Y
              clear h116 h124; have h125 := pt_ F e; replace F := pu_ F e; clear e
              refine st_end ?_
              replace h0 := F.of h0; replace h2 := F.of h2; replace h6 := F.of h6; clear h20; clear h21; have R := F.r; clear F
              change (cA6_55).wp _ _ _ _
              refine wp_cond_true (x := cA6_56) (y := Code.skip) (eval_slot h125) ?_
              refine wp_seq (x := cA6_57) (y := Code.ret) ?_
              change (Code.region 18 OA6_18 false).wp _ _ _ _
              refine reg_in (l := [0]) rfl ?_
              have F : FE_ _ [] a176 a176 := ⟨R, Ag_.refl _⟩; clear R
              have Y : (execOp a176.eval oA6_18_0).run Try.prog w111 = .ok (.value (.bool false)) w111 := by unfold oA6_18_0; go_simp
              refine sv_ gA6_18_0 Y fun a177 e => ?_; clear Y
              clear h6; have h6 := pt_ F e; replace F := pu_ F e; clear e
              refine st_end ?_
              replace h0 := F.of h0; replace h2 := F.of h2; clear h125; have R := F.r; clear F
              change (Code.ret).wp _ _ _ _
              refine wp_ret ?_
              change bodyPost Try.prog Try.f6 (fun e w' => e = .returned (.bool true) ∧ Keep (fun g => g < W.heap.size) W w') .ret a177 w111
              refine ret_one rfl R h6 ?_
              exfalso; have h8 := HSR.out; simp at h8; omega
            | true =>
              have fb165 := hb165; clear hb165
              simp only [decide_eq_true_eq, decide_eq_false_iff_not, bne_iff_ne, bne_eq_false_iff_eq, beq_iff_eq, beq_eq_false_iff_ne, ne_eq, Bool.not_eq_true', Bool.not_eq_false', Bool.not_eq_eq_eq_not, Bool.not_true, Bool.not_false] at fb165
              have Y : (execOp a166.eval oA6_17_11).run Try.prog w111 = .ok (.value (.bool false)) w111 := by unfold oA6_17_11; go_simp
              refine st_val gA6_17_11 rfl (wanted_is (j := 6) (d := 118) rfl rfl h118 rfl) Y fun a178 e => ?_; clear Y
              clear h120 h122; have h123 := pt_ F e; replace F := pu_ F e; replace h116 := so_ e h116; replace h118 := so_ e h118; clear e
              have Y : (execOp a178.eval oA6_17_12).run Try.prog w111 = .ok (.value (.bool false)) w111 := by unfold oA6_17_12; go_simp
              refine st_val gA6_17_12 rfl (wanted_is (j := 4) (d := 116) rfl rfl h116 rfl) Y fun a179 e => ?_; clear Y
              clear h118 h123; have h124 := pt_ F e; replace F := pu_ F e; replace h116 := so_ e h116; clear e
              have Y : (execOp a179.eval oA6_17_13).run Try.prog w111 = .ok (.value (.bool false)) w111 := by unfold oA6_17_13; go_simp
              refine sv_ gA6_17_13 Y fun a180 e => ?_; clear Y
              clear h116 h124; have h125 := pt_ F e; replace F := pu_ F e; clear e
              refine st_end ?_
              replace h0 := F.of h0; replace h2 := F.of h2; replace h6 := F.of h6; clear h20; clear h21; have R := F.r; clear F
              change (cA6_55).wp _ _ _ _
              refine wp_cond_false (x := cA6_56) (y := Code.skip) (eval_slot h125) ?_
              refine wp_skip ?_
              exact ⟨R, h0, h2, h6, K1, B55, B66⟩
    ·
      clear R h0 h2 h6 K1 B55 B66 h20 h21
      rintro a181 w182 ⟨R, h0, h2, h6, K1, B55, B66⟩
      refine wp_seq (x := cA6_61) (y := cA6_62) ?_
      change (Code.region 19 OA6_19 false).wp _ _ _ _
      refine reg_in (l := [0, 1, 2, 3, 4, 5, 6, 7]) rfl ?_
      have F : FE_ _ [] a181 a181 := ⟨R, Ag_.refl _⟩; clear R
      refine sv_ gA6_19_0 (ym_ rfl (F.of h0)) fun a183 e => ?_
      have h127 := pt_ F e; replace F := pu_ F e; clear e
      refine sv_ gA6_19_1 (ym_ rfl (F.of h2)) fun a184 e => ?_
      have h128 := pt_ F e; replace F := pu_ F e; replace h127 := so_ e h127; clear e
      have Y : (execOp a184.eval oA6_19_2).run Try.prog w182 = .ok (.enter 19 #[.string (⟨#[94]⟩), .int .i64 a, .int .i64 k]) w182 := by unfold oA6_19_2; go_simp
      have hca := lworth_any (W := w182) (nm := [94]) (i := a) (k := k) (by decide) (ik_wf HA.out.1 HA.out.2) (ik_wf HK.out.1 HK.out.2)
      have hfa := pow_fact (k := k) HA.out
      generalize (evW (opT [94] a k)).v = p0 at hca hfa; generalize (evW (opT [94] a k)).k = kp at hca hfa
      have HPW := Lib.hid hfa; clear hfa
      refine st_call gA6_19_2 rfl (wanted_free rfl) Y ((hca).mono ?_); clear Y
      rintro e9 w185 ⟨rfl, kk⟩
      replace K1 := keep_onto K1 kk
      replace B55 := blk_on B55 kk
      replace B66 := blk_on B66 kk
      clear kk
      clear hca
      refine ⟨_, rfl, fun a186 e => ?_⟩
      clear h127 h128; have h129 := pt_ F e; replace F := pu_ F e; clear e
      refine sv_ gA6_19_3 (ym_ rfl h129) fun a187 e => ?_
      clear h129; have h126 := pt_ F e; replace F := pu_ F e; clear e
      refine sv_ gA6_19_4 (ye20_ rfl h126) fun a188 e => ?_
      have h130 := pt_ F e; replace F := pu_ F e; replace h126 := so_ e h126; clear e
      refine sv_ gA6_19_5 (ye21_ rfl h126) fun a189 e => ?_
      clear h126; have h131 := pt_ F e; replace F := pu_ F e; replace h130 := so_ e h130; clear e
      refine sv_ gA6_19_6 (ya_ rfl h130) fun a190 e => ?_
      clear h130; have h22 := pt_ F e; replace F := pu_ F e; replace h131 := so_ e h131; clear e
      refine sv_ gA6_19_7 (ya_ rfl h131) fun a191 e => ?_
      clear h131; have h23 := pt_ F e; replace F := pu_ F e; replace h22 := so_ e h22; clear e
      refine st_end ?_
      replace h0 := F.of h0; replace h2 := F.of h2; replace h6 := F.of h6; have R := F.r; clear F
      change (cA6_62).wp _ _ _ _
      refine wp_seq (x := cA6_63) (y := cA6_70) ?_
      refine wp_seq (x := cA6_64) (y := cA6_65) ?_
      change (Code.region 20 OA6_20 false).wp _ _ _ _
      refine reg_in (l := [0, 1, 2, 3, 4, 5, 6, 7, 8, 9]) rfl ?_
      have F : FE_ _ [] a191 a191 := ⟨R, Ag_.refl _⟩; clear R
      refine sv_ gA6_20_0 (ym_ rfl (F.of h2)) fun a192 e => ?_
      have h132 := pt_ F e; replace F := pu_ F e; clear e
      obtain ⟨b193, hb193⟩ : ∃ x, (decide ((k : Int) < (0 : Int))) = x := ⟨_, rfl⟩
      have Y : (execOp a192.eval oA6_20_1).run Try.prog w185 = .ok (.value (.bool b193)) w185 := by rw [← hb193]; unfold oA6_20_1; go_simp
      refine sv_ gA6_20_1 Y fun a194 e => ?_; clear Y
      clear h132; have h133 := pt_ F e; replace F := pu_ F e; clear e
      refine sv_ gA6_20_2 (ym_ rfl h133) fun a195 e => ?_
      clear h133; have h134 := pt_ F e; replace F := pu_ F e; clear e
      cases b193 with
      | false =>
        have fb193 := hb193; clear hb193
        simp only [decide_eq_true_eq, decide_eq_false_iff_not, bne_iff_ne, bne_eq_false_iff_eq, beq_iff_eq, beq_eq_false_iff_ne, ne_eq, Bool.not_eq_true', Bool.not_eq_false', Bool.not_eq_eq_eq_not, Bool.not_true, Bool.not_false] at fb193
        refine st_val gA6_20_3 rfl (wanted_is (j := 2) (d := 134) rfl rfl h134 rfl) (ym_ rfl (F.of h2)) fun a196 e => ?_
        have h135 := pt_ F e; replace F := pu_ F e; replace h134 := so_ e h134; clear e
        obtain ⟨b197, hb197⟩ : ∃ x, (decide ((100 : Int) ≤ (k : Int))) = x := ⟨_, rfl⟩
        have Y : (execOp a196.eval oA6_20_4).run Try.prog w185 = .ok (.value (.bool b197)) w185 := by rw [← hb197]; unfold oA6_20_4; go_simp
        refine st_val gA6_20_4 rfl (wanted_is (j := 2) (d := 134) rfl rfl h134 rfl) Y fun a198 e => ?_; clear Y
        clear h135; have h136 := pt_ F e; replace F := pu_ F e; replace h134 := so_ e h134; clear e
        have Y : (execOp a198.eval oA6_20_5).run Try.prog w185 = .ok (.value (.bool b197)) w185 := by unfold oA6_20_5; go_simp
        refine sv_ gA6_20_5 Y fun a199 e => ?_; clear Y
        clear h134 h136; have h137 := pt_ F e; replace F := pu_ F e; clear e
        refine sv_ gA6_20_6 (ym_ rfl h137) fun a200 e => ?_
        clear h137; have h138 := pt_ F e; replace F := pu_ F e; clear e
        cases b197 with
        | false =>
          have fb197 := hb197; clear hb197
          simp only [decide_eq_true_eq, decide_eq_false_iff_not, bne_iff_ne, bne_eq_false_iff_eq, beq_iff_eq, beq_eq_false_iff_ne, ne_eq, Bool.not_eq_true', Bool.not_eq_false', Bool.not_eq_eq_eq_not, Bool.not_true, Bool.not_false] at fb197
          refine st_val gA6_20_7 rfl (wanted_is (j := 6) (d := 138) rfl rfl h138 rfl) (ym_ rfl (F.of h23)) fun a201 e => ?_
          have h139 := pt_ F e; replace F := pu_ F e; replace h138 := so_ e h138; clear e
          cases kp with
          | false =>
            have Y : (execOp a201.eval oA6_20_8).run Try.prog w185 = .ok (.value (.bool true)) w185 := by unfold oA6_20_8; go_simp
            refine st_val gA6_20_8 rfl (wanted_is (j := 6) (d := 138) rfl rfl h138 rfl) Y fun a202 e => ?_; clear Y
            clear h139; have h140 := pt_ F e; replace F := pu_ F e; replace h138 := so_ e h138; clear e
            have Y : (execOp a202.eval oA6_20_9).run Try.prog w185 = .ok (.value (.bool true)) w185 := by unfold oA6_20_9; go_simp
            refine sv_ gA6_20_9 Y fun a203 e => ?_; clear Y
            clear h138 h140; have h141 := pt_ F e; replace F := pu_ F e; clear e
            refine st_end ?_
            replace h0 := F.of h0; replace h2 := F.of h2; replace h6 := F.of h6; replace h22 := F.of h22; clear h23; have R := F.r; clear F
            change (cA6_65).wp _ _ _ _
            refine wp_cond_true (x := cA6_66) (y := Code.skip) (eval_slot h141) ?_
            refine wp_seq (x := cA6_67) (y := Code.ret) ?_
            change (Code.region 21 OA6_21 false).wp _ _ _ _
            refine reg_in (l := [0]) rfl ?_
            have F : FE_ _ [] a203 a203 := ⟨R, Ag_.refl _⟩; clear R
            have Y : (execOp a203.eval oA6_21_0).run Try.prog w185 = .ok (.value (.bool true)) w185 := by unfold oA6_21_0; go_simp
            refine sv_ gA6_21_0 Y fun a204 e => ?_; clear Y
            clear h6; have h6 := pt_ F e; replace F := pu_ F e; clear e
            refine st_end ?_
            replace h0 := F.of h0; replace h2 := F.of h2; replace h22 := F.of h22; clear h141; have R := F.r; clear F
            change (Code.ret).wp _ _ _ _
            refine wp_ret ?_
            change bodyPost Try.prog Try.f6 (fun e w' => e = .returned (.bool true) ∧ Keep (fun g => g < W.heap.size) W w') .ret a204 w185
            refine ret_one rfl R h6 ?_
            exact ⟨rfl, K1⟩
          | true =>
            have Y : (execOp a201.eval oA6_20_8).run Try.prog w185 = .ok (.value (.bool false)) w185 := by unfold oA6_20_8; go_simp
            refine st_val gA6_20_8 rfl (wanted_is (j := 6) (d := 138) rfl rfl h138 rfl) Y fun a205 e => ?_; clear Y
            clear h139; have h140 := pt_ F e; replace F := pu_ F e; replace h138 := so_ e h138; clear e
            have Y : (execOp a205.eval oA6_20_9).run Try.prog w185 = .ok (.value (.bool false)) w185 := by unfold oA6_20_9; go_simp
            refine sv_ gA6_20_9 Y fun a206 e => ?_; clear Y
            clear h138 h140; have h141 := pt_ F e; replace F := pu_ F e; clear e
            refine st_end ?_
            replace h0 := F.of h0; replace h2 := F.of h2; replace h6 := F.of h6; replace h22 := F.of h22; clear h23; have R := F.r; clear F
            change (cA6_65).wp _ _ _ _
            refine wp_cond_false (x := cA6_66) (y := Code.skip) (eval_slot h141) ?_
            refine wp_skip ?_
            change (cA6_70).wp _ _ _ _
            refine wp_seq (x := cA6_71) (y := cA6_72) ?_
            change (Code.region 22 OA6_22 false).wp _ _ _ _
            refine reg_in (l := [0, 1, 2, 3, 4, 5, 6, 7, 8]) rfl ?_
            have F : FE_ _ [] a206 a206 := ⟨R, Ag_.refl _⟩; clear R
            refine sv_ gA6_22_0 (ym_ rfl (F.of h0)) fun a207 e => ?_
            have h143 := pt_ F e; replace F := pu_ F e; clear e
            refine sv_ gA6_22_1 (ym_ rfl (F.of h2)) fun a208 e => ?_
            have h144 := pt_ F e; replace F := pu_ F e; replace h143 := so_ e h143; clear e
            have Y : (execOp a208.eval oA6_22_2).run Try.prog w185 = .ok (.value (.int .i64 (k + 1))) w185 := by have h8 : IntKind.i64.wrap (k + 1) = k + 1 := (by rw [IntKind.wrap_i64]; omega); unfold oA6_22_2; go_simp
            refine sv_ gA6_22_2 Y fun a209 e => ?_; clear Y
            clear h144; have h145 := pt_ F e; replace F := pu_ F e; replace h143 := so_ e h143; clear e
            have Y : (execOp a209.eval oA6_22_3).run Try.prog w185 = .ok (.enter 19 #[.string (⟨#[42, 42]⟩), .int .i64 a, .int .i64 (k + 1)]) w185 := by unfold oA6_22_3; go_simp
            obtain ⟨km, hkm⟩ : ∃ q, (decide (inR (p0 * a))) = q := ⟨_, rfl⟩
            have hca := lworth_big (W := w185) (HPW.out.2 (by omega) rfl) hkm (by decide) HA.out (by unfold inR; omega); have HKM := Lib.hid hkm; clear hkm
            refine st_call gA6_22_3 rfl (wanted_free rfl) Y ((hca).mono ?_); clear Y
            rintro e9 w210 ⟨rfl, kk⟩
            replace K1 := keep_onto K1 kk
            replace B55 := blk_on B55 kk
            replace B66 := blk_on B66 kk
            clear kk
            clear hca
            refine ⟨_, rfl, fun a211 e => ?_⟩
            clear h143 h145; have h146 := pt_ F e; replace F := pu_ F e; clear e
            refine sv_ gA6_22_4 (ym_ rfl h146) fun a212 e => ?_
            clear h146; have h142 := pt_ F e; replace F := pu_ F e; clear e
            refine sv_ gA6_22_5 (ye20_ rfl h142) fun a213 e => ?_
            have h147 := pt_ F e; replace F := pu_ F e; replace h142 := so_ e h142; clear e
            refine sv_ gA6_22_6 (ye21_ rfl h142) fun a214 e => ?_
            clear h142; have h148 := pt_ F e; replace F := pu_ F e; replace h147 := so_ e h147; clear e
            refine sv_ gA6_22_7 (ya_ rfl h147) fun a215 e => ?_
            clear h147; have h24 := pt_ F e; replace F := pu_ F e; replace h148 := so_ e h148; clear e
            refine sv_ gA6_22_8 (ya_ rfl h148) fun a216 e => ?_
            clear h148; have h25 := pt_ F e; replace F := pu_ F e; replace h24 := so_ e h24; clear e
            refine st_end ?_
            replace h0 := F.of h0; clear h2; replace h6 := F.of h6; replace h22 := F.of h22; clear h141; have R := F.r; clear F
            change (cA6_72).wp _ _ _ _
            refine wp_seq (x := cA6_73) (y := cA6_74) ?_
            change (Code.region 23 OA6_23 false).wp _ _ _ _
            refine reg_in (l := [0, 1, 2, 3, 4, 5, 6, 7]) rfl ?_
            have F : FE_ _ [] a216 a216 := ⟨R, Ag_.refl _⟩; clear R
            refine sv_ gA6_23_0 (ym_ rfl (F.of h22)) fun a217 e => ?_
            have h150 := pt_ F e; replace F := pu_ F e; clear e
            refine sv_ gA6_23_1 (ym_ rfl (F.of h0)) fun a218 e => ?_
            have h151 := pt_ F e; replace F := pu_ F e; replace h150 := so_ e h150; clear e
            have Y : (execOp a218.eval oA6_23_2).run Try.prog w210 = .ok (.enter 19 #[.string (⟨#[42]⟩), .int .i64 p0, .int .i64 a]) w210 := by unfold oA6_23_2; go_simp
            refine st_call gA6_23_2 rfl (wanted_free rfl) Y ((lworth_big (ev_mul p0 a) HKM.out (by decide) HPW.out.1 HA.out).mono ?_); clear Y
            rintro e9 w219 ⟨rfl, kk⟩
            replace K1 := keep_onto K1 kk
            replace B55 := blk_on B55 kk
            replace B66 := blk_on B66 kk
            clear kk
            refine ⟨_, rfl, fun a220 e => ?_⟩
            clear h150 h151; have h152 := pt_ F e; replace F := pu_ F e; clear e
            refine sv_ gA6_23_3 (ym_ rfl h152) fun a221 e => ?_
            clear h152; have h149 := pt_ F e; replace F := pu_ F e; clear e
            refine sv_ gA6_23_4 (ye20_ rfl h149) fun a222 e => ?_
            have h153 := pt_ F e; replace F := pu_ F e; replace h149 := so_ e h149; clear e
            refine sv_ gA6_23_5 (ye21_ rfl h149) fun a223 e => ?_
            clear h149; have h154 := pt_ F e; replace F := pu_ F e; replace h153 := so_ e h153; clear e
            refine sv_ gA6_23_6 (ya_ rfl h153) fun a224 e => ?_
            clear h153; have h26 := pt_ F e; replace F := pu_ F e; replace h154 := so_ e h154; clear e
            refine sv_ gA6_23_7 (ya_ rfl h154) fun a225 e => ?_
            clear h154; have h27 := pt_ F e; replace F := pu_ F e; replace h26 := so_ e h26; clear e
            refine st_end ?_
            clear h0; replace h6 := F.of h6; clear h22; replace h24 := F.of h24; replace h25 := F.of h25; have R := F.r; clear F
            change (cA6_74).wp _ _ _ _
            refine wp_seq (x := cA6_75) (y := Code.ret) ?_
            change (Code.region 24 OA6_24 false).wp _ _ _ _
            refine reg_in (l := [0, 1, 2, 3, 4, 5, 6, 7, 8, 9, 10, 11, 12]) rfl ?_
            have F : FE_ _ [] a225 a225 := ⟨R, Ag_.refl _⟩; clear R
            refine sv_ gA6_24_0 (ym_ rfl (F.of h25)) fun a226 e => ?_
            have h155 := pt_ F e; replace F := pu_ F e; clear e
            refine sv_ gA6_24_1 (ym_ rfl (F.of h27)) fun a227 e => ?_
            have h156 := pt_ F e; replace F := pu_ F e; replace h155 := so_ e h155; clear e
            cases km with
            | false =>
              have Y : (execOp a227.eval oA6_24_2).run Try.prog w219 = .ok (.value (.bool true)) w219 := by unfold oA6_24_2; go_simp
              refine sv_ gA6_24_2 Y fun a228 e => ?_; clear Y
              clear h155 h156; have h157 := pt_ F e; replace F := pu_ F e; clear e
              refine sv_ gA6_24_3 (ym_ rfl h157) fun a229 e => ?_
              clear h157; have h158 := pt_ F e; replace F := pu_ F e; clear e
              refine st_val gA6_24_4 rfl (wanted_is (j := 3) (d := 158) rfl rfl h158 rfl) (ym_ rfl (F.of h25)) fun a230 e => ?_
              have h159 := pt_ F e; replace F := pu_ F e; replace h158 := so_ e h158; clear e
              have Y : (execOp a230.eval oA6_24_5).run Try.prog w219 = .ok (.value (.bool true)) w219 := by unfold oA6_24_5; go_simp
              refine st_val gA6_24_5 rfl (wanted_is (j := 3) (d := 158) rfl rfl h158 rfl) Y fun a231 e => ?_; clear Y
              clear h159; have h160 := pt_ F e; replace F := pu_ F e; replace h158 := so_ e h158; clear e
              refine st_val gA6_24_6 rfl (wanted_is (j := 3) (d := 158) rfl rfl h158 rfl) (ym_ rfl h160) fun a232 e => ?_
              clear h160; have h161 := pt_ F e; replace F := pu_ F e; replace h158 := so_ e h158; clear e
              refine st_not gA6_24_7 rfl (wanted_is (j := 6) (d := 161) rfl rfl h161 rfl) fun a233 e => ?_
              have h162 := pt_ F e; replace F := pu_ F e; replace h158 := so_ e h158; replace h161 := so_ e h161; clear e
              refine st_not gA6_24_8 rfl (wanted_is (j := 6) (d := 161) rfl rfl h161 rfl) fun a234 e => ?_
              have h163 := pt_ F e; replace F := pu_ F e; replace h158 := so_ e h158; replace h161 := so_ e h161; replace h162 := so_ e h162; clear e
              refine st_not gA6_24_9 rfl (wanted_is (j := 6) (d := 161) rfl rfl h161 rfl) fun a235 e => ?_
              clear h162 h163; have h164 := pt_ F e; replace F := pu_ F e; replace h158 := so_ e h158; replace h161 := so_ e h161; clear e
              have Y : (execOp a235.eval oA6_24_10).run Try.prog w219 = .ok (.value (.bool true)) w219 := by unfold oA6_24_10; go_simp
              refine st_val gA6_24_10 rfl (wanted_is (j := 3) (d := 158) rfl rfl h158 rfl) Y fun a236 e => ?_; clear Y
              clear h161 h164; have h165 := pt_ F e; replace F := pu_ F e; replace h158 := so_ e h158; clear e
              have Y : (execOp a236.eval oA6_24_11).run Try.prog w219 = .ok (.value (.bool true)) w219 := by unfold oA6_24_11; go_simp
              refine sv_ gA6_24_11 Y fun a237 e => ?_; clear Y
              clear h158 h165; have h166 := pt_ F e; replace F := pu_ F e; clear e
              refine sv_ gA6_24_12 (ya_ rfl h166) fun a238 e => ?_
              clear h166 h6; have h6 := pt_ F e; replace F := pu_ F e; clear e
              refine st_end ?_
              clear h24; clear h25; clear h26; clear h27; have R := F.r; clear F
              change (Code.ret).wp _ _ _ _
              refine wp_ret ?_
              change bodyPost Try.prog Try.f6 (fun e w' => e = .returned (.bool true) ∧ Keep (fun g => g < W.heap.size) W w') .ret a238 w219
              refine ret_one rfl R h6 ?_
              exact ⟨rfl, K1⟩
            | true =>
              have Y : (execOp a227.eval oA6_24_2).run Try.prog w219 = .ok (.value (.bool true)) w219 := by unfold oA6_24_2; go_simp
              refine sv_ gA6_24_2 Y fun a239 e => ?_; clear Y
              clear h155 h156; have h157 := pt_ F e; replace F := pu_ F e; clear e
              refine sv_ gA6_24_3 (ym_ rfl h157) fun a240 e => ?_
              clear h157; have h158 := pt_ F e; replace F := pu_ F e; clear e
              refine st_val gA6_24_4 rfl (wanted_is (j := 3) (d := 158) rfl rfl h158 rfl) (ym_ rfl (F.of h25)) fun a241 e => ?_
              have h159 := pt_ F e; replace F := pu_ F e; replace h158 := so_ e h158; clear e
              have Y : (execOp a241.eval oA6_24_5).run Try.prog w219 = .ok (.value (.bool false)) w219 := by unfold oA6_24_5; go_simp
              refine st_val gA6_24_5 rfl (wanted_is (j := 3) (d := 158) rfl rfl h158 rfl) Y fun a242 e => ?_; clear Y
              clear h159; have h160 := pt_ F e; replace F := pu_ F e; replace h158 := so_ e h158; clear e
              refine st_val gA6_24_6 rfl (wanted_is (j := 3) (d := 158) rfl rfl h158 rfl) (ym_ rfl h160) fun a243 e => ?_
              clear h160; have h161 := pt_ F e; replace F := pu_ F e; replace h158 := so_ e h158; clear e
              refine st_val gA6_24_7 rfl (wanted_is (j := 6) (d := 161) rfl rfl h161 rfl) (ym_ rfl (F.of h24)) fun a244 e => ?_
              have h162 := pt_ F e; replace F := pu_ F e; replace h158 := so_ e h158; replace h161 := so_ e h161; clear e
              refine st_val gA6_24_8 rfl (wanted_is (j := 6) (d := 161) rfl rfl h161 rfl) (ym_ rfl (F.of h26)) fun a245 e => ?_
              have h163 := pt_ F e; replace F := pu_ F e; replace h158 := so_ e h158; replace h161 := so_ e h161; replace h162 := so_ e h162; clear e
              have Y : (execOp a245.eval oA6_24_9).run Try.prog w219 = .ok (.value (.bool true)) w219 := by unfold oA6_24_9; go_simp
              refine st_val gA6_24_9 rfl (wanted_is (j := 6) (d := 161) rfl rfl h161 rfl) Y fun a246 e => ?_; clear Y
              clear h162 h163; have h164 := pt_ F e; replace F := pu_ F e; replace h158 := so_ e h158; replace h161 := so_ e h161; clear e
              have Y : (execOp a246.eval oA6_24_10).run Try.prog w219 = .ok (.value (.bool true)) w219 := by unfold oA6_24_10; go_simp
              refine st_val gA6_24_10 rfl (wanted_is (j := 3) (d := 158) rfl rfl h158 rfl) Y fun a247 e => ?_; clear Y
              clear h161 h164; have h165 := pt_ F e; replace F := pu_ F e; replace h158 := so_ e h158; clear e
              have Y : (execOp a247.eval oA6_24_11).run Try.prog w219 = .ok (.value (.bool true)) w219 := by unfold oA6_24_11; go_simp
              refine sv_ gA6_24_11 Y fun a248 e => ?_; clear Y
              clear h158 h165; have h166 := pt_ F e; replace F := pu_ F e; clear e
              refine sv_ gA6_24_12 (ya_ rfl h166) fun a249 e => ?_
              clear h166 h6; have h6 := pt_ F e; replace F := pu_ F e; clear e
              refine st_end ?_
              clear h24; clear h25; clear h26; clear h27; have R := F.r; clear F
              change (Code.ret).wp _ _ _ _
              refine wp_ret ?_
              change bodyPost Try.prog Try.f6 (fun e w' => e = .returned (.bool true) ∧ Keep (fun g => g < W.heap.size) W w') .ret a249 w219
              refine ret_one rfl R h6 ?_
              exact ⟨rfl, K1⟩
        | true =>
          have fb197 := hb197; clear hb197
          simp only [decide_eq_true_eq, decide_eq_false_iff_not, bne_iff_ne, bne_eq_false_iff_eq, beq_iff_eq, beq_eq_false_iff_ne, ne_eq, Bool.not_eq_true', Bool.not_eq_false', Bool.not_eq_eq_eq_not, Bool.not_true, Bool.not_false] at fb197
          refine st_not gA6_20_7 rfl (wanted_is (j := 6) (d := 138) rfl rfl h138 rfl) fun a250 e => ?_
          have h139 := pt_ F e; replace F := pu_ F e; replace h138 := so_ e h138; clear e
          refine st_not gA6_20_8 rfl (wanted_is (j := 6) (d := 138) rfl rfl h138 rfl) fun a251 e => ?_
          clear h139; have h140 := pt_ F e; replace F := pu_ F e; replace h138 := so_ e h138; clear e
          have Y : (execOp a251.eval oA6_20_9).run Try.prog w185 = .ok (.value (.bool true)) w185 := by unfold oA6_20_9; go_simp
          refine sv_ gA6_20_9 Y fun a252 e => ?_; clear Y
          clear h138 h140; have h141 := pt_ F e; replace F := pu_ F e; clear e
          refine st_end ?_
          replace h0 := F.of h0; replace h2 := F.of h2; replace h6 := F.of h6; replace h22 := F.of h22; clear h23; have R := F.r; clear F
          change (cA6_65).wp _ _ _ _
          refine wp_cond_true (x := cA6_66) (y := Code.skip) (eval_slot h141) ?_
          refine wp_seq (x := cA6_67) (y := Code.ret) ?_
          change (Code.region 21 OA6_21 false).wp _ _ _ _
          refine reg_in (l := [0]) rfl ?_
          have F : FE_ _ [] a252 a252 := ⟨R, Ag_.refl _⟩; clear R
          have Y : (execOp a252.eval oA6_21_0).run Try.prog w185 = .ok (.value (.bool true)) w185 := by unfold oA6_21_0; go_simp
          refine sv_ gA6_21_0 Y fun a253 e => ?_; clear Y
          clear h6; have h6 := pt_ F e; replace F := pu_ F e; clear e
          refine st_end ?_
          replace h0 := F.of h0; replace h2 := F.of h2; replace h22 := F.of h22; clear h141; have R := F.r; clear F
          change (Code.ret).wp _ _ _ _
          refine wp_ret ?_
          change bodyPost Try.prog Try.f6 (fun e w' => e = .returned (.bool true) ∧ Keep (fun g => g < W.heap.size) W w') .ret a253 w185
          refine ret_one rfl R h6 ?_
          exact ⟨rfl, K1⟩
      | true =>
        have fb193 := hb193; clear hb193
        simp only [decide_eq_true_eq, decide_eq_false_iff_not, bne_iff_ne, bne_eq_false_iff_eq, beq_iff_eq, beq_eq_false_iff_ne, ne_eq, Bool.not_eq_true', Bool.not_eq_false', Bool.not_eq_eq_eq_not, Bool.not_true, Bool.not_false] at fb193
        refine st_not gA6_20_3 rfl (wanted_is (j := 2) (d := 134) rfl rfl h134 rfl) fun a254 e => ?_
        have h135 := pt_ F e; replace F := pu_ F e; replace h134 := so_ e h134; clear e
        refine st_not gA6_20_4 rfl (wanted_is (j := 2) (d := 134) rfl rfl h134 rfl) fun a255 e => ?_
        clear h135; have h136 := pt_ F e; replace F := pu_ F e; replace h134 := so_ e h134; clear e
        have Y : (execOp a255.eval oA6_20_5).run Try.prog w185 = .ok (.value (.bool true)) w185 := by unfold oA6_20_5; go_simp
        refine sv_ gA6_20_5 Y fun a256 e => ?_; clear Y
        clear h134 h136; have h137 := pt_ F e; replace F := pu_ F e; clear e
        refine sv_ gA6_20_6 (ym_ rfl h137) fun a257 e => ?_
        clear h137; have h138 := pt_ F e; replace F := pu_ F e; clear e
        refine st_not gA6_20_7 rfl (wanted_is (j := 6) (d := 138) rfl rfl h138 rfl) fun a258 e => ?_
        have h139 := pt_ F e; replace F := pu_ F e; replace h138 := so_ e h138; clear e
        refine st_not gA6_20_8 rfl (wanted_is (j := 6) (d := 138) rfl rfl h138 rfl) fun a259 e => ?_
        clear h139; have h140 := pt_ F e; replace F := pu_ F e; replace h138 := so_ e h138; clear e
        have Y : (execOp a259.eval oA6_20_9).run Try.prog w185 = .ok (.value (.bool true)) w185 := by unfold oA6_20_9; go_simp
        refine sv_ gA6_20_9 Y fun a260 e => ?_; clear Y
        clear h138 h140; have h141 := pt_ F e; replace F := pu_ F e; clear e
        refine st_end ?_
        replace h0 := F.of h0; replace h2 := F.of h2; replace h6 := F.of h6; replace h22 := F.of h22; clear h23; have R := F.r; clear F
        change (cA6_65).wp _ _ _ _
        refine wp_cond_true (x := cA6_66) (y := Code.skip) (eval_slot h141) ?_
        refine wp_seq (x := cA6_67) (y := Code.ret) ?_
        change (Code.region 21 OA6_21 false).wp _ _ _ _
        refine reg_in (l := [0]) rfl ?_
        have F : FE_ _ [] a260 a260 := ⟨R, Ag_.refl _⟩; clear R
        have Y : (execOp a260.eval oA6_21_0).run Try.prog w185 = .ok (.value (.bool true)) w185 := by unfold oA6_21_0; go_simp
        refine sv_ gA6_21_0 Y fun a261 e => ?_; clear Y
        clear h6; have h6 := pt_ F e; replace F := pu_ F e; clear e
        refine st_end ?_
        replace h0 := F.of h0; replace h2 := F.of h2; replace h22 := F.of h22; clear h141; have R := F.r; clear F
        change (Code.ret).wp _ _ _ _
        refine wp_ret ?_
        change bodyPost Try.prog Try.f6 (fun e w' => e = .returned (.bool true) ∧ Keep (fun g => g < W.heap.size) W w') .ret a261 w185
        refine ret_one rfl R h6 ?_
        exact ⟨rfl, K1⟩
theorem bits_walk {W : World} {a b k : Int} (ha : inR a) (hb : inR b) (hk : inR k) : Calls Try.prog 6 #[.int .i64 a, .int .i64 b, .int .i64 k] W fun e w' => e = .returned (.bool true) ∧ Keep (fun g => g < W.heap.size) W w' := by
  refine enter_sx Try.func6 bodyA6 rfl (by show (3 : Nat) ≤ 167; decide) fun f0 R hs => ?_
  obtain ⟨h1, h2, h3⟩ := bits_three ha hb
  refine bits_w (s0 := wrap64 (a + b)) (n0 := wrap64 (-a)) R (hs 0 _ rfl) (hs 1 _ rfl) (hs 2 _ rfl) (Keep.refl _ W) (Lib.hid ha) (Lib.hid hb) (Lib.hid hk) (Lib.hid (ev_and a b)) (Lib.hid (ev_or a b)) (Lib.hid (ev_xor a b)) (Lib.hid ⟨h1, h2, (i64_l _).trans h3, i64_l _, i64_l _, ?_⟩) (Lib.hid (ev_not ha))
  rw [IntKind.wrap_i64, wrap64]
  unfold inR at ha
  omega
end Go.Proofs.Ytmgephleogiaoaa
