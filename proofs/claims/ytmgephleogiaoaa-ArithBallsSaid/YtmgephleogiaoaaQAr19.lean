/-
  The law ArithBalls, walked. No condition but where its terms lie.
-/
import Derived.Test.YtmgephleogiaoaaQAr16
namespace Go.Proofs.Ytmgephleogiaoaa
open Go.RowKit Go.Maps
set_option linter.unusedVariables false
set_option linter.unusedSimpArgs false
theorem right_is {W : World} {t : Tm} {a : Option Addr} {c : Nat} {z : Bool} (hT : TmAt W.heap.size W t a c) (h : t.right = z) : Calls Try.prog 11 #[tv t a c] W fun e w' => e = .returned (.bool z) ∧ Keep (fun g => g < W.heap.size) W w' := by
  subst h; exact refRight_any hT
theorem ball_ok {t : Tm} (h : t.ok = true) : (ballT t).ok = true := by
  simp only [ballT, Tm.ok, okL, aNil]
  simp [h]
theorem ball_tree (t : Tm) : (ballT t).tree = .c [101, 114, 114, 111, 114] [t.tree, .a [91, 93]] := by
  rw [ballT, Tm.tree]; simp [treeL, aNil, Tm.tree]
theorem ball_like {t : Tm} (h : t.right = true) : LikeP (ballT t.tree.tm) (ballT t) := by
  have hR := right_of.1 h
  refine .inr ⟨ball_ok ?_, ball_ok hR.1, by rw [ball_tree, ball_tree, T.tm_tree]⟩
  exact ((t.tree.tm_right).2 (Tm.tree_right hR)).1
theorem ballV_is {t : Tm} (h : t.right = true) : ballV t = ballT t.tree.tm := if_pos h
theorem ballV_no {t : Tm} (h : t.right = false) : ballV t = zeroT := if_neg (by rw [h]; decide)
def oA8_0_0 : Oper := ⟨some 4, Op.assign (Operand.const (Value.bool false)), 4, "law.go:167", #[], none⟩
def OA8_0 : Array Oper := List.toArray (oA8_0_0 :: [])
theorem gA8_0_0 : OA8_0[0]? = some oA8_0_0 := rfl
def cA8_1 : Code := Code.region 0 OA8_0 false
def oA8_1_0 : Oper := ⟨some 9, Op.call { callee := Callee.value (Operand.func 9), args := #[], argTypes := #[] }, 4, "law.go:168", #[], none⟩
def oA8_1_1 : Oper := ⟨some 10, Op.unOp Go.UnOp.not 4 (Operand.tmp 9), 4, "law.go:168", #[ed_ 0], none⟩
def OA8_1 : Array Oper := List.toArray (oA8_1_0 :: oA8_1_1 :: [])
theorem gA8_1_0 : OA8_1[0]? = some oA8_1_0 := rfl
theorem gA8_1_1 : OA8_1[1]? = some oA8_1_1 := rfl
def cA8_4 : Code := Code.region 1 OA8_1 false
def oA8_2_0 : Oper := ⟨some 4, Op.assign (Operand.const (Value.bool false)), 4, "law.go:169", #[], none⟩
def OA8_2 : Array Oper := List.toArray (oA8_2_0 :: [])
def cA8_7 : Code := Code.region 2 OA8_2 false
def cA8_6 : Code := Code.seq cA8_7 Code.ret
def cA8_5 : Code := Code.cond (Operand.tmp 10) cA8_6 Code.skip
def cA8_3 : Code := Code.seq cA8_4 cA8_5
def oA8_3_0 : Oper := ⟨some 11, Op.move (Operand.tmp 0), 9, "law.go:171", #[], none⟩
def oA8_3_1 : Oper := ⟨some 12, Op.move (Operand.tmp 1), 22, "law.go:171", #[], none⟩
def oA8_3_2 : Oper := ⟨some 13, Op.build 24 #[(0, Operand.const (Value.int IntKind.i64 4)), (1, Operand.tmp 11), (3, Operand.tmp 12)], 24, "law.go:171", #[ed_ 0, ed_ 1], none⟩
def oA8_3_3 : Oper := ⟨some 5, Op.alloc 24, 0, "law.go:171", #[], none⟩
def oA8_3_4 : Oper := ⟨none, Op.store 24 (Operand.tmp 5) (Operand.tmp 13), 0, "law.go:171", #[ed_ 3, ed_ 2, ep_ 0, ep_ 1, ep_ 2, ep_ 3], none⟩
def OA8_3 : Array Oper := List.toArray (oA8_3_0 :: oA8_3_1 :: oA8_3_2 :: oA8_3_3 :: oA8_3_4 :: [])
theorem gA8_3_0 : OA8_3[0]? = some oA8_3_0 := rfl
theorem gA8_3_1 : OA8_3[1]? = some oA8_3_1 := rfl
theorem gA8_3_2 : OA8_3[2]? = some oA8_3_2 := rfl
theorem gA8_3_3 : OA8_3[3]? = some oA8_3_3 := rfl
theorem gA8_3_4 : OA8_3[4]? = some oA8_3_4 := rfl
def cA8_11 : Code := Code.region 3 OA8_3 false
def oA8_4_0 : Oper := ⟨some 14, Op.move (Operand.tmp 1), 22, "law.go:172", #[], none⟩
def oA8_4_1 : Oper := ⟨some 15, Op.call { callee := Callee.builtin Go.Builtin.len, args := #[Operand.tmp 14], argTypes := #[22] }, 3, "law.go:172", #[ed_ 0], none⟩
def oA8_4_2 : Oper := ⟨some 16, Op.binOp Go.BinOp.eql 3 (Operand.tmp 15) (Operand.const (Value.int IntKind.i64 0)) 3, 4, "law.go:172", #[ed_ 1], none⟩
def OA8_4 : Array Oper := List.toArray (oA8_4_0 :: oA8_4_1 :: oA8_4_2 :: [])
theorem gA8_4_0 : OA8_4[0]? = some oA8_4_0 := rfl
theorem gA8_4_1 : OA8_4[1]? = some oA8_4_1 := rfl
theorem gA8_4_2 : OA8_4[2]? = some oA8_4_2 := rfl
def cA8_14 : Code := Code.region 4 OA8_4 false
def oA8_5_0 : Oper := ⟨some 17, Op.move (Operand.tmp 0), 9, "law.go:173", #[], none⟩
def oA8_5_1 : Oper := ⟨some 18, Op.call { callee := Callee.value (Operand.func 20), args := #[Operand.tmp 17], argTypes := #[9] }, 24, "law.go:173", #[ed_ 0], none⟩
def oA8_5_2 : Oper := ⟨none, Op.store 24 (Operand.tmp 5) (Operand.tmp 18), 0, "law.go:173", #[ed_ 1, ec_ 1, ep_ 0, ep_ 1], none⟩
def OA8_5 : Array Oper := List.toArray (oA8_5_0 :: oA8_5_1 :: oA8_5_2 :: [])
theorem gA8_5_0 : OA8_5[0]? = some oA8_5_0 := rfl
theorem gA8_5_1 : OA8_5[1]? = some oA8_5_1 := rfl
theorem gA8_5_2 : OA8_5[2]? = some oA8_5_2 := rfl
def cA8_16 : Code := Code.region 5 OA8_5 false
def cA8_15 : Code := Code.cond (Operand.tmp 16) cA8_16 Code.skip
def cA8_13 : Code := Code.seq cA8_14 cA8_15
def oA8_6_0 : Oper := ⟨some 19, Op.load 24 (Operand.tmp 5), 24, "law.go:175", #[], none⟩
def oA8_6_1 : Oper := ⟨some 20, Op.call { callee := Callee.value (Operand.func 21), args := #[Operand.tmp 19], argTypes := #[24] }, 24, "law.go:175", #[ed_ 0], none⟩
def oA8_6_2 : Oper := ⟨some 21, Op.move (Operand.tmp 0), 9, "law.go:175", #[], none⟩
def oA8_6_3 : Oper := ⟨some 22, Op.move (Operand.tmp 1), 22, "law.go:175", #[], none⟩
def oA8_6_4 : Oper := ⟨some 23, Op.call { callee := Callee.value (Operand.func 22), args := #[Operand.tmp 21, Operand.tmp 22], argTypes := #[9, 22] }, 24, "law.go:175", #[ed_ 2, ed_ 3, ec_ 1], none⟩
def oA8_6_5 : Oper := ⟨some 6, Op.alloc 24, 0, "law.go:175", #[], none⟩
def oA8_6_6 : Oper := ⟨some 7, Op.alloc 24, 0, "law.go:175", #[], none⟩
def oA8_6_7 : Oper := ⟨none, Op.store 24 (Operand.tmp 6) (Operand.tmp 20), 0, "law.go:175", #[ed_ 5, ed_ 1, ec_ 4, ep_ 0, ep_ 1, { on := 2, ground := Go.Ground.textOnly Go.Departure.lateStores }, { on := 3, ground := Go.Ground.textOnly Go.Departure.lateStores }, { on := 4, ground := Go.Ground.textOnly Go.Departure.lateStoresUnsure }, ep_ 5, ep_ 6], none⟩
def oA8_6_8 : Oper := ⟨none, Op.store 24 (Operand.tmp 7) (Operand.tmp 23), 0, "law.go:175", #[ed_ 6, ed_ 4, ec_ 7, ep_ 0, ep_ 1, ep_ 2, ep_ 3, ep_ 4, ep_ 5, ep_ 6, ep_ 7], none⟩
def OA8_6 : Array Oper := List.toArray (oA8_6_0 :: oA8_6_1 :: oA8_6_2 :: oA8_6_3 :: oA8_6_4 :: oA8_6_5 :: oA8_6_6 :: oA8_6_7 :: oA8_6_8 :: [])
theorem gA8_6_0 : OA8_6[0]? = some oA8_6_0 := rfl
theorem gA8_6_1 : OA8_6[1]? = some oA8_6_1 := rfl
theorem gA8_6_2 : OA8_6[2]? = some oA8_6_2 := rfl
theorem gA8_6_3 : OA8_6[3]? = some oA8_6_3 := rfl
theorem gA8_6_4 : OA8_6[4]? = some oA8_6_4 := rfl
theorem gA8_6_5 : OA8_6[5]? = some oA8_6_5 := rfl
theorem gA8_6_6 : OA8_6[6]? = some oA8_6_6 := rfl
theorem gA8_6_7 : OA8_6[7]? = some oA8_6_7 := rfl
theorem gA8_6_8 : OA8_6[8]? = some oA8_6_8 := rfl
def cA8_19 : Code := Code.region 6 OA8_6 false
def oA8_7_0 : Oper := ⟨some 24, Op.load 24 (Operand.tmp 5), 24, "law.go:176", #[], none⟩
def oA8_7_1 : Oper := ⟨some 25, Op.call { callee := Callee.value (Operand.func 11), args := #[Operand.tmp 24], argTypes := #[24] }, 4, "law.go:176", #[ed_ 0], none⟩
def oA8_7_2 : Oper := ⟨some 26, Op.unOp Go.UnOp.not 4 (Operand.tmp 25), 4, "law.go:176", #[ed_ 1], none⟩
def OA8_7 : Array Oper := List.toArray (oA8_7_0 :: oA8_7_1 :: oA8_7_2 :: [])
theorem gA8_7_0 : OA8_7[0]? = some oA8_7_0 := rfl
theorem gA8_7_1 : OA8_7[1]? = some oA8_7_1 := rfl
theorem gA8_7_2 : OA8_7[2]? = some oA8_7_2 := rfl
def cA8_22 : Code := Code.region 7 OA8_7 false
def oA8_8_0 : Oper := ⟨some 27, Op.fieldAddr 24 (Operand.tmp 6) 0, 0, "law.go:177", #[], none⟩
def oA8_8_1 : Oper := ⟨some 28, Op.load 3 (Operand.tmp 27), 3, "law.go:177", #[ed_ 0], none⟩
def oA8_8_2 : Oper := ⟨some 29, Op.binOp Go.BinOp.eql 3 (Operand.tmp 28) (Operand.const (Value.int IntKind.i64 0)) 3, 4, "law.go:177", #[ed_ 1], none⟩
def oA8_8_3 : Oper := ⟨some 30, Op.move (Operand.tmp 29), 4, "law.go:177", #[ed_ 2], none⟩
def oA8_8_4 : Oper := ⟨some 31, Op.fieldAddr 24 (Operand.tmp 7) 0, 0, "law.go:177", #[eg_ 3], some (3, true)⟩
def oA8_8_5 : Oper := ⟨some 32, Op.load 3 (Operand.tmp 31), 3, "law.go:177", #[ed_ 4, eg_ 3], some (3, true)⟩
def oA8_8_6 : Oper := ⟨some 33, Op.binOp Go.BinOp.eql 3 (Operand.tmp 32) (Operand.const (Value.int IntKind.i64 0)) 3, 4, "law.go:177", #[ed_ 5, eg_ 3], some (3, true)⟩
def oA8_8_7 : Oper := ⟨some 34, Op.pick (Operand.tmp 30) (Operand.tmp 33) (Operand.const (Value.bool false)), 4, "law.go:177", #[ed_ 3, ed_ 6], none⟩
def oA8_8_8 : Oper := ⟨some 4, Op.assign (Operand.tmp 34), 4, "law.go:177", #[ed_ 7, ec_ 3, ep_ 0, ep_ 1, ep_ 2, ep_ 3, ep_ 4, ep_ 5, ep_ 6, ep_ 7], none⟩
def OA8_8 : Array Oper := List.toArray (oA8_8_0 :: oA8_8_1 :: oA8_8_2 :: oA8_8_3 :: oA8_8_4 :: oA8_8_5 :: oA8_8_6 :: oA8_8_7 :: oA8_8_8 :: [])
theorem gA8_8_0 : OA8_8[0]? = some oA8_8_0 := rfl
theorem gA8_8_1 : OA8_8[1]? = some oA8_8_1 := rfl
theorem gA8_8_2 : OA8_8[2]? = some oA8_8_2 := rfl
theorem gA8_8_3 : OA8_8[3]? = some oA8_8_3 := rfl
theorem gA8_8_4 : OA8_8[4]? = some oA8_8_4 := rfl
theorem gA8_8_5 : OA8_8[5]? = some oA8_8_5 := rfl
theorem gA8_8_6 : OA8_8[6]? = some oA8_8_6 := rfl
theorem gA8_8_7 : OA8_8[7]? = some oA8_8_7 := rfl
theorem gA8_8_8 : OA8_8[8]? = some oA8_8_8 := rfl
def cA8_25 : Code := Code.region 8 OA8_8 false
def cA8_24 : Code := Code.seq cA8_25 Code.ret
def cA8_23 : Code := Code.cond (Operand.tmp 26) cA8_24 Code.skip
def cA8_21 : Code := Code.seq cA8_22 cA8_23
def oA8_9_0 : Oper := ⟨some 35, Op.load 24 (Operand.tmp 5), 24, "law.go:179", #[], none⟩
def oA8_9_1 : Oper := ⟨some 36, Op.call { callee := Callee.value (Operand.func 23), args := #[Operand.tmp 35], argTypes := #[24] }, 24, "law.go:179", #[ed_ 0], none⟩
def oA8_9_2 : Oper := ⟨some 8, Op.alloc 24, 0, "law.go:179", #[], none⟩
def oA8_9_3 : Oper := ⟨none, Op.store 24 (Operand.tmp 8) (Operand.tmp 36), 0, "law.go:179", #[ed_ 2, ed_ 1, ec_ 1, ep_ 0, ep_ 1, ep_ 2], none⟩
def OA8_9 : Array Oper := List.toArray (oA8_9_0 :: oA8_9_1 :: oA8_9_2 :: oA8_9_3 :: [])
theorem gA8_9_0 : OA8_9[0]? = some oA8_9_0 := rfl
theorem gA8_9_1 : OA8_9[1]? = some oA8_9_1 := rfl
theorem gA8_9_2 : OA8_9[2]? = some oA8_9_2 := rfl
theorem gA8_9_3 : OA8_9[3]? = some oA8_9_3 := rfl
def cA8_29 : Code := Code.region 9 OA8_9 false
def oA8_10_0 : Oper := ⟨some 37, Op.load 24 (Operand.tmp 6), 24, "law.go:180", #[], none⟩
def oA8_10_1 : Oper := ⟨some 38, Op.load 24 (Operand.tmp 8), 24, "law.go:180", #[], none⟩
def oA8_10_2 : Oper := ⟨some 39, Op.call { callee := Callee.value (Operand.func 13), args := #[Operand.tmp 37, Operand.tmp 38], argTypes := #[24, 24] }, 4, "law.go:180", #[ed_ 0, ed_ 1], none⟩
def oA8_10_3 : Oper := ⟨some 40, Op.move (Operand.tmp 39), 4, "law.go:180", #[ed_ 2, ec_ 2], none⟩
def oA8_10_4 : Oper := ⟨some 41, Op.load 24 (Operand.tmp 7), 24, "law.go:180", #[eg_ 3], some (3, true)⟩
def oA8_10_5 : Oper := ⟨some 42, Op.load 24 (Operand.tmp 8), 24, "law.go:180", #[eg_ 3], some (3, true)⟩
def oA8_10_6 : Oper := ⟨some 43, Op.call { callee := Callee.value (Operand.func 13), args := #[Operand.tmp 41, Operand.tmp 42], argTypes := #[24, 24] }, 4, "law.go:180", #[ed_ 4, ed_ 5, ec_ 3, eg_ 3], some (3, true)⟩
def oA8_10_7 : Oper := ⟨some 44, Op.pick (Operand.tmp 40) (Operand.tmp 43) (Operand.const (Value.bool false)), 4, "law.go:180", #[ed_ 3, ed_ 6], none⟩
def oA8_10_8 : Oper := ⟨some 4, Op.assign (Operand.tmp 44), 4, "law.go:180", #[ed_ 7, ec_ 6, ep_ 0, ep_ 1, ep_ 2, ep_ 3, ep_ 4, ep_ 5, ep_ 6, ep_ 7], none⟩
def OA8_10 : Array Oper := List.toArray (oA8_10_0 :: oA8_10_1 :: oA8_10_2 :: oA8_10_3 :: oA8_10_4 :: oA8_10_5 :: oA8_10_6 :: oA8_10_7 :: oA8_10_8 :: [])
theorem gA8_10_0 : OA8_10[0]? = some oA8_10_0 := rfl
theorem gA8_10_1 : OA8_10[1]? = some oA8_10_1 := rfl
theorem gA8_10_2 : OA8_10[2]? = some oA8_10_2 := rfl
theorem gA8_10_3 : OA8_10[3]? = some oA8_10_3 := rfl
theorem gA8_10_4 : OA8_10[4]? = some oA8_10_4 := rfl
theorem gA8_10_5 : OA8_10[5]? = some oA8_10_5 := rfl
theorem gA8_10_6 : OA8_10[6]? = some oA8_10_6 := rfl
theorem gA8_10_7 : OA8_10[7]? = some oA8_10_7 := rfl
theorem gA8_10_8 : OA8_10[8]? = some oA8_10_8 := rfl
def cA8_31 : Code := Code.region 10 OA8_10 false
def cA8_30 : Code := Code.seq cA8_31 Code.ret
def cA8_28 : Code := Code.seq cA8_29 cA8_30
def cA8_20 : Code := Code.seq cA8_21 cA8_28
def cA8_18 : Code := Code.seq cA8_19 cA8_20
def cA8_12 : Code := Code.seq cA8_13 cA8_18
def cA8_10 : Code := Code.seq cA8_11 cA8_12
def cA8_2 : Code := Code.seq cA8_3 cA8_10
def cA8_0 : Code := Code.seq cA8_1 cA8_2
theorem enA8_11 : Enters Try.prog 11 := enters_of Try.func11 (by kernel_rfl) rfl
theorem enA8_13 : Enters Try.prog 13 := enters_of Try.func13 (by kernel_rfl) rfl
theorem enA8_20 : Enters Try.prog 20 := enters_of Try.func20 (by kernel_rfl) rfl
theorem enA8_21 : Enters Try.prog 21 := enters_of Try.func21 (by kernel_rfl) rfl
theorem enA8_22 : Enters Try.prog 22 := enters_of Try.func22 (by kernel_rfl) rfl
theorem enA8_23 : Enters Try.prog 23 := enters_of Try.func23 (by kernel_rfl) rfl
theorem bodyA8 : Try.f8.body = some cA8_0 := by kernel_rfl
set_option maxRecDepth 100000 in
set_option maxHeartbeats 4000000 in
theorem balls_zt {W : World} {nm : List UInt8} {ts : List Tm} {sa : Option Addr} {sc : Nat} {f0 : Act} {w0 : World} (R : FrS 45 f0) (h0 : f0.tmps[0]? = some (.string (str nm))) (h1 : f0.tmps[1]? = some (.slice sa ts.length sc)) (K1 : Keep (fun g => g < W.heap.size) W w0)  (HL : Hid (ts.length = 0)) (HT : Hid (TmAt W.heap.size W (Tm.node 3 nm 0 []) none 0)) (HTS : Hid (¬ ts = [] → TmAt W.heap.size W (.node 4 nm 0 ts) sa sc)) (HNM : Hid (nm.length ≤ maxLen)) (HFT : Hid (faultT nm ts = (Tm.node 3 nm 0 []))) (HBV : Hid (ballV (Tm.node 3 nm 0 []) = (ballT (Tm.node 3 nm 0 []).tree.tm))) (HR : Hid (((Tm.node 3 nm 0 []) : Tm).right = true)) : cA8_0.wp Try.prog (bodyPost Try.prog Try.f8 (fun e w' => e = .returned (.bool true) ∧ Keep (fun g => g < W.heap.size) W w')) f0 w0 := by
  refine wp_seq (x := cA8_1) (y := cA8_2) ?_
  change (Code.region 0 OA8_0 false).wp _ _ _ _
  refine reg_in (l := [0]) rfl ?_
  have F : FE_ _ [] f0 f0 := ⟨R, Ag_.refl _⟩; clear R
  have Y : (execOp f0.eval oA8_0_0).run Try.prog w0 = .ok (.value (.bool false)) w0 := by unfold oA8_0_0; go_simp
  refine sv_ gA8_0_0 Y fun a1 e => ?_; clear Y
  have h4 := pt_ F e; replace F := pu_ F e; clear e
  refine st_end ?_
  replace h0 := F.of h0; replace h1 := F.of h1; have R := F.r; clear F
  change (cA8_2).wp _ _ _ _
  refine wp_seq (x := cA8_3) (y := cA8_10) ?_
  refine wp_seq (x := cA8_4) (y := cA8_5) ?_
  change (Code.region 1 OA8_1 false).wp _ _ _ _
  refine reg_in (l := [0, 1]) rfl ?_
  have F : FE_ _ [] a1 a1 := ⟨R, Ag_.refl _⟩; clear R
  have Y : (execOp a1.eval oA8_1_0).run Try.prog w0 = .ok (.enter 9 #[]) w0 := by unfold oA8_1_0; go_simp
  refine st_call gA8_1_0 rfl (wanted_free rfl) Y ((alive_any _).mono ?_); clear Y
  rintro e9 w2 ⟨rfl, kk⟩
  replace K1 := keep_onto K1 kk
  clear kk
  refine ⟨_, rfl, fun a3 e => ?_⟩
  have h9 := pt_ F e; replace F := pu_ F e; clear e
  have Y : (execOp a3.eval oA8_1_1).run Try.prog w2 = .ok (.value (.bool false)) w2 := by unfold oA8_1_1; go_simp
  refine sv_ gA8_1_1 Y fun a4 e => ?_; clear Y
  clear h9; have h10 := pt_ F e; replace F := pu_ F e; clear e
  refine st_end ?_
  replace h0 := F.of h0; replace h1 := F.of h1; replace h4 := F.of h4; have R := F.r; clear F
  change (cA8_5).wp _ _ _ _
  refine wp_cond_false (x := cA8_6) (y := Code.skip) (eval_slot h10) ?_
  refine wp_skip ?_
  change (cA8_10).wp _ _ _ _
  refine wp_seq (x := cA8_11) (y := cA8_12) ?_
  change (Code.region 3 OA8_3 false).wp _ _ _ _
  refine reg_in (l := [0, 1, 2, 3, 4]) rfl ?_
  have F : FE_ _ [] a4 a4 := ⟨R, Ag_.refl _⟩; clear R
  refine sv_ gA8_3_0 (ym_ rfl (F.of h0)) fun a5 e => ?_
  have h11 := pt_ F e; replace F := pu_ F e; clear e
  refine sv_ gA8_3_1 (ym_ rfl (F.of h1)) fun a6 e => ?_
  have h12 := pt_ F e; replace F := pu_ F e; replace h11 := so_ e h11; clear e
  have Y : (execOp a6.eval oA8_3_2).run Try.prog w2 = .ok (.value (.agg #[.int .i64 4, .string (str nm), .int .i64 0, .slice sa ts.length sc])) w2 := by unfold oA8_3_2; go_simp
  refine sv_ gA8_3_2 Y fun a7 e => ?_; clear Y
  clear h11 h12; have h13 := pt_ F e; replace F := pu_ F e; clear e
  have Y : (execOp a7.eval oA8_3_3).run Try.prog w2 = .ok (.value (.pointer (some ⟨w2.heap.size, 0, none⟩))) (w2.alloc (.cells #[.int .i64 0, .string (⟨#[]⟩), .int .i64 0, .slice none 0 0] 24)) := by unfold oA8_3_3; go_simp
  have B8 := Blk.new w2 24 #[.int .i64 0, .string (⟨#[]⟩), .int .i64 0, .slice none 0 0]
  obtain ⟨w9, hw⟩ : ∃ x, x = w2.alloc (.cells #[.int .i64 0, .string (⟨#[]⟩), .int .i64 0, .slice none 0 0] 24) := ⟨_, rfl⟩; rw [← hw] at Y B8
  obtain ⟨b8, hb⟩ : ∃ x, x = w2.heap.size := ⟨_, rfl⟩; rw [← hb] at Y B8
  have LK1_b8 := lk_ hb K1; replace K1 := ka_ hw K1; clear hw hb
  refine sv_ gA8_3_3 Y fun a10 e => ?_; clear Y
  have h5 := pt_ F e; replace F := pu_ F e; replace h13 := so_ e h13; clear e
  obtain ⟨w11, Y, hk, hB⟩ := ys4_ (o := oA8_3_4) rfl h5 h13 B8
  replace K1 := kx_ hk K1 (Nat.not_lt.2 LK1_b8); clear B8; have B8 := hB; clear hB hk
  refine st_skip gA8_3_4 rfl (wanted_free rfl) Y ?_; clear Y
  refine st_end ?_
  replace h0 := F.of h0; replace h1 := F.of h1; replace h4 := F.of h4; clear h10; clear h13; have R := F.r; clear F
  change (cA8_12).wp _ _ _ _
  refine wp_seq (x := cA8_13) (y := cA8_18) ?_
  refine wp_seq (x := cA8_14) (y := cA8_15) ?_
  change (Code.region 4 OA8_4 false).wp _ _ _ _
  refine reg_in (l := [0, 1, 2]) rfl ?_
  have F : FE_ _ [] a10 a10 := ⟨R, Ag_.refl _⟩; clear R
  refine sv_ gA8_4_0 (ym_ rfl (F.of h1)) fun a12 e => ?_
  have h14 := pt_ F e; replace F := pu_ F e; clear e
  have Y : (execOp a12.eval oA8_4_1).run Try.prog w11 = .ok (.value (.int .i64 ts.length)) w11 := by unfold oA8_4_1; go_simp
  refine sv_ gA8_4_1 Y fun a13 e => ?_; clear Y
  clear h14; have h15 := pt_ F e; replace F := pu_ F e; clear e
  have Y : (execOp a13.eval oA8_4_2).run Try.prog w11 = .ok (.value (.bool true)) w11 := by have h8 := HL.out; unfold oA8_4_2; go_simp
  refine sv_ gA8_4_2 Y fun a14 e => ?_; clear Y
  clear h15; have h16 := pt_ F e; replace F := pu_ F e; clear e
  refine st_end ?_
  replace h0 := F.of h0; replace h1 := F.of h1; replace h4 := F.of h4; replace h5 := F.of h5; have R := F.r; clear F
  change (cA8_15).wp _ _ _ _
  refine wp_cond_true (x := cA8_16) (y := Code.skip) (eval_slot h16) ?_
  change (Code.region 5 OA8_5 false).wp _ _ _ _
  refine reg_in (l := [0, 1, 2]) rfl ?_
  have F : FE_ _ [] a14 a14 := ⟨R, Ag_.refl _⟩; clear R
  refine sv_ gA8_5_0 (ym_ rfl (F.of h0)) fun a15 e => ?_
  have h17 := pt_ F e; replace F := pu_ F e; clear e
  refine st_call gA8_5_1 rfl (wanted_free rfl) (yc1_ enA8_20 rfl h17) ((refA_any _ nm).mono ?_)
  rintro e9 w16 ⟨rfl, kk⟩
  replace K1 := keep_onto K1 kk
  replace B8 := blk_on B8 kk
  clear kk
  refine ⟨_, rfl, fun a17 e => ?_⟩
  clear h17; have h18 := pt_ F e; replace F := pu_ F e; clear e
  obtain ⟨w18, Y, hk, hB⟩ := ys4_ (o := oA8_5_2) rfl (F.of h5) h18 B8
  replace K1 := kx_ hk K1 (Nat.not_lt.2 LK1_b8); clear B8; have B8 := hB; clear hB hk
  refine st_skip gA8_5_2 rfl (wanted_free rfl) Y ?_; clear Y
  refine st_end ?_
  replace h0 := F.of h0; replace h1 := F.of h1; replace h4 := F.of h4; replace h5 := F.of h5; clear h16; clear h18; have R := F.r; clear F
  change (cA8_18).wp _ _ _ _
  refine wp_seq (x := cA8_19) (y := cA8_20) ?_
  change (Code.region 6 OA8_6 false).wp _ _ _ _
  refine reg_in (l := [0, 1, 2, 3, 4, 5, 6, 7, 8]) rfl ?_
  have F : FE_ _ [] a17 a17 := ⟨R, Ag_.refl _⟩; clear R
  refine sv_ gA8_6_0 (yl4_ rfl (F.of h5) B8) fun a19 e => ?_
  have h19 := pt_ F e; replace F := pu_ F e; clear e
  have hca : Calls Try.prog 21 #[tv (Tm.node 3 nm 0 []) none 0] w18 _ := Ball_any (W := w18) (HT.out.on K1); rw [HBV.out] at hca
  refine st_call gA8_6_1 rfl (wanted_free rfl) (yc1_ enA8_21 rfl h19) ((hca).mono ?_)
  rintro e9 w20 ⟨ab, cb, rfl, hx, kk⟩
  replace K1 := keep_onto K1 kk
  replace B8 := blk_on B8 kk
  clear kk
  have HXb := Lib.hid hx.at_; clear hx hca
  have KXb := Keep.refl (fun g => g < w20.heap.size) w20
  refine ⟨_, rfl, fun a21 e => ?_⟩
  clear h19; have h20 := pt_ F e; replace F := pu_ F e; clear e
  refine sv_ gA8_6_2 (ym_ rfl (F.of h0)) fun a22 e => ?_
  have h21 := pt_ F e; replace F := pu_ F e; replace h20 := so_ e h20; clear e
  refine sv_ gA8_6_3 (ym_ rfl (F.of h1)) fun a23 e => ?_
  have h22 := pt_ F e; replace F := pu_ F e; replace h20 := so_ e h20; replace h21 := so_ e h21; clear e
  have hca := Fault_any (W := w20) (nm := nm) (ts := ts) (sa := sa) (sc := sc) (fun h => (HTS.out h).on K1) HNM.out; rw [HFT.out, HBV.out] at hca
  refine st_call gA8_6_4 rfl (wanted_free rfl) (yc2_ enA8_22 rfl h21 h22) ((hca).mono ?_)
  rintro e9 w24 ⟨af, cf, rfl, hx, kk⟩
  replace K1 := keep_onto K1 kk
  replace KXb := keep_onto KXb kk
  replace B8 := blk_on B8 kk
  clear kk
  have HXf := Lib.hid hx.at_; clear hx hca
  have KXf := Keep.refl (fun g => g < w24.heap.size) w24
  refine ⟨_, rfl, fun a25 e => ?_⟩
  clear h21 h22; have h23 := pt_ F e; replace F := pu_ F e; replace h20 := so_ e h20; clear e
  have Y : (execOp a25.eval oA8_6_5).run Try.prog w24 = .ok (.value (.pointer (some ⟨w24.heap.size, 0, none⟩))) (w24.alloc (.cells #[.int .i64 0, .string (⟨#[]⟩), .int .i64 0, .slice none 0 0] 24)) := by unfold oA8_6_5; go_simp
  have B26 := Blk.new w24 24 #[.int .i64 0, .string (⟨#[]⟩), .int .i64 0, .slice none 0 0]
  obtain ⟨w27, hw⟩ : ∃ x, x = w24.alloc (.cells #[.int .i64 0, .string (⟨#[]⟩), .int .i64 0, .slice none 0 0] 24) := ⟨_, rfl⟩; rw [← hw] at Y B26
  obtain ⟨b26, hb⟩ : ∃ x, x = w24.heap.size := ⟨_, rfl⟩; rw [← hb] at Y B26
  have Nb8_b26 := nb_ hb B8; replace B8 := ba_ hw B8; have LK1_b26 := lk_ hb K1; replace K1 := ka_ hw K1; have LKXb_b26 := lk_ hb KXb; replace KXb := ka_ hw KXb; have LKXf_b26 := lk_ hb KXf; replace KXf := ka_ hw KXf; clear hw hb
  refine sv_ gA8_6_5 Y fun a28 e => ?_; clear Y
  have h6 := pt_ F e; replace F := pu_ F e; replace h20 := so_ e h20; replace h23 := so_ e h23; clear e
  have Y : (execOp a28.eval oA8_6_6).run Try.prog w27 = .ok (.value (.pointer (some ⟨w27.heap.size, 0, none⟩))) (w27.alloc (.cells #[.int .i64 0, .string (⟨#[]⟩), .int .i64 0, .slice none 0 0] 24)) := by unfold oA8_6_6; go_simp
  have B29 := Blk.new w27 24 #[.int .i64 0, .string (⟨#[]⟩), .int .i64 0, .slice none 0 0]
  obtain ⟨w30, hw⟩ : ∃ x, x = w27.alloc (.cells #[.int .i64 0, .string (⟨#[]⟩), .int .i64 0, .slice none 0 0] 24) := ⟨_, rfl⟩; rw [← hw] at Y B29
  obtain ⟨b29, hb⟩ : ∃ x, x = w27.heap.size := ⟨_, rfl⟩; rw [← hb] at Y B29
  have Nb8_b29 := nb_ hb B8; replace B8 := ba_ hw B8; have Nb26_b29 := nb_ hb B26; replace B26 := ba_ hw B26; have LK1_b29 := lk_ hb K1; replace K1 := ka_ hw K1; have LKXb_b29 := lk_ hb KXb; replace KXb := ka_ hw KXb; have LKXf_b29 := lk_ hb KXf; replace KXf := ka_ hw KXf; clear hw hb
  refine sv_ gA8_6_6 Y fun a31 e => ?_; clear Y
  have h7 := pt_ F e; replace F := pu_ F e; replace h6 := so_ e h6; replace h20 := so_ e h20; replace h23 := so_ e h23; clear e
  obtain ⟨w32, Y, hk, hB⟩ := ys4_ (o := oA8_6_7) rfl h6 h20 B26
  replace K1 := kx_ hk K1 (Nat.not_lt.2 LK1_b26); replace KXb := kx_ hk KXb (Nat.not_lt.2 LKXb_b26); replace KXf := kx_ hk KXf (Nat.not_lt.2 LKXf_b26); replace B8 := bx_ hk B8 Nb8_b26; replace B29 := bx_ hk B29 (Ne.symm Nb26_b29); clear B26; have B26 := hB; clear hB hk
  refine st_skip gA8_6_7 rfl (wanted_free rfl) Y ?_; clear Y
  obtain ⟨w33, Y, hk, hB⟩ := ys4_ (o := oA8_6_8) rfl h7 h23 B29
  replace K1 := kx_ hk K1 (Nat.not_lt.2 LK1_b29); replace KXb := kx_ hk KXb (Nat.not_lt.2 LKXb_b29); replace KXf := kx_ hk KXf (Nat.not_lt.2 LKXf_b29); replace B8 := bx_ hk B8 Nb8_b29; replace B26 := bx_ hk B26 Nb26_b29; clear B29; have B29 := hB; clear hB hk
  refine st_skip gA8_6_8 rfl (wanted_free rfl) Y ?_; clear Y
  refine st_end ?_
  clear h0; clear h1; replace h4 := F.of h4; replace h5 := F.of h5; clear h20; clear h23; have R := F.r; clear F
  change (cA8_20).wp _ _ _ _
  refine wp_seq (x := cA8_21) (y := cA8_28) ?_
  refine wp_seq (x := cA8_22) (y := cA8_23) ?_
  change (Code.region 7 OA8_7 false).wp _ _ _ _
  refine reg_in (l := [0, 1, 2]) rfl ?_
  have F : FE_ _ [] a31 a31 := ⟨R, Ag_.refl _⟩; clear R
  refine sv_ gA8_7_0 (yl4_ rfl (F.of h5) B8) fun a34 e => ?_
  have h24 := pt_ F e; replace F := pu_ F e; clear e
  refine st_call gA8_7_1 rfl (wanted_free rfl) (yc1_ enA8_11 rfl h24) ((right_is (HT.out.on K1) HR.out).mono ?_)
  rintro e9 w35 ⟨rfl, kk⟩
  replace K1 := keep_onto K1 kk
  replace KXb := keep_onto KXb kk
  replace KXf := keep_onto KXf kk
  replace B8 := blk_on B8 kk
  replace B26 := blk_on B26 kk
  replace B29 := blk_on B29 kk
  clear kk
  refine ⟨_, rfl, fun a36 e => ?_⟩
  clear h24; have h25 := pt_ F e; replace F := pu_ F e; clear e
  have Y : (execOp a36.eval oA8_7_2).run Try.prog w35 = .ok (.value (.bool false)) w35 := by unfold oA8_7_2; go_simp
  refine sv_ gA8_7_2 Y fun a37 e => ?_; clear Y
  clear h25; have h26 := pt_ F e; replace F := pu_ F e; clear e
  refine st_end ?_
  replace h4 := F.of h4; replace h5 := F.of h5; replace h6 := F.of h6; replace h7 := F.of h7; have R := F.r; clear F
  change (cA8_23).wp _ _ _ _
  refine wp_cond_false (x := cA8_24) (y := Code.skip) (eval_slot h26) ?_
  refine wp_skip ?_
  change (cA8_28).wp _ _ _ _
  refine wp_seq (x := cA8_29) (y := cA8_30) ?_
  change (Code.region 9 OA8_9 false).wp _ _ _ _
  refine reg_in (l := [0, 1, 2, 3]) rfl ?_
  have F : FE_ _ [] a37 a37 := ⟨R, Ag_.refl _⟩; clear R
  refine sv_ gA8_9_0 (yl4_ rfl (F.of h5) B8) fun a38 e => ?_
  have h35 := pt_ F e; replace F := pu_ F e; clear e
  have hca : Calls Try.prog 23 #[tv (Tm.node 3 nm 0 []) none 0] w35 _ := refBall_any (own_in (P := fun _ => True) (HT.out.on K1))
  refine st_call gA8_9_1 rfl (wanted_free rfl) (yc1_ enA8_23 rfl h35) ((hca).mono ?_)
  rintro e9 w39 ⟨aw, cw, rfl, hx, kk⟩
  replace K1 := keep_onto K1 kk
  replace KXb := keep_onto KXb kk
  replace KXf := keep_onto KXf kk
  replace B8 := blk_on B8 kk
  replace B26 := blk_on B26 kk
  replace B29 := blk_on B29 kk
  clear kk
  have HXw := Lib.hid hx.at_; clear hx hca
  have KXw := Keep.refl (fun g => g < w39.heap.size) w39
  refine ⟨_, rfl, fun a40 e => ?_⟩
  clear h35; have h36 := pt_ F e; replace F := pu_ F e; clear e
  have Y : (execOp a40.eval oA8_9_2).run Try.prog w39 = .ok (.value (.pointer (some ⟨w39.heap.size, 0, none⟩))) (w39.alloc (.cells #[.int .i64 0, .string (⟨#[]⟩), .int .i64 0, .slice none 0 0] 24)) := by unfold oA8_9_2; go_simp
  have B41 := Blk.new w39 24 #[.int .i64 0, .string (⟨#[]⟩), .int .i64 0, .slice none 0 0]
  obtain ⟨w42, hw⟩ : ∃ x, x = w39.alloc (.cells #[.int .i64 0, .string (⟨#[]⟩), .int .i64 0, .slice none 0 0] 24) := ⟨_, rfl⟩; rw [← hw] at Y B41
  obtain ⟨b41, hb⟩ : ∃ x, x = w39.heap.size := ⟨_, rfl⟩; rw [← hb] at Y B41
  have Nb8_b41 := nb_ hb B8; replace B8 := ba_ hw B8; have Nb26_b41 := nb_ hb B26; replace B26 := ba_ hw B26; have Nb29_b41 := nb_ hb B29; replace B29 := ba_ hw B29; have LK1_b41 := lk_ hb K1; replace K1 := ka_ hw K1; have LKXb_b41 := lk_ hb KXb; replace KXb := ka_ hw KXb; have LKXf_b41 := lk_ hb KXf; replace KXf := ka_ hw KXf; have LKXw_b41 := lk_ hb KXw; replace KXw := ka_ hw KXw; clear hw hb
  refine sv_ gA8_9_2 Y fun a43 e => ?_; clear Y
  have h8 := pt_ F e; replace F := pu_ F e; replace h36 := so_ e h36; clear e
  obtain ⟨w44, Y, hk, hB⟩ := ys4_ (o := oA8_9_3) rfl h8 h36 B41
  replace K1 := kx_ hk K1 (Nat.not_lt.2 LK1_b41); replace KXb := kx_ hk KXb (Nat.not_lt.2 LKXb_b41); replace KXf := kx_ hk KXf (Nat.not_lt.2 LKXf_b41); replace KXw := kx_ hk KXw (Nat.not_lt.2 LKXw_b41); replace B8 := bx_ hk B8 Nb8_b41; replace B26 := bx_ hk B26 Nb26_b41; replace B29 := bx_ hk B29 Nb29_b41; clear B41; have B41 := hB; clear hB hk
  refine st_skip gA8_9_3 rfl (wanted_free rfl) Y ?_; clear Y
  refine st_end ?_
  replace h4 := F.of h4; clear h5; replace h6 := F.of h6; replace h7 := F.of h7; clear h26; clear h36; have R := F.r; clear F
  change (cA8_30).wp _ _ _ _
  refine wp_seq (x := cA8_31) (y := Code.ret) ?_
  change (Code.region 10 OA8_10 false).wp _ _ _ _
  refine reg_in (l := [0, 1, 2, 3, 4, 5, 6, 7, 8]) rfl ?_
  have F : FE_ _ [] a43 a43 := ⟨R, Ag_.refl _⟩; clear R
  refine sv_ gA8_10_0 (yl4_ rfl (F.of h6) B26) fun a45 e => ?_
  have h37 := pt_ F e; replace F := pu_ F e; clear e
  refine sv_ gA8_10_1 (yl4_ rfl (F.of h8) B41) fun a46 e => ?_
  have h38 := pt_ F e; replace F := pu_ F e; replace h37 := so_ e h37; clear e
  refine st_call gA8_10_2 rfl (wanted_free rfl) (yc2_ enA8_13 rfl h37 h38) ((like_ok (HXb.out.on KXb) (HXw.out.on KXw) (ball_like HR.out)).mono ?_)
  rintro e9 w47 ⟨rfl, kk⟩
  replace K1 := keep_onto K1 kk
  replace KXb := keep_onto KXb kk
  replace KXf := keep_onto KXf kk
  replace KXw := keep_onto KXw kk
  replace B8 := blk_on B8 kk
  replace B26 := blk_on B26 kk
  replace B29 := blk_on B29 kk
  replace B41 := blk_on B41 kk
  clear kk
  refine ⟨_, rfl, fun a48 e => ?_⟩
  clear h37 h38; have h39 := pt_ F e; replace F := pu_ F e; clear e
  refine sv_ gA8_10_3 (ym_ rfl h39) fun a49 e => ?_
  clear h39; have h40 := pt_ F e; replace F := pu_ F e; clear e
  refine st_val gA8_10_4 rfl (wanted_is (j := 3) (d := 40) rfl rfl h40 rfl) (yl4_ rfl (F.of h7) B29) fun a50 e => ?_
  have h41 := pt_ F e; replace F := pu_ F e; replace h40 := so_ e h40; clear e
  refine st_val gA8_10_5 rfl (wanted_is (j := 3) (d := 40) rfl rfl h40 rfl) (yl4_ rfl (F.of h8) B41) fun a51 e => ?_
  have h42 := pt_ F e; replace F := pu_ F e; replace h40 := so_ e h40; replace h41 := so_ e h41; clear e
  refine st_call gA8_10_6 rfl (wanted_is (j := 3) (d := 40) rfl rfl h40 rfl) (yc2_ enA8_13 rfl h41 h42) ((like_ok (HXf.out.on KXf) (HXw.out.on KXw) (ball_like HR.out)).mono ?_)
  rintro e9 w52 ⟨rfl, kk⟩
  replace K1 := keep_onto K1 kk
  replace KXb := keep_onto KXb kk
  replace KXf := keep_onto KXf kk
  replace KXw := keep_onto KXw kk
  replace B8 := blk_on B8 kk
  replace B26 := blk_on B26 kk
  replace B29 := blk_on B29 kk
  replace B41 := blk_on B41 kk
  clear kk
  refine ⟨_, rfl, fun a53 e => ?_⟩
  clear h41 h42; have h43 := pt_ F e; replace F := pu_ F e; replace h40 := so_ e h40; clear e
  have Y : (execOp a53.eval oA8_10_7).run Try.prog w52 = .ok (.value (.bool true)) w52 := by unfold oA8_10_7; go_simp
  refine sv_ gA8_10_7 Y fun a54 e => ?_; clear Y
  clear h40 h43; have h44 := pt_ F e; replace F := pu_ F e; clear e
  refine sv_ gA8_10_8 (ya_ rfl h44) fun a55 e => ?_
  clear h44 h4; have h4 := pt_ F e; replace F := pu_ F e; clear e
  refine st_end ?_
  clear h6; clear h7; clear h8; have R := F.r; clear F
  change (Code.ret).wp _ _ _ _
  refine wp_ret ?_
  change bodyPost Try.prog Try.f8 (fun e w' => e = .returned (.bool true) ∧ Keep (fun g => g < W.heap.size) W w') .ret a55 w52
  refine ret_one rfl R h4 ?_
  exact ⟨rfl, K1⟩
set_option maxRecDepth 100000 in
set_option maxHeartbeats 4000000 in
theorem balls_zf {W : World} {nm : List UInt8} {ts : List Tm} {sa : Option Addr} {sc : Nat} {f0 : Act} {w0 : World} (R : FrS 45 f0) (h0 : f0.tmps[0]? = some (.string (str nm))) (h1 : f0.tmps[1]? = some (.slice sa ts.length sc)) (K1 : Keep (fun g => g < W.heap.size) W w0)  (HL : Hid (ts.length = 0)) (HT : Hid (TmAt W.heap.size W (Tm.node 3 nm 0 []) none 0)) (HTS : Hid (¬ ts = [] → TmAt W.heap.size W (.node 4 nm 0 ts) sa sc)) (HNM : Hid (nm.length ≤ maxLen)) (HFT : Hid (faultT nm ts = (Tm.node 3 nm 0 []))) (HBV : Hid (ballV (Tm.node 3 nm 0 []) = zeroT)) (HR : Hid (((Tm.node 3 nm 0 []) : Tm).right = false)) : cA8_0.wp Try.prog (bodyPost Try.prog Try.f8 (fun e w' => e = .returned (.bool true) ∧ Keep (fun g => g < W.heap.size) W w')) f0 w0 := by
  refine wp_seq (x := cA8_1) (y := cA8_2) ?_
  change (Code.region 0 OA8_0 false).wp _ _ _ _
  refine reg_in (l := [0]) rfl ?_
  have F : FE_ _ [] f0 f0 := ⟨R, Ag_.refl _⟩; clear R
  have Y : (execOp f0.eval oA8_0_0).run Try.prog w0 = .ok (.value (.bool false)) w0 := by unfold oA8_0_0; go_simp
  refine sv_ gA8_0_0 Y fun a56 e => ?_; clear Y
  have h4 := pt_ F e; replace F := pu_ F e; clear e
  refine st_end ?_
  replace h0 := F.of h0; replace h1 := F.of h1; have R := F.r; clear F
  change (cA8_2).wp _ _ _ _
  refine wp_seq (x := cA8_3) (y := cA8_10) ?_
  refine wp_seq (x := cA8_4) (y := cA8_5) ?_
  change (Code.region 1 OA8_1 false).wp _ _ _ _
  refine reg_in (l := [0, 1]) rfl ?_
  have F : FE_ _ [] a56 a56 := ⟨R, Ag_.refl _⟩; clear R
  have Y : (execOp a56.eval oA8_1_0).run Try.prog w0 = .ok (.enter 9 #[]) w0 := by unfold oA8_1_0; go_simp
  refine st_call gA8_1_0 rfl (wanted_free rfl) Y ((alive_any _).mono ?_); clear Y
  rintro e9 w57 ⟨rfl, kk⟩
  replace K1 := keep_onto K1 kk
  clear kk
  refine ⟨_, rfl, fun a58 e => ?_⟩
  have h9 := pt_ F e; replace F := pu_ F e; clear e
  have Y : (execOp a58.eval oA8_1_1).run Try.prog w57 = .ok (.value (.bool false)) w57 := by unfold oA8_1_1; go_simp
  refine sv_ gA8_1_1 Y fun a59 e => ?_; clear Y
  clear h9; have h10 := pt_ F e; replace F := pu_ F e; clear e
  refine st_end ?_
  replace h0 := F.of h0; replace h1 := F.of h1; replace h4 := F.of h4; have R := F.r; clear F
  change (cA8_5).wp _ _ _ _
  refine wp_cond_false (x := cA8_6) (y := Code.skip) (eval_slot h10) ?_
  refine wp_skip ?_
  change (cA8_10).wp _ _ _ _
  refine wp_seq (x := cA8_11) (y := cA8_12) ?_
  change (Code.region 3 OA8_3 false).wp _ _ _ _
  refine reg_in (l := [0, 1, 2, 3, 4]) rfl ?_
  have F : FE_ _ [] a59 a59 := ⟨R, Ag_.refl _⟩; clear R
  refine sv_ gA8_3_0 (ym_ rfl (F.of h0)) fun a60 e => ?_
  have h11 := pt_ F e; replace F := pu_ F e; clear e
  refine sv_ gA8_3_1 (ym_ rfl (F.of h1)) fun a61 e => ?_
  have h12 := pt_ F e; replace F := pu_ F e; replace h11 := so_ e h11; clear e
  have Y : (execOp a61.eval oA8_3_2).run Try.prog w57 = .ok (.value (.agg #[.int .i64 4, .string (str nm), .int .i64 0, .slice sa ts.length sc])) w57 := by unfold oA8_3_2; go_simp
  refine sv_ gA8_3_2 Y fun a62 e => ?_; clear Y
  clear h11 h12; have h13 := pt_ F e; replace F := pu_ F e; clear e
  have Y : (execOp a62.eval oA8_3_3).run Try.prog w57 = .ok (.value (.pointer (some ⟨w57.heap.size, 0, none⟩))) (w57.alloc (.cells #[.int .i64 0, .string (⟨#[]⟩), .int .i64 0, .slice none 0 0] 24)) := by unfold oA8_3_3; go_simp
  have B63 := Blk.new w57 24 #[.int .i64 0, .string (⟨#[]⟩), .int .i64 0, .slice none 0 0]
  obtain ⟨w64, hw⟩ : ∃ x, x = w57.alloc (.cells #[.int .i64 0, .string (⟨#[]⟩), .int .i64 0, .slice none 0 0] 24) := ⟨_, rfl⟩; rw [← hw] at Y B63
  obtain ⟨b63, hb⟩ : ∃ x, x = w57.heap.size := ⟨_, rfl⟩; rw [← hb] at Y B63
  have LK1_b63 := lk_ hb K1; replace K1 := ka_ hw K1; clear hw hb
  refine sv_ gA8_3_3 Y fun a65 e => ?_; clear Y
  have h5 := pt_ F e; replace F := pu_ F e; replace h13 := so_ e h13; clear e
  obtain ⟨w66, Y, hk, hB⟩ := ys4_ (o := oA8_3_4) rfl h5 h13 B63
  replace K1 := kx_ hk K1 (Nat.not_lt.2 LK1_b63); clear B63; have B63 := hB; clear hB hk
  refine st_skip gA8_3_4 rfl (wanted_free rfl) Y ?_; clear Y
  refine st_end ?_
  replace h0 := F.of h0; replace h1 := F.of h1; replace h4 := F.of h4; clear h10; clear h13; have R := F.r; clear F
  change (cA8_12).wp _ _ _ _
  refine wp_seq (x := cA8_13) (y := cA8_18) ?_
  refine wp_seq (x := cA8_14) (y := cA8_15) ?_
  change (Code.region 4 OA8_4 false).wp _ _ _ _
  refine reg_in (l := [0, 1, 2]) rfl ?_
  have F : FE_ _ [] a65 a65 := ⟨R, Ag_.refl _⟩; clear R
  refine sv_ gA8_4_0 (ym_ rfl (F.of h1)) fun a67 e => ?_
  have h14 := pt_ F e; replace F := pu_ F e; clear e
  have Y : (execOp a67.eval oA8_4_1).run Try.prog w66 = .ok (.value (.int .i64 ts.length)) w66 := by unfold oA8_4_1; go_simp
  refine sv_ gA8_4_1 Y fun a68 e => ?_; clear Y
  clear h14; have h15 := pt_ F e; replace F := pu_ F e; clear e
  have Y : (execOp a68.eval oA8_4_2).run Try.prog w66 = .ok (.value (.bool true)) w66 := by have h8 := HL.out; unfold oA8_4_2; go_simp
  refine sv_ gA8_4_2 Y fun a69 e => ?_; clear Y
  clear h15; have h16 := pt_ F e; replace F := pu_ F e; clear e
  refine st_end ?_
  replace h0 := F.of h0; replace h1 := F.of h1; replace h4 := F.of h4; replace h5 := F.of h5; have R := F.r; clear F
  change (cA8_15).wp _ _ _ _
  refine wp_cond_true (x := cA8_16) (y := Code.skip) (eval_slot h16) ?_
  change (Code.region 5 OA8_5 false).wp _ _ _ _
  refine reg_in (l := [0, 1, 2]) rfl ?_
  have F : FE_ _ [] a69 a69 := ⟨R, Ag_.refl _⟩; clear R
  refine sv_ gA8_5_0 (ym_ rfl (F.of h0)) fun a70 e => ?_
  have h17 := pt_ F e; replace F := pu_ F e; clear e
  refine st_call gA8_5_1 rfl (wanted_free rfl) (yc1_ enA8_20 rfl h17) ((refA_any _ nm).mono ?_)
  rintro e9 w71 ⟨rfl, kk⟩
  replace K1 := keep_onto K1 kk
  replace B63 := blk_on B63 kk
  clear kk
  refine ⟨_, rfl, fun a72 e => ?_⟩
  clear h17; have h18 := pt_ F e; replace F := pu_ F e; clear e
  obtain ⟨w73, Y, hk, hB⟩ := ys4_ (o := oA8_5_2) rfl (F.of h5) h18 B63
  replace K1 := kx_ hk K1 (Nat.not_lt.2 LK1_b63); clear B63; have B63 := hB; clear hB hk
  refine st_skip gA8_5_2 rfl (wanted_free rfl) Y ?_; clear Y
  refine st_end ?_
  replace h0 := F.of h0; replace h1 := F.of h1; replace h4 := F.of h4; replace h5 := F.of h5; clear h16; clear h18; have R := F.r; clear F
  change (cA8_18).wp _ _ _ _
  refine wp_seq (x := cA8_19) (y := cA8_20) ?_
  change (Code.region 6 OA8_6 false).wp _ _ _ _
  refine reg_in (l := [0, 1, 2, 3, 4, 5, 6, 7, 8]) rfl ?_
  have F : FE_ _ [] a72 a72 := ⟨R, Ag_.refl _⟩; clear R
  refine sv_ gA8_6_0 (yl4_ rfl (F.of h5) B63) fun a74 e => ?_
  have h19 := pt_ F e; replace F := pu_ F e; clear e
  have hca : Calls Try.prog 21 #[tv (Tm.node 3 nm 0 []) none 0] w73 _ := Ball_any (W := w73) (HT.out.on K1); rw [HBV.out] at hca
  refine st_call gA8_6_1 rfl (wanted_free rfl) (yc1_ enA8_21 rfl h19) ((hca).mono ?_)
  rintro e9 w75 ⟨ab, cb, rfl, hx, kk⟩
  replace K1 := keep_onto K1 kk
  replace B63 := blk_on B63 kk
  clear kk
  have HXb := Lib.hid hx.at_; clear hx hca
  have KXb := Keep.refl (fun g => g < w75.heap.size) w75
  refine ⟨_, rfl, fun a76 e => ?_⟩
  clear h19; have h20 := pt_ F e; replace F := pu_ F e; clear e
  refine sv_ gA8_6_2 (ym_ rfl (F.of h0)) fun a77 e => ?_
  have h21 := pt_ F e; replace F := pu_ F e; replace h20 := so_ e h20; clear e
  refine sv_ gA8_6_3 (ym_ rfl (F.of h1)) fun a78 e => ?_
  have h22 := pt_ F e; replace F := pu_ F e; replace h20 := so_ e h20; replace h21 := so_ e h21; clear e
  have hca := Fault_any (W := w75) (nm := nm) (ts := ts) (sa := sa) (sc := sc) (fun h => (HTS.out h).on K1) HNM.out; rw [HFT.out, HBV.out] at hca
  refine st_call gA8_6_4 rfl (wanted_free rfl) (yc2_ enA8_22 rfl h21 h22) ((hca).mono ?_)
  rintro e9 w79 ⟨af, cf, rfl, hx, kk⟩
  replace K1 := keep_onto K1 kk
  replace KXb := keep_onto KXb kk
  replace B63 := blk_on B63 kk
  clear kk
  have HXf := Lib.hid hx.at_; clear hx hca
  have KXf := Keep.refl (fun g => g < w79.heap.size) w79
  refine ⟨_, rfl, fun a80 e => ?_⟩
  clear h21 h22; have h23 := pt_ F e; replace F := pu_ F e; replace h20 := so_ e h20; clear e
  have Y : (execOp a80.eval oA8_6_5).run Try.prog w79 = .ok (.value (.pointer (some ⟨w79.heap.size, 0, none⟩))) (w79.alloc (.cells #[.int .i64 0, .string (⟨#[]⟩), .int .i64 0, .slice none 0 0] 24)) := by unfold oA8_6_5; go_simp
  have B81 := Blk.new w79 24 #[.int .i64 0, .string (⟨#[]⟩), .int .i64 0, .slice none 0 0]
  obtain ⟨w82, hw⟩ : ∃ x, x = w79.alloc (.cells #[.int .i64 0, .string (⟨#[]⟩), .int .i64 0, .slice none 0 0] 24) := ⟨_, rfl⟩; rw [← hw] at Y B81
  obtain ⟨b81, hb⟩ : ∃ x, x = w79.heap.size := ⟨_, rfl⟩; rw [← hb] at Y B81
  have Nb63_b81 := nb_ hb B63; replace B63 := ba_ hw B63; have LK1_b81 := lk_ hb K1; replace K1 := ka_ hw K1; have LKXb_b81 := lk_ hb KXb; replace KXb := ka_ hw KXb; have LKXf_b81 := lk_ hb KXf; replace KXf := ka_ hw KXf; clear hw hb
  refine sv_ gA8_6_5 Y fun a83 e => ?_; clear Y
  have h6 := pt_ F e; replace F := pu_ F e; replace h20 := so_ e h20; replace h23 := so_ e h23; clear e
  have Y : (execOp a83.eval oA8_6_6).run Try.prog w82 = .ok (.value (.pointer (some ⟨w82.heap.size, 0, none⟩))) (w82.alloc (.cells #[.int .i64 0, .string (⟨#[]⟩), .int .i64 0, .slice none 0 0] 24)) := by unfold oA8_6_6; go_simp
  have B84 := Blk.new w82 24 #[.int .i64 0, .string (⟨#[]⟩), .int .i64 0, .slice none 0 0]
  obtain ⟨w85, hw⟩ : ∃ x, x = w82.alloc (.cells #[.int .i64 0, .string (⟨#[]⟩), .int .i64 0, .slice none 0 0] 24) := ⟨_, rfl⟩; rw [← hw] at Y B84
  obtain ⟨b84, hb⟩ : ∃ x, x = w82.heap.size := ⟨_, rfl⟩; rw [← hb] at Y B84
  have Nb63_b84 := nb_ hb B63; replace B63 := ba_ hw B63; have Nb81_b84 := nb_ hb B81; replace B81 := ba_ hw B81; have LK1_b84 := lk_ hb K1; replace K1 := ka_ hw K1; have LKXb_b84 := lk_ hb KXb; replace KXb := ka_ hw KXb; have LKXf_b84 := lk_ hb KXf; replace KXf := ka_ hw KXf; clear hw hb
  refine sv_ gA8_6_6 Y fun a86 e => ?_; clear Y
  have h7 := pt_ F e; replace F := pu_ F e; replace h6 := so_ e h6; replace h20 := so_ e h20; replace h23 := so_ e h23; clear e
  obtain ⟨w87, Y, hk, hB⟩ := ys4_ (o := oA8_6_7) rfl h6 h20 B81
  replace K1 := kx_ hk K1 (Nat.not_lt.2 LK1_b81); replace KXb := kx_ hk KXb (Nat.not_lt.2 LKXb_b81); replace KXf := kx_ hk KXf (Nat.not_lt.2 LKXf_b81); replace B63 := bx_ hk B63 Nb63_b81; replace B84 := bx_ hk B84 (Ne.symm Nb81_b84); clear B81; have B81 := hB; clear hB hk
  refine st_skip gA8_6_7 rfl (wanted_free rfl) Y ?_; clear Y
  obtain ⟨w88, Y, hk, hB⟩ := ys4_ (o := oA8_6_8) rfl h7 h23 B84
  replace K1 := kx_ hk K1 (Nat.not_lt.2 LK1_b84); replace KXb := kx_ hk KXb (Nat.not_lt.2 LKXb_b84); replace KXf := kx_ hk KXf (Nat.not_lt.2 LKXf_b84); replace B63 := bx_ hk B63 Nb63_b84; replace B81 := bx_ hk B81 Nb81_b84; clear B84; have B84 := hB; clear hB hk
  refine st_skip gA8_6_8 rfl (wanted_free rfl) Y ?_; clear Y
  refine st_end ?_
  clear h0; clear h1; replace h4 := F.of h4; replace h5 := F.of h5; clear h20; clear h23; have R := F.r; clear F
  change (cA8_20).wp _ _ _ _
  refine wp_seq (x := cA8_21) (y := cA8_28) ?_
  refine wp_seq (x := cA8_22) (y := cA8_23) ?_
  change (Code.region 7 OA8_7 false).wp _ _ _ _
  refine reg_in (l := [0, 1, 2]) rfl ?_
  have F : FE_ _ [] a86 a86 := ⟨R, Ag_.refl _⟩; clear R
  refine sv_ gA8_7_0 (yl4_ rfl (F.of h5) B63) fun a89 e => ?_
  have h24 := pt_ F e; replace F := pu_ F e; clear e
  refine st_call gA8_7_1 rfl (wanted_free rfl) (yc1_ enA8_11 rfl h24) ((right_is (HT.out.on K1) HR.out).mono ?_)
  rintro e9 w90 ⟨rfl, kk⟩
  replace K1 := keep_onto K1 kk
  replace KXb := keep_onto KXb kk
  replace KXf := keep_onto KXf kk
  replace B63 := blk_on B63 kk
  replace B81 := blk_on B81 kk
  replace B84 := blk_on B84 kk
  clear kk
  refine ⟨_, rfl, fun a91 e => ?_⟩
  clear h24; have h25 := pt_ F e; replace F := pu_ F e; clear e
  have Y : (execOp a91.eval oA8_7_2).run Try.prog w90 = .ok (.value (.bool true)) w90 := by unfold oA8_7_2; go_simp
  refine sv_ gA8_7_2 Y fun a92 e => ?_; clear Y
  clear h25; have h26 := pt_ F e; replace F := pu_ F e; clear e
  refine st_end ?_
  replace h4 := F.of h4; replace h5 := F.of h5; replace h6 := F.of h6; replace h7 := F.of h7; have R := F.r; clear F
  change (cA8_23).wp _ _ _ _
  refine wp_cond_true (x := cA8_24) (y := Code.skip) (eval_slot h26) ?_
  refine wp_seq (x := cA8_25) (y := Code.ret) ?_
  change (Code.region 8 OA8_8 false).wp _ _ _ _
  refine reg_in (l := [0, 1, 2, 3, 4, 5, 6, 7, 8]) rfl ?_
  have F : FE_ _ [] a92 a92 := ⟨R, Ag_.refl _⟩; clear R
  refine sv_ gA8_8_0 (yf0_ rfl (F.of h6)) fun a93 e => ?_
  have h27 := pt_ F e; replace F := pu_ F e; clear e
  refine sv_ gA8_8_1 (yk0_ rfl h27 B81) fun a94 e => ?_
  clear h27; have h28 := pt_ F e; replace F := pu_ F e; clear e
  have Y : (execOp a94.eval oA8_8_2).run Try.prog w90 = .ok (.value (.bool true)) w90 := by have h8 : zeroT.k = 0 := rfl; unfold oA8_8_2; go_simp
  refine sv_ gA8_8_2 Y fun a95 e => ?_; clear Y
  clear h28; have h29 := pt_ F e; replace F := pu_ F e; clear e
  refine sv_ gA8_8_3 (ym_ rfl h29) fun a96 e => ?_
  clear h29; have h30 := pt_ F e; replace F := pu_ F e; clear e
  refine st_val gA8_8_4 rfl (wanted_is (j := 3) (d := 30) rfl rfl h30 rfl) (yf0_ rfl (F.of h7)) fun a97 e => ?_
  have h31 := pt_ F e; replace F := pu_ F e; replace h30 := so_ e h30; clear e
  refine st_val gA8_8_5 rfl (wanted_is (j := 3) (d := 30) rfl rfl h30 rfl) (yk0_ rfl h31 B84) fun a98 e => ?_
  clear h31; have h32 := pt_ F e; replace F := pu_ F e; replace h30 := so_ e h30; clear e
  have Y : (execOp a98.eval oA8_8_6).run Try.prog w90 = .ok (.value (.bool true)) w90 := by have h8 : zeroT.k = 0 := rfl; unfold oA8_8_6; go_simp
  refine st_val gA8_8_6 rfl (wanted_is (j := 3) (d := 30) rfl rfl h30 rfl) Y fun a99 e => ?_; clear Y
  clear h32; have h33 := pt_ F e; replace F := pu_ F e; replace h30 := so_ e h30; clear e
  have Y : (execOp a99.eval oA8_8_7).run Try.prog w90 = .ok (.value (.bool true)) w90 := by unfold oA8_8_7; go_simp
  refine sv_ gA8_8_7 Y fun a100 e => ?_; clear Y
  clear h30 h33; have h34 := pt_ F e; replace F := pu_ F e; clear e
  refine sv_ gA8_8_8 (ya_ rfl h34) fun a101 e => ?_
  clear h34 h4; have h4 := pt_ F e; replace F := pu_ F e; clear e
  refine st_end ?_
  replace h5 := F.of h5; replace h6 := F.of h6; replace h7 := F.of h7; clear h26; have R := F.r; clear F
  change (Code.ret).wp _ _ _ _
  refine wp_ret ?_
  change bodyPost Try.prog Try.f8 (fun e w' => e = .returned (.bool true) ∧ Keep (fun g => g < W.heap.size) W w') .ret a101 w90
  refine ret_one rfl R h4 ?_
  exact ⟨rfl, K1⟩
set_option maxRecDepth 100000 in
set_option maxHeartbeats 4000000 in
theorem balls_nt {W : World} {nm : List UInt8} {ts : List Tm} {sa : Option Addr} {sc : Nat} {f0 : Act} {w0 : World} (R : FrS 45 f0) (h0 : f0.tmps[0]? = some (.string (str nm))) (h1 : f0.tmps[1]? = some (.slice sa ts.length sc)) (K1 : Keep (fun g => g < W.heap.size) W w0)  (HL : Hid (¬ ts.length = 0)) (HT : Hid (TmAt W.heap.size W (Tm.node 4 nm 0 ts) sa sc)) (HTS : Hid (¬ ts = [] → TmAt W.heap.size W (.node 4 nm 0 ts) sa sc)) (HNM : Hid (nm.length ≤ maxLen)) (HFT : Hid (faultT nm ts = (Tm.node 4 nm 0 ts))) (HBV : Hid (ballV (Tm.node 4 nm 0 ts) = (ballT (Tm.node 4 nm 0 ts).tree.tm))) (HR : Hid (((Tm.node 4 nm 0 ts) : Tm).right = true)) : cA8_0.wp Try.prog (bodyPost Try.prog Try.f8 (fun e w' => e = .returned (.bool true) ∧ Keep (fun g => g < W.heap.size) W w')) f0 w0 := by
  refine wp_seq (x := cA8_1) (y := cA8_2) ?_
  change (Code.region 0 OA8_0 false).wp _ _ _ _
  refine reg_in (l := [0]) rfl ?_
  have F : FE_ _ [] f0 f0 := ⟨R, Ag_.refl _⟩; clear R
  have Y : (execOp f0.eval oA8_0_0).run Try.prog w0 = .ok (.value (.bool false)) w0 := by unfold oA8_0_0; go_simp
  refine sv_ gA8_0_0 Y fun a102 e => ?_; clear Y
  have h4 := pt_ F e; replace F := pu_ F e; clear e
  refine st_end ?_
  replace h0 := F.of h0; replace h1 := F.of h1; have R := F.r; clear F
  change (cA8_2).wp _ _ _ _
  refine wp_seq (x := cA8_3) (y := cA8_10) ?_
  refine wp_seq (x := cA8_4) (y := cA8_5) ?_
  change (Code.region 1 OA8_1 false).wp _ _ _ _
  refine reg_in (l := [0, 1]) rfl ?_
  have F : FE_ _ [] a102 a102 := ⟨R, Ag_.refl _⟩; clear R
  have Y : (execOp a102.eval oA8_1_0).run Try.prog w0 = .ok (.enter 9 #[]) w0 := by unfold oA8_1_0; go_simp
  refine st_call gA8_1_0 rfl (wanted_free rfl) Y ((alive_any _).mono ?_); clear Y
  rintro e9 w103 ⟨rfl, kk⟩
  replace K1 := keep_onto K1 kk
  clear kk
  refine ⟨_, rfl, fun a104 e => ?_⟩
  have h9 := pt_ F e; replace F := pu_ F e; clear e
  have Y : (execOp a104.eval oA8_1_1).run Try.prog w103 = .ok (.value (.bool false)) w103 := by unfold oA8_1_1; go_simp
  refine sv_ gA8_1_1 Y fun a105 e => ?_; clear Y
  clear h9; have h10 := pt_ F e; replace F := pu_ F e; clear e
  refine st_end ?_
  replace h0 := F.of h0; replace h1 := F.of h1; replace h4 := F.of h4; have R := F.r; clear F
  change (cA8_5).wp _ _ _ _
  refine wp_cond_false (x := cA8_6) (y := Code.skip) (eval_slot h10) ?_
  refine wp_skip ?_
  change (cA8_10).wp _ _ _ _
  refine wp_seq (x := cA8_11) (y := cA8_12) ?_
  change (Code.region 3 OA8_3 false).wp _ _ _ _
  refine reg_in (l := [0, 1, 2, 3, 4]) rfl ?_
  have F : FE_ _ [] a105 a105 := ⟨R, Ag_.refl _⟩; clear R
  refine sv_ gA8_3_0 (ym_ rfl (F.of h0)) fun a106 e => ?_
  have h11 := pt_ F e; replace F := pu_ F e; clear e
  refine sv_ gA8_3_1 (ym_ rfl (F.of h1)) fun a107 e => ?_
  have h12 := pt_ F e; replace F := pu_ F e; replace h11 := so_ e h11; clear e
  have Y : (execOp a107.eval oA8_3_2).run Try.prog w103 = .ok (.value (.agg #[.int .i64 4, .string (str nm), .int .i64 0, .slice sa ts.length sc])) w103 := by unfold oA8_3_2; go_simp
  refine sv_ gA8_3_2 Y fun a108 e => ?_; clear Y
  clear h11 h12; have h13 := pt_ F e; replace F := pu_ F e; clear e
  have Y : (execOp a108.eval oA8_3_3).run Try.prog w103 = .ok (.value (.pointer (some ⟨w103.heap.size, 0, none⟩))) (w103.alloc (.cells #[.int .i64 0, .string (⟨#[]⟩), .int .i64 0, .slice none 0 0] 24)) := by unfold oA8_3_3; go_simp
  have B109 := Blk.new w103 24 #[.int .i64 0, .string (⟨#[]⟩), .int .i64 0, .slice none 0 0]
  obtain ⟨w110, hw⟩ : ∃ x, x = w103.alloc (.cells #[.int .i64 0, .string (⟨#[]⟩), .int .i64 0, .slice none 0 0] 24) := ⟨_, rfl⟩; rw [← hw] at Y B109
  obtain ⟨b109, hb⟩ : ∃ x, x = w103.heap.size := ⟨_, rfl⟩; rw [← hb] at Y B109
  have LK1_b109 := lk_ hb K1; replace K1 := ka_ hw K1; clear hw hb
  refine sv_ gA8_3_3 Y fun a111 e => ?_; clear Y
  have h5 := pt_ F e; replace F := pu_ F e; replace h13 := so_ e h13; clear e
  obtain ⟨w112, Y, hk, hB⟩ := ys4_ (o := oA8_3_4) rfl h5 h13 B109
  replace K1 := kx_ hk K1 (Nat.not_lt.2 LK1_b109); clear B109; have B109 := hB; clear hB hk
  refine st_skip gA8_3_4 rfl (wanted_free rfl) Y ?_; clear Y
  refine st_end ?_
  replace h0 := F.of h0; replace h1 := F.of h1; replace h4 := F.of h4; clear h10; clear h13; have R := F.r; clear F
  change (cA8_12).wp _ _ _ _
  refine wp_seq (x := cA8_13) (y := cA8_18) ?_
  refine wp_seq (x := cA8_14) (y := cA8_15) ?_
  change (Code.region 4 OA8_4 false).wp _ _ _ _
  refine reg_in (l := [0, 1, 2]) rfl ?_
  have F : FE_ _ [] a111 a111 := ⟨R, Ag_.refl _⟩; clear R
  refine sv_ gA8_4_0 (ym_ rfl (F.of h1)) fun a113 e => ?_
  have h14 := pt_ F e; replace F := pu_ F e; clear e
  have Y : (execOp a113.eval oA8_4_1).run Try.prog w112 = .ok (.value (.int .i64 ts.length)) w112 := by unfold oA8_4_1; go_simp
  refine sv_ gA8_4_1 Y fun a114 e => ?_; clear Y
  clear h14; have h15 := pt_ F e; replace F := pu_ F e; clear e
  have Y : (execOp a114.eval oA8_4_2).run Try.prog w112 = .ok (.value (.bool false)) w112 := by have h8 := HL.out; unfold oA8_4_2; go_simp
  refine sv_ gA8_4_2 Y fun a115 e => ?_; clear Y
  clear h15; have h16 := pt_ F e; replace F := pu_ F e; clear e
  refine st_end ?_
  replace h0 := F.of h0; replace h1 := F.of h1; replace h4 := F.of h4; replace h5 := F.of h5; have R := F.r; clear F
  change (cA8_15).wp _ _ _ _
  refine wp_cond_false (x := cA8_16) (y := Code.skip) (eval_slot h16) ?_
  refine wp_skip ?_
  change (cA8_18).wp _ _ _ _
  refine wp_seq (x := cA8_19) (y := cA8_20) ?_
  change (Code.region 6 OA8_6 false).wp _ _ _ _
  refine reg_in (l := [0, 1, 2, 3, 4, 5, 6, 7, 8]) rfl ?_
  have F : FE_ _ [] a115 a115 := ⟨R, Ag_.refl _⟩; clear R
  refine sv_ gA8_6_0 (yl4_ rfl (F.of h5) B109) fun a116 e => ?_
  have h19 := pt_ F e; replace F := pu_ F e; clear e
  have hca : Calls Try.prog 21 #[tv (Tm.node 4 nm 0 ts) sa sc] w112 _ := Ball_any (W := w112) (HT.out.on K1); rw [HBV.out] at hca
  refine st_call gA8_6_1 rfl (wanted_free rfl) (yc1_ enA8_21 rfl h19) ((hca).mono ?_)
  rintro e9 w117 ⟨ab, cb, rfl, hx, kk⟩
  replace K1 := keep_onto K1 kk
  replace B109 := blk_on B109 kk
  clear kk
  have HXb := Lib.hid hx.at_; clear hx hca
  have KXb := Keep.refl (fun g => g < w117.heap.size) w117
  refine ⟨_, rfl, fun a118 e => ?_⟩
  clear h19; have h20 := pt_ F e; replace F := pu_ F e; clear e
  refine sv_ gA8_6_2 (ym_ rfl (F.of h0)) fun a119 e => ?_
  have h21 := pt_ F e; replace F := pu_ F e; replace h20 := so_ e h20; clear e
  refine sv_ gA8_6_3 (ym_ rfl (F.of h1)) fun a120 e => ?_
  have h22 := pt_ F e; replace F := pu_ F e; replace h20 := so_ e h20; replace h21 := so_ e h21; clear e
  have hca := Fault_any (W := w117) (nm := nm) (ts := ts) (sa := sa) (sc := sc) (fun h => (HTS.out h).on K1) HNM.out; rw [HFT.out, HBV.out] at hca
  refine st_call gA8_6_4 rfl (wanted_free rfl) (yc2_ enA8_22 rfl h21 h22) ((hca).mono ?_)
  rintro e9 w121 ⟨af, cf, rfl, hx, kk⟩
  replace K1 := keep_onto K1 kk
  replace KXb := keep_onto KXb kk
  replace B109 := blk_on B109 kk
  clear kk
  have HXf := Lib.hid hx.at_; clear hx hca
  have KXf := Keep.refl (fun g => g < w121.heap.size) w121
  refine ⟨_, rfl, fun a122 e => ?_⟩
  clear h21 h22; have h23 := pt_ F e; replace F := pu_ F e; replace h20 := so_ e h20; clear e
  have Y : (execOp a122.eval oA8_6_5).run Try.prog w121 = .ok (.value (.pointer (some ⟨w121.heap.size, 0, none⟩))) (w121.alloc (.cells #[.int .i64 0, .string (⟨#[]⟩), .int .i64 0, .slice none 0 0] 24)) := by unfold oA8_6_5; go_simp
  have B123 := Blk.new w121 24 #[.int .i64 0, .string (⟨#[]⟩), .int .i64 0, .slice none 0 0]
  obtain ⟨w124, hw⟩ : ∃ x, x = w121.alloc (.cells #[.int .i64 0, .string (⟨#[]⟩), .int .i64 0, .slice none 0 0] 24) := ⟨_, rfl⟩; rw [← hw] at Y B123
  obtain ⟨b123, hb⟩ : ∃ x, x = w121.heap.size := ⟨_, rfl⟩; rw [← hb] at Y B123
  have Nb109_b123 := nb_ hb B109; replace B109 := ba_ hw B109; have LK1_b123 := lk_ hb K1; replace K1 := ka_ hw K1; have LKXb_b123 := lk_ hb KXb; replace KXb := ka_ hw KXb; have LKXf_b123 := lk_ hb KXf; replace KXf := ka_ hw KXf; clear hw hb
  refine sv_ gA8_6_5 Y fun a125 e => ?_; clear Y
  have h6 := pt_ F e; replace F := pu_ F e; replace h20 := so_ e h20; replace h23 := so_ e h23; clear e
  have Y : (execOp a125.eval oA8_6_6).run Try.prog w124 = .ok (.value (.pointer (some ⟨w124.heap.size, 0, none⟩))) (w124.alloc (.cells #[.int .i64 0, .string (⟨#[]⟩), .int .i64 0, .slice none 0 0] 24)) := by unfold oA8_6_6; go_simp
  have B126 := Blk.new w124 24 #[.int .i64 0, .string (⟨#[]⟩), .int .i64 0, .slice none 0 0]
  obtain ⟨w127, hw⟩ : ∃ x, x = w124.alloc (.cells #[.int .i64 0, .string (⟨#[]⟩), .int .i64 0, .slice none 0 0] 24) := ⟨_, rfl⟩; rw [← hw] at Y B126
  obtain ⟨b126, hb⟩ : ∃ x, x = w124.heap.size := ⟨_, rfl⟩; rw [← hb] at Y B126
  have Nb109_b126 := nb_ hb B109; replace B109 := ba_ hw B109; have Nb123_b126 := nb_ hb B123; replace B123 := ba_ hw B123; have LK1_b126 := lk_ hb K1; replace K1 := ka_ hw K1; have LKXb_b126 := lk_ hb KXb; replace KXb := ka_ hw KXb; have LKXf_b126 := lk_ hb KXf; replace KXf := ka_ hw KXf; clear hw hb
  refine sv_ gA8_6_6 Y fun a128 e => ?_; clear Y
  have h7 := pt_ F e; replace F := pu_ F e; replace h6 := so_ e h6; replace h20 := so_ e h20; replace h23 := so_ e h23; clear e
  obtain ⟨w129, Y, hk, hB⟩ := ys4_ (o := oA8_6_7) rfl h6 h20 B123
  replace K1 := kx_ hk K1 (Nat.not_lt.2 LK1_b123); replace KXb := kx_ hk KXb (Nat.not_lt.2 LKXb_b123); replace KXf := kx_ hk KXf (Nat.not_lt.2 LKXf_b123); replace B109 := bx_ hk B109 Nb109_b123; replace B126 := bx_ hk B126 (Ne.symm Nb123_b126); clear B123; have B123 := hB; clear hB hk
  refine st_skip gA8_6_7 rfl (wanted_free rfl) Y ?_; clear Y
  obtain ⟨w130, Y, hk, hB⟩ := ys4_ (o := oA8_6_8) rfl h7 h23 B126
  replace K1 := kx_ hk K1 (Nat.not_lt.2 LK1_b126); replace KXb := kx_ hk KXb (Nat.not_lt.2 LKXb_b126); replace KXf := kx_ hk KXf (Nat.not_lt.2 LKXf_b126); replace B109 := bx_ hk B109 Nb109_b126; replace B123 := bx_ hk B123 Nb123_b126; clear B126; have B126 := hB; clear hB hk
  refine st_skip gA8_6_8 rfl (wanted_free rfl) Y ?_; clear Y
  refine st_end ?_
  clear h0; clear h1; replace h4 := F.of h4; replace h5 := F.of h5; clear h16; clear h20; clear h23; have R := F.r; clear F
  change (cA8_20).wp _ _ _ _
  refine wp_seq (x := cA8_21) (y := cA8_28) ?_
  refine wp_seq (x := cA8_22) (y := cA8_23) ?_
  change (Code.region 7 OA8_7 false).wp _ _ _ _
  refine reg_in (l := [0, 1, 2]) rfl ?_
  have F : FE_ _ [] a128 a128 := ⟨R, Ag_.refl _⟩; clear R
  refine sv_ gA8_7_0 (yl4_ rfl (F.of h5) B109) fun a131 e => ?_
  have h24 := pt_ F e; replace F := pu_ F e; clear e
  refine st_call gA8_7_1 rfl (wanted_free rfl) (yc1_ enA8_11 rfl h24) ((right_is (HT.out.on K1) HR.out).mono ?_)
  rintro e9 w132 ⟨rfl, kk⟩
  replace K1 := keep_onto K1 kk
  replace KXb := keep_onto KXb kk
  replace KXf := keep_onto KXf kk
  replace B109 := blk_on B109 kk
  replace B123 := blk_on B123 kk
  replace B126 := blk_on B126 kk
  clear kk
  refine ⟨_, rfl, fun a133 e => ?_⟩
  clear h24; have h25 := pt_ F e; replace F := pu_ F e; clear e
  have Y : (execOp a133.eval oA8_7_2).run Try.prog w132 = .ok (.value (.bool false)) w132 := by unfold oA8_7_2; go_simp
  refine sv_ gA8_7_2 Y fun a134 e => ?_; clear Y
  clear h25; have h26 := pt_ F e; replace F := pu_ F e; clear e
  refine st_end ?_
  replace h4 := F.of h4; replace h5 := F.of h5; replace h6 := F.of h6; replace h7 := F.of h7; have R := F.r; clear F
  change (cA8_23).wp _ _ _ _
  refine wp_cond_false (x := cA8_24) (y := Code.skip) (eval_slot h26) ?_
  refine wp_skip ?_
  change (cA8_28).wp _ _ _ _
  refine wp_seq (x := cA8_29) (y := cA8_30) ?_
  change (Code.region 9 OA8_9 false).wp _ _ _ _
  refine reg_in (l := [0, 1, 2, 3]) rfl ?_
  have F : FE_ _ [] a134 a134 := ⟨R, Ag_.refl _⟩; clear R
  refine sv_ gA8_9_0 (yl4_ rfl (F.of h5) B109) fun a135 e => ?_
  have h35 := pt_ F e; replace F := pu_ F e; clear e
  have hca : Calls Try.prog 23 #[tv (Tm.node 4 nm 0 ts) sa sc] w132 _ := refBall_any (own_in (P := fun _ => True) (HT.out.on K1))
  refine st_call gA8_9_1 rfl (wanted_free rfl) (yc1_ enA8_23 rfl h35) ((hca).mono ?_)
  rintro e9 w136 ⟨aw, cw, rfl, hx, kk⟩
  replace K1 := keep_onto K1 kk
  replace KXb := keep_onto KXb kk
  replace KXf := keep_onto KXf kk
  replace B109 := blk_on B109 kk
  replace B123 := blk_on B123 kk
  replace B126 := blk_on B126 kk
  clear kk
  have HXw := Lib.hid hx.at_; clear hx hca
  have KXw := Keep.refl (fun g => g < w136.heap.size) w136
  refine ⟨_, rfl, fun a137 e => ?_⟩
  clear h35; have h36 := pt_ F e; replace F := pu_ F e; clear e
  have Y : (execOp a137.eval oA8_9_2).run Try.prog w136 = .ok (.value (.pointer (some ⟨w136.heap.size, 0, none⟩))) (w136.alloc (.cells #[.int .i64 0, .string (⟨#[]⟩), .int .i64 0, .slice none 0 0] 24)) := by unfold oA8_9_2; go_simp
  have B138 := Blk.new w136 24 #[.int .i64 0, .string (⟨#[]⟩), .int .i64 0, .slice none 0 0]
  obtain ⟨w139, hw⟩ : ∃ x, x = w136.alloc (.cells #[.int .i64 0, .string (⟨#[]⟩), .int .i64 0, .slice none 0 0] 24) := ⟨_, rfl⟩; rw [← hw] at Y B138
  obtain ⟨b138, hb⟩ : ∃ x, x = w136.heap.size := ⟨_, rfl⟩; rw [← hb] at Y B138
  have Nb109_b138 := nb_ hb B109; replace B109 := ba_ hw B109; have Nb123_b138 := nb_ hb B123; replace B123 := ba_ hw B123; have Nb126_b138 := nb_ hb B126; replace B126 := ba_ hw B126; have LK1_b138 := lk_ hb K1; replace K1 := ka_ hw K1; have LKXb_b138 := lk_ hb KXb; replace KXb := ka_ hw KXb; have LKXf_b138 := lk_ hb KXf; replace KXf := ka_ hw KXf; have LKXw_b138 := lk_ hb KXw; replace KXw := ka_ hw KXw; clear hw hb
  refine sv_ gA8_9_2 Y fun a140 e => ?_; clear Y
  have h8 := pt_ F e; replace F := pu_ F e; replace h36 := so_ e h36; clear e
  obtain ⟨w141, Y, hk, hB⟩ := ys4_ (o := oA8_9_3) rfl h8 h36 B138
  replace K1 := kx_ hk K1 (Nat.not_lt.2 LK1_b138); replace KXb := kx_ hk KXb (Nat.not_lt.2 LKXb_b138); replace KXf := kx_ hk KXf (Nat.not_lt.2 LKXf_b138); replace KXw := kx_ hk KXw (Nat.not_lt.2 LKXw_b138); replace B109 := bx_ hk B109 Nb109_b138; replace B123 := bx_ hk B123 Nb123_b138; replace B126 := bx_ hk B126 Nb126_b138; clear B138; have B138 := hB; clear hB hk
  refine st_skip gA8_9_3 rfl (wanted_free rfl) Y ?_; clear Y
  refine st_end ?_
  replace h4 := F.of h4; clear h5; replace h6 := F.of h6; replace h7 := F.of h7; clear h26; clear h36; have R := F.r; clear F
  change (cA8_30).wp _ _ _ _
  refine wp_seq (x := cA8_31) (y := Code.ret) ?_
  change (Code.region 10 OA8_10 false).wp _ _ _ _
  refine reg_in (l := [0, 1, 2, 3, 4, 5, 6, 7, 8]) rfl ?_
  have F : FE_ _ [] a140 a140 := ⟨R, Ag_.refl _⟩; clear R
  refine sv_ gA8_10_0 (yl4_ rfl (F.of h6) B123) fun a142 e => ?_
  have h37 := pt_ F e; replace F := pu_ F e; clear e
  refine sv_ gA8_10_1 (yl4_ rfl (F.of h8) B138) fun a143 e => ?_
  have h38 := pt_ F e; replace F := pu_ F e; replace h37 := so_ e h37; clear e
  refine st_call gA8_10_2 rfl (wanted_free rfl) (yc2_ enA8_13 rfl h37 h38) ((like_ok (HXb.out.on KXb) (HXw.out.on KXw) (ball_like HR.out)).mono ?_)
  rintro e9 w144 ⟨rfl, kk⟩
  replace K1 := keep_onto K1 kk
  replace KXb := keep_onto KXb kk
  replace KXf := keep_onto KXf kk
  replace KXw := keep_onto KXw kk
  replace B109 := blk_on B109 kk
  replace B123 := blk_on B123 kk
  replace B126 := blk_on B126 kk
  replace B138 := blk_on B138 kk
  clear kk
  refine ⟨_, rfl, fun a145 e => ?_⟩
  clear h37 h38; have h39 := pt_ F e; replace F := pu_ F e; clear e
  refine sv_ gA8_10_3 (ym_ rfl h39) fun a146 e => ?_
  clear h39; have h40 := pt_ F e; replace F := pu_ F e; clear e
  refine st_val gA8_10_4 rfl (wanted_is (j := 3) (d := 40) rfl rfl h40 rfl) (yl4_ rfl (F.of h7) B126) fun a147 e => ?_
  have h41 := pt_ F e; replace F := pu_ F e; replace h40 := so_ e h40; clear e
  refine st_val gA8_10_5 rfl (wanted_is (j := 3) (d := 40) rfl rfl h40 rfl) (yl4_ rfl (F.of h8) B138) fun a148 e => ?_
  have h42 := pt_ F e; replace F := pu_ F e; replace h40 := so_ e h40; replace h41 := so_ e h41; clear e
  refine st_call gA8_10_6 rfl (wanted_is (j := 3) (d := 40) rfl rfl h40 rfl) (yc2_ enA8_13 rfl h41 h42) ((like_ok (HXf.out.on KXf) (HXw.out.on KXw) (ball_like HR.out)).mono ?_)
  rintro e9 w149 ⟨rfl, kk⟩
  replace K1 := keep_onto K1 kk
  replace KXb := keep_onto KXb kk
  replace KXf := keep_onto KXf kk
  replace KXw := keep_onto KXw kk
  replace B109 := blk_on B109 kk
  replace B123 := blk_on B123 kk
  replace B126 := blk_on B126 kk
  replace B138 := blk_on B138 kk
  clear kk
  refine ⟨_, rfl, fun a150 e => ?_⟩
  clear h41 h42; have h43 := pt_ F e; replace F := pu_ F e; replace h40 := so_ e h40; clear e
  have Y : (execOp a150.eval oA8_10_7).run Try.prog w149 = .ok (.value (.bool true)) w149 := by unfold oA8_10_7; go_simp
  refine sv_ gA8_10_7 Y fun a151 e => ?_; clear Y
  clear h40 h43; have h44 := pt_ F e; replace F := pu_ F e; clear e
  refine sv_ gA8_10_8 (ya_ rfl h44) fun a152 e => ?_
  clear h44 h4; have h4 := pt_ F e; replace F := pu_ F e; clear e
  refine st_end ?_
  clear h6; clear h7; clear h8; have R := F.r; clear F
  change (Code.ret).wp _ _ _ _
  refine wp_ret ?_
  change bodyPost Try.prog Try.f8 (fun e w' => e = .returned (.bool true) ∧ Keep (fun g => g < W.heap.size) W w') .ret a152 w149
  refine ret_one rfl R h4 ?_
  exact ⟨rfl, K1⟩
set_option maxRecDepth 100000 in
set_option maxHeartbeats 4000000 in
theorem balls_nf {W : World} {nm : List UInt8} {ts : List Tm} {sa : Option Addr} {sc : Nat} {f0 : Act} {w0 : World} (R : FrS 45 f0) (h0 : f0.tmps[0]? = some (.string (str nm))) (h1 : f0.tmps[1]? = some (.slice sa ts.length sc)) (K1 : Keep (fun g => g < W.heap.size) W w0)  (HL : Hid (¬ ts.length = 0)) (HT : Hid (TmAt W.heap.size W (Tm.node 4 nm 0 ts) sa sc)) (HTS : Hid (¬ ts = [] → TmAt W.heap.size W (.node 4 nm 0 ts) sa sc)) (HNM : Hid (nm.length ≤ maxLen)) (HFT : Hid (faultT nm ts = (Tm.node 4 nm 0 ts))) (HBV : Hid (ballV (Tm.node 4 nm 0 ts) = zeroT)) (HR : Hid (((Tm.node 4 nm 0 ts) : Tm).right = false)) : cA8_0.wp Try.prog (bodyPost Try.prog Try.f8 (fun e w' => e = .returned (.bool true) ∧ Keep (fun g => g < W.heap.size) W w')) f0 w0 := by
  refine wp_seq (x := cA8_1) (y := cA8_2) ?_
  change (Code.region 0 OA8_0 false).wp _ _ _ _
  refine reg_in (l := [0]) rfl ?_
  have F : FE_ _ [] f0 f0 := ⟨R, Ag_.refl _⟩; clear R
  have Y : (execOp f0.eval oA8_0_0).run Try.prog w0 = .ok (.value (.bool false)) w0 := by unfold oA8_0_0; go_simp
  refine sv_ gA8_0_0 Y fun a153 e => ?_; clear Y
  have h4 := pt_ F e; replace F := pu_ F e; clear e
  refine st_end ?_
  replace h0 := F.of h0; replace h1 := F.of h1; have R := F.r; clear F
  change (cA8_2).wp _ _ _ _
  refine wp_seq (x := cA8_3) (y := cA8_10) ?_
  refine wp_seq (x := cA8_4) (y := cA8_5) ?_
  change (Code.region 1 OA8_1 false).wp _ _ _ _
  refine reg_in (l := [0, 1]) rfl ?_
  have F : FE_ _ [] a153 a153 := ⟨R, Ag_.refl _⟩; clear R
  have Y : (execOp a153.eval oA8_1_0).run Try.prog w0 = .ok (.enter 9 #[]) w0 := by unfold oA8_1_0; go_simp
  refine st_call gA8_1_0 rfl (wanted_free rfl) Y ((alive_any _).mono ?_); clear Y
  rintro e9 w154 ⟨rfl, kk⟩
  replace K1 := keep_onto K1 kk
  clear kk
  refine ⟨_, rfl, fun a155 e => ?_⟩
  have h9 := pt_ F e; replace F := pu_ F e; clear e
  have Y : (execOp a155.eval oA8_1_1).run Try.prog w154 = .ok (.value (.bool false)) w154 := by unfold oA8_1_1; go_simp
  refine sv_ gA8_1_1 Y fun a156 e => ?_; clear Y
  clear h9; have h10 := pt_ F e; replace F := pu_ F e; clear e
  refine st_end ?_
  replace h0 := F.of h0; replace h1 := F.of h1; replace h4 := F.of h4; have R := F.r; clear F
  change (cA8_5).wp _ _ _ _
  refine wp_cond_false (x := cA8_6) (y := Code.skip) (eval_slot h10) ?_
  refine wp_skip ?_
  change (cA8_10).wp _ _ _ _
  refine wp_seq (x := cA8_11) (y := cA8_12) ?_
  change (Code.region 3 OA8_3 false).wp _ _ _ _
  refine reg_in (l := [0, 1, 2, 3, 4]) rfl ?_
  have F : FE_ _ [] a156 a156 := ⟨R, Ag_.refl _⟩; clear R
  refine sv_ gA8_3_0 (ym_ rfl (F.of h0)) fun a157 e => ?_
  have h11 := pt_ F e; replace F := pu_ F e; clear e
  refine sv_ gA8_3_1 (ym_ rfl (F.of h1)) fun a158 e => ?_
  have h12 := pt_ F e; replace F := pu_ F e; replace h11 := so_ e h11; clear e
  have Y : (execOp a158.eval oA8_3_2).run Try.prog w154 = .ok (.value (.agg #[.int .i64 4, .string (str nm), .int .i64 0, .slice sa ts.length sc])) w154 := by unfold oA8_3_2; go_simp
  refine sv_ gA8_3_2 Y fun a159 e => ?_; clear Y
  clear h11 h12; have h13 := pt_ F e; replace F := pu_ F e; clear e
  have Y : (execOp a159.eval oA8_3_3).run Try.prog w154 = .ok (.value (.pointer (some ⟨w154.heap.size, 0, none⟩))) (w154.alloc (.cells #[.int .i64 0, .string (⟨#[]⟩), .int .i64 0, .slice none 0 0] 24)) := by unfold oA8_3_3; go_simp
  have B160 := Blk.new w154 24 #[.int .i64 0, .string (⟨#[]⟩), .int .i64 0, .slice none 0 0]
  obtain ⟨w161, hw⟩ : ∃ x, x = w154.alloc (.cells #[.int .i64 0, .string (⟨#[]⟩), .int .i64 0, .slice none 0 0] 24) := ⟨_, rfl⟩; rw [← hw] at Y B160
  obtain ⟨b160, hb⟩ : ∃ x, x = w154.heap.size := ⟨_, rfl⟩; rw [← hb] at Y B160
  have LK1_b160 := lk_ hb K1; replace K1 := ka_ hw K1; clear hw hb
  refine sv_ gA8_3_3 Y fun a162 e => ?_; clear Y
  have h5 := pt_ F e; replace F := pu_ F e; replace h13 := so_ e h13; clear e
  obtain ⟨w163, Y, hk, hB⟩ := ys4_ (o := oA8_3_4) rfl h5 h13 B160
  replace K1 := kx_ hk K1 (Nat.not_lt.2 LK1_b160); clear B160; have B160 := hB; clear hB hk
  refine st_skip gA8_3_4 rfl (wanted_free rfl) Y ?_; clear Y
  refine st_end ?_
  replace h0 := F.of h0; replace h1 := F.of h1; replace h4 := F.of h4; clear h10; clear h13; have R := F.r; clear F
  change (cA8_12).wp _ _ _ _
  refine wp_seq (x := cA8_13) (y := cA8_18) ?_
  refine wp_seq (x := cA8_14) (y := cA8_15) ?_
  change (Code.region 4 OA8_4 false).wp _ _ _ _
  refine reg_in (l := [0, 1, 2]) rfl ?_
  have F : FE_ _ [] a162 a162 := ⟨R, Ag_.refl _⟩; clear R
  refine sv_ gA8_4_0 (ym_ rfl (F.of h1)) fun a164 e => ?_
  have h14 := pt_ F e; replace F := pu_ F e; clear e
  have Y : (execOp a164.eval oA8_4_1).run Try.prog w163 = .ok (.value (.int .i64 ts.length)) w163 := by unfold oA8_4_1; go_simp
  refine sv_ gA8_4_1 Y fun a165 e => ?_; clear Y
  clear h14; have h15 := pt_ F e; replace F := pu_ F e; clear e
  have Y : (execOp a165.eval oA8_4_2).run Try.prog w163 = .ok (.value (.bool false)) w163 := by have h8 := HL.out; unfold oA8_4_2; go_simp
  refine sv_ gA8_4_2 Y fun a166 e => ?_; clear Y
  clear h15; have h16 := pt_ F e; replace F := pu_ F e; clear e
  refine st_end ?_
  replace h0 := F.of h0; replace h1 := F.of h1; replace h4 := F.of h4; replace h5 := F.of h5; have R := F.r; clear F
  change (cA8_15).wp _ _ _ _
  refine wp_cond_false (x := cA8_16) (y := Code.skip) (eval_slot h16) ?_
  refine wp_skip ?_
  change (cA8_18).wp _ _ _ _
  refine wp_seq (x := cA8_19) (y := cA8_20) ?_
  change (Code.region 6 OA8_6 false).wp _ _ _ _
  refine reg_in (l := [0, 1, 2, 3, 4, 5, 6, 7, 8]) rfl ?_
  have F : FE_ _ [] a166 a166 := ⟨R, Ag_.refl _⟩; clear R
  refine sv_ gA8_6_0 (yl4_ rfl (F.of h5) B160) fun a167 e => ?_
  have h19 := pt_ F e; replace F := pu_ F e; clear e
  have hca : Calls Try.prog 21 #[tv (Tm.node 4 nm 0 ts) sa sc] w163 _ := Ball_any (W := w163) (HT.out.on K1); rw [HBV.out] at hca
  refine st_call gA8_6_1 rfl (wanted_free rfl) (yc1_ enA8_21 rfl h19) ((hca).mono ?_)
  rintro e9 w168 ⟨ab, cb, rfl, hx, kk⟩
  replace K1 := keep_onto K1 kk
  replace B160 := blk_on B160 kk
  clear kk
  have HXb := Lib.hid hx.at_; clear hx hca
  have KXb := Keep.refl (fun g => g < w168.heap.size) w168
  refine ⟨_, rfl, fun a169 e => ?_⟩
  clear h19; have h20 := pt_ F e; replace F := pu_ F e; clear e
  refine sv_ gA8_6_2 (ym_ rfl (F.of h0)) fun a170 e => ?_
  have h21 := pt_ F e; replace F := pu_ F e; replace h20 := so_ e h20; clear e
  refine sv_ gA8_6_3 (ym_ rfl (F.of h1)) fun a171 e => ?_
  have h22 := pt_ F e; replace F := pu_ F e; replace h20 := so_ e h20; replace h21 := so_ e h21; clear e
  have hca := Fault_any (W := w168) (nm := nm) (ts := ts) (sa := sa) (sc := sc) (fun h => (HTS.out h).on K1) HNM.out; rw [HFT.out, HBV.out] at hca
  refine st_call gA8_6_4 rfl (wanted_free rfl) (yc2_ enA8_22 rfl h21 h22) ((hca).mono ?_)
  rintro e9 w172 ⟨af, cf, rfl, hx, kk⟩
  replace K1 := keep_onto K1 kk
  replace KXb := keep_onto KXb kk
  replace B160 := blk_on B160 kk
  clear kk
  have HXf := Lib.hid hx.at_; clear hx hca
  have KXf := Keep.refl (fun g => g < w172.heap.size) w172
  refine ⟨_, rfl, fun a173 e => ?_⟩
  clear h21 h22; have h23 := pt_ F e; replace F := pu_ F e; replace h20 := so_ e h20; clear e
  have Y : (execOp a173.eval oA8_6_5).run Try.prog w172 = .ok (.value (.pointer (some ⟨w172.heap.size, 0, none⟩))) (w172.alloc (.cells #[.int .i64 0, .string (⟨#[]⟩), .int .i64 0, .slice none 0 0] 24)) := by unfold oA8_6_5; go_simp
  have B174 := Blk.new w172 24 #[.int .i64 0, .string (⟨#[]⟩), .int .i64 0, .slice none 0 0]
  obtain ⟨w175, hw⟩ : ∃ x, x = w172.alloc (.cells #[.int .i64 0, .string (⟨#[]⟩), .int .i64 0, .slice none 0 0] 24) := ⟨_, rfl⟩; rw [← hw] at Y B174
  obtain ⟨b174, hb⟩ : ∃ x, x = w172.heap.size := ⟨_, rfl⟩; rw [← hb] at Y B174
  have Nb160_b174 := nb_ hb B160; replace B160 := ba_ hw B160; have LK1_b174 := lk_ hb K1; replace K1 := ka_ hw K1; have LKXb_b174 := lk_ hb KXb; replace KXb := ka_ hw KXb; have LKXf_b174 := lk_ hb KXf; replace KXf := ka_ hw KXf; clear hw hb
  refine sv_ gA8_6_5 Y fun a176 e => ?_; clear Y
  have h6 := pt_ F e; replace F := pu_ F e; replace h20 := so_ e h20; replace h23 := so_ e h23; clear e
  have Y : (execOp a176.eval oA8_6_6).run Try.prog w175 = .ok (.value (.pointer (some ⟨w175.heap.size, 0, none⟩))) (w175.alloc (.cells #[.int .i64 0, .string (⟨#[]⟩), .int .i64 0, .slice none 0 0] 24)) := by unfold oA8_6_6; go_simp
  have B177 := Blk.new w175 24 #[.int .i64 0, .string (⟨#[]⟩), .int .i64 0, .slice none 0 0]
  obtain ⟨w178, hw⟩ : ∃ x, x = w175.alloc (.cells #[.int .i64 0, .string (⟨#[]⟩), .int .i64 0, .slice none 0 0] 24) := ⟨_, rfl⟩; rw [← hw] at Y B177
  obtain ⟨b177, hb⟩ : ∃ x, x = w175.heap.size := ⟨_, rfl⟩; rw [← hb] at Y B177
  have Nb160_b177 := nb_ hb B160; replace B160 := ba_ hw B160; have Nb174_b177 := nb_ hb B174; replace B174 := ba_ hw B174; have LK1_b177 := lk_ hb K1; replace K1 := ka_ hw K1; have LKXb_b177 := lk_ hb KXb; replace KXb := ka_ hw KXb; have LKXf_b177 := lk_ hb KXf; replace KXf := ka_ hw KXf; clear hw hb
  refine sv_ gA8_6_6 Y fun a179 e => ?_; clear Y
  have h7 := pt_ F e; replace F := pu_ F e; replace h6 := so_ e h6; replace h20 := so_ e h20; replace h23 := so_ e h23; clear e
  obtain ⟨w180, Y, hk, hB⟩ := ys4_ (o := oA8_6_7) rfl h6 h20 B174
  replace K1 := kx_ hk K1 (Nat.not_lt.2 LK1_b174); replace KXb := kx_ hk KXb (Nat.not_lt.2 LKXb_b174); replace KXf := kx_ hk KXf (Nat.not_lt.2 LKXf_b174); replace B160 := bx_ hk B160 Nb160_b174; replace B177 := bx_ hk B177 (Ne.symm Nb174_b177); clear B174; have B174 := hB; clear hB hk
  refine st_skip gA8_6_7 rfl (wanted_free rfl) Y ?_; clear Y
  obtain ⟨w181, Y, hk, hB⟩ := ys4_ (o := oA8_6_8) rfl h7 h23 B177
  replace K1 := kx_ hk K1 (Nat.not_lt.2 LK1_b177); replace KXb := kx_ hk KXb (Nat.not_lt.2 LKXb_b177); replace KXf := kx_ hk KXf (Nat.not_lt.2 LKXf_b177); replace B160 := bx_ hk B160 Nb160_b177; replace B174 := bx_ hk B174 Nb174_b177; clear B177; have B177 := hB; clear hB hk
  refine st_skip gA8_6_8 rfl (wanted_free rfl) Y ?_; clear Y
  refine st_end ?_
  clear h0; clear h1; replace h4 := F.of h4; replace h5 := F.of h5; clear h16; clear h20; clear h23; have R := F.r; clear F
  change (cA8_20).wp _ _ _ _
  refine wp_seq (x := cA8_21) (y := cA8_28) ?_
  refine wp_seq (x := cA8_22) (y := cA8_23) ?_
  change (Code.region 7 OA8_7 false).wp _ _ _ _
  refine reg_in (l := [0, 1, 2]) rfl ?_
  have F : FE_ _ [] a179 a179 := ⟨R, Ag_.refl _⟩; clear R
  refine sv_ gA8_7_0 (yl4_ rfl (F.of h5) B160) fun a182 e => ?_
  have h24 := pt_ F e; replace F := pu_ F e; clear e
  refine st_call gA8_7_1 rfl (wanted_free rfl) (yc1_ enA8_11 rfl h24) ((right_is (HT.out.on K1) HR.out).mono ?_)
  rintro e9 w183 ⟨rfl, kk⟩
  replace K1 := keep_onto K1 kk
  replace KXb := keep_onto KXb kk
  replace KXf := keep_onto KXf kk
  replace B160 := blk_on B160 kk
  replace B174 := blk_on B174 kk
  replace B177 := blk_on B177 kk
  clear kk
  refine ⟨_, rfl, fun a184 e => ?_⟩
  clear h24; have h25 := pt_ F e; replace F := pu_ F e; clear e
  have Y : (execOp a184.eval oA8_7_2).run Try.prog w183 = .ok (.value (.bool true)) w183 := by unfold oA8_7_2; go_simp
  refine sv_ gA8_7_2 Y fun a185 e => ?_; clear Y
  clear h25; have h26 := pt_ F e; replace F := pu_ F e; clear e
  refine st_end ?_
  replace h4 := F.of h4; replace h5 := F.of h5; replace h6 := F.of h6; replace h7 := F.of h7; have R := F.r; clear F
  change (cA8_23).wp _ _ _ _
  refine wp_cond_true (x := cA8_24) (y := Code.skip) (eval_slot h26) ?_
  refine wp_seq (x := cA8_25) (y := Code.ret) ?_
  change (Code.region 8 OA8_8 false).wp _ _ _ _
  refine reg_in (l := [0, 1, 2, 3, 4, 5, 6, 7, 8]) rfl ?_
  have F : FE_ _ [] a185 a185 := ⟨R, Ag_.refl _⟩; clear R
  refine sv_ gA8_8_0 (yf0_ rfl (F.of h6)) fun a186 e => ?_
  have h27 := pt_ F e; replace F := pu_ F e; clear e
  refine sv_ gA8_8_1 (yk0_ rfl h27 B174) fun a187 e => ?_
  clear h27; have h28 := pt_ F e; replace F := pu_ F e; clear e
  have Y : (execOp a187.eval oA8_8_2).run Try.prog w183 = .ok (.value (.bool true)) w183 := by have h8 : zeroT.k = 0 := rfl; unfold oA8_8_2; go_simp
  refine sv_ gA8_8_2 Y fun a188 e => ?_; clear Y
  clear h28; have h29 := pt_ F e; replace F := pu_ F e; clear e
  refine sv_ gA8_8_3 (ym_ rfl h29) fun a189 e => ?_
  clear h29; have h30 := pt_ F e; replace F := pu_ F e; clear e
  refine st_val gA8_8_4 rfl (wanted_is (j := 3) (d := 30) rfl rfl h30 rfl) (yf0_ rfl (F.of h7)) fun a190 e => ?_
  have h31 := pt_ F e; replace F := pu_ F e; replace h30 := so_ e h30; clear e
  refine st_val gA8_8_5 rfl (wanted_is (j := 3) (d := 30) rfl rfl h30 rfl) (yk0_ rfl h31 B177) fun a191 e => ?_
  clear h31; have h32 := pt_ F e; replace F := pu_ F e; replace h30 := so_ e h30; clear e
  have Y : (execOp a191.eval oA8_8_6).run Try.prog w183 = .ok (.value (.bool true)) w183 := by have h8 : zeroT.k = 0 := rfl; unfold oA8_8_6; go_simp
  refine st_val gA8_8_6 rfl (wanted_is (j := 3) (d := 30) rfl rfl h30 rfl) Y fun a192 e => ?_; clear Y
  clear h32; have h33 := pt_ F e; replace F := pu_ F e; replace h30 := so_ e h30; clear e
  have Y : (execOp a192.eval oA8_8_7).run Try.prog w183 = .ok (.value (.bool true)) w183 := by unfold oA8_8_7; go_simp
  refine sv_ gA8_8_7 Y fun a193 e => ?_; clear Y
  clear h30 h33; have h34 := pt_ F e; replace F := pu_ F e; clear e
  refine sv_ gA8_8_8 (ya_ rfl h34) fun a194 e => ?_
  clear h34 h4; have h4 := pt_ F e; replace F := pu_ F e; clear e
  refine st_end ?_
  replace h5 := F.of h5; replace h6 := F.of h6; replace h7 := F.of h7; clear h26; have R := F.r; clear F
  change (Code.ret).wp _ _ _ _
  refine wp_ret ?_
  change bodyPost Try.prog Try.f8 (fun e w' => e = .returned (.bool true) ∧ Keep (fun g => g < W.heap.size) W w') .ret a194 w183
  refine ret_one rfl R h4 ?_
  exact ⟨rfl, K1⟩
theorem balls_walk {W : World} {nm : List UInt8} {ps : List TP} {sa : Option Addr} {sc : Nat} (hS : TmSl W.heap.size W sa ps) (hn : nm.length ≤ maxLen) (hl : ps.length ≤ maxLen) : Calls Try.prog 8 #[.string (str nm), .slice sa ps.length sc] W fun e w' => e = .returned (.bool true) ∧ Keep (fun g => g < W.heap.size) W w' := by
  obtain ⟨ts, hts⟩ : ∃ ts, ts = ps.map (·.1) := ⟨_, rfl⟩
  have hle : ps.length = ts.length := by rw [hts, List.length_map]
  have hT : TmAt W.heap.size W (.node 4 nm 0 ts) sa sc := by rw [hts]; exact tm_row hS hn hl
  rw [hle]
  refine enter_sx Try.func8 bodyA8 rfl (by show (2 : Nat) ≤ 45; decide) fun f0 R hs => ?_
  by_cases h0 : ts = []
  · have hlen : ts.length = 0 := by rw [h0]; rfl
    have hft : faultT nm ts = .node 3 nm 0 [] := if_pos h0
    cases hr : (Tm.node 3 nm 0 []).right with
    | true => exact balls_zt R (hs 0 _ rfl) (hs 1 _ rfl) (Keep.refl _ W) (Lib.hid hlen) (Lib.hid (tm_leaf (by decide) (by decide) hn)) (Lib.hid fun _ => hT) (Lib.hid hn) (Lib.hid hft) (Lib.hid (ballV_is hr)) (Lib.hid hr)
    | false => exact balls_zf R (hs 0 _ rfl) (hs 1 _ rfl) (Keep.refl _ W) (Lib.hid hlen) (Lib.hid (tm_leaf (by decide) (by decide) hn)) (Lib.hid fun _ => hT) (Lib.hid hn) (Lib.hid hft) (Lib.hid (ballV_no hr)) (Lib.hid hr)
  · have hlen : ¬ ts.length = 0 := fun e => h0 (List.length_eq_zero_iff.1 e)
    have hft : faultT nm ts = .node 4 nm 0 ts := if_neg h0
    cases hr : (Tm.node 4 nm 0 ts).right with
    | true => exact balls_nt R (hs 0 _ rfl) (hs 1 _ rfl) (Keep.refl _ W) (Lib.hid hlen) (Lib.hid hT) (Lib.hid fun _ => hT) (Lib.hid hn) (Lib.hid hft) (Lib.hid (ballV_is hr)) (Lib.hid hr)
    | false => exact balls_nf R (hs 0 _ rfl) (hs 1 _ rfl) (Keep.refl _ W) (Lib.hid hlen) (Lib.hid hT) (Lib.hid fun _ => hT) (Lib.hid hn) (Lib.hid hft) (Lib.hid (ballV_no hr)) (Lib.hid hr)
end Go.Proofs.Ytmgephleogiaoaa
