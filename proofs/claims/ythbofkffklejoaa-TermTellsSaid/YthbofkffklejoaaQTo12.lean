/-
  The law of tellings: walked with letter frames. No condition but where the terms lie.
-/
import Derived.Test.YthbofkffklejoaaQTp10
namespace Go.Proofs.Ythbofkffklejoaa
open Go.RowKit Go.Maps
set_option linter.unusedVariables false
set_option linter.unusedSimpArgs false
theorem or2_vals {x y : Int} (hx : x = -1 ∨ x = 0 ∨ x = 1) (hy : y = -1 ∨ y = 0 ∨ y = 1) : or2 x y = -1 ∨ or2 x y = 0 ∨ or2 x y = 1 := by
  unfold or2; split <;> assumption
theorem cmpI_vals9 (x y : Int) : cmpI x y = -1 ∨ cmpI x y = 0 ∨ cmpI x y = 1 := by
  unfold cmpI; split
  · simp
  · split <;> simp
theorem cmp_small : ∀ t u : T, t.cmp u = -1 ∨ t.cmp u = 0 ∨ t.cmp u = 1 := by
  intro t
  induction t using T.ind with
  | hv x => intro u; cases u <;> rw [T.cmp] <;> first | exact cmpI_vals9 _ _ | simp
  | hn x => intro u; cases u <;> rw [T.cmp] <;> first | exact cmpI_vals9 _ _ | simp
  | ha x => intro u; cases u <;> rw [T.cmp] <;> first | exact cmpB_vals _ _ | simp
  | hc f as_ ih =>
    intro u
    cases u with
    | v x => simp [T.cmp]
    | n x => simp [T.cmp]
    | a x => simp [T.cmp]
    | c g bs =>
      rw [T.cmp]
      refine or2_vals (cmpI_vals9 _ _) (or2_vals (cmpB_vals _ _) ?_)
      induction as_ generalizing bs with
      | nil => cases bs <;> rw [cmpL] <;> simp
      | cons y ys ih2 =>
        cases bs with
        | nil => rw [cmpL]; simp
        | cons z zs => rw [cmpL]; exact or2_vals (ih y List.mem_cons_self z) (ih2 (fun x hx => ih x (List.mem_cons_of_mem _ hx)) zs)
def o3_0_0 : Oper := { dst := some 2, op := Op.box 24 (Operand.tmp 0), type := 0, pos := "law.go:40", after := #[], guard := none }
def o3_0_1 : Oper := { dst := some 3, op := Op.box 24 (Operand.tmp 1), type := 0, pos := "law.go:40", after := #[], guard := none }
def o3_0_2 : Oper := { dst := some 4, op := Op.assign (Operand.const (Value.bool false)), type := 4, pos := "law.go:40", after := #[], guard := none }
def O3_0 : Array Oper := List.toArray (o3_0_0 :: o3_0_1 :: o3_0_2 :: [])
theorem g3_0_0 : O3_0[0]? = some o3_0_0 := rfl
theorem g3_0_1 : O3_0[1]? = some o3_0_1 := rfl
theorem g3_0_2 : O3_0[2]? = some o3_0_2 := rfl
def c3_1 : Code := Code.region 0 O3_0 false
def o3_1_0 : Oper := { dst := some 11, op := Op.call { callee := Callee.value (Operand.func 13), args := #[], argTypes := #[] }, type := 4, pos := "law.go:41", after := #[], guard := none }
def o3_1_1 : Oper := { dst := some 12, op := Op.unOp Go.UnOp.not 4 (Operand.tmp 11), type := 4, pos := "law.go:41", after := #[ed_ 0], guard := none }
def O3_1 : Array Oper := List.toArray (o3_1_0 :: o3_1_1 :: [])
theorem g3_1_0 : O3_1[0]? = some o3_1_0 := rfl
theorem g3_1_1 : O3_1[1]? = some o3_1_1 := rfl
def c3_4 : Code := Code.region 1 O3_1 false
def o3_2_0 : Oper := { dst := some 4, op := Op.assign (Operand.const (Value.bool false)), type := 4, pos := "law.go:42", after := #[], guard := none }
def O3_2 : Array Oper := List.toArray (o3_2_0 :: [])
def c3_7 : Code := Code.region 2 O3_2 false
def c3_6 : Code := Code.seq c3_7 Code.ret
def c3_5 : Code := Code.cond (Operand.tmp 12) c3_6 Code.skip
def c3_3 : Code := Code.seq c3_4 c3_5
def o3_3_0 : Oper := { dst := some 13, op := Op.load 24 (Operand.tmp 2), type := 24, pos := "law.go:44", after := #[], guard := none }
def o3_3_1 : Oper := { dst := some 14, op := Op.call { callee := Callee.value (Operand.func 14), args := #[Operand.tmp 13], argTypes := #[24] }, type := 4, pos := "law.go:44", after := #[ed_ 0], guard := none }
def o3_3_2 : Oper := { dst := some 15, op := Op.load 24 (Operand.tmp 3), type := 24, pos := "law.go:44", after := #[], guard := none }
def o3_3_3 : Oper := { dst := some 16, op := Op.call { callee := Callee.value (Operand.func 14), args := #[Operand.tmp 15], argTypes := #[24] }, type := 4, pos := "law.go:44", after := #[ed_ 2, ec_ 1], guard := none }
def o3_3_4 : Oper := { dst := some 5, op := Op.assign (Operand.tmp 14), type := 4, pos := "law.go:44", after := #[ed_ 1, ec_ 3, ep_ 0, ep_ 1, { on := 2, ground := Go.Ground.textOnly Go.Departure.lateStores }, { on := 3, ground := Go.Ground.textOnly Go.Departure.lateStoresUnsure }], guard := none }
def o3_3_5 : Oper := { dst := some 6, op := Op.assign (Operand.tmp 16), type := 4, pos := "law.go:44", after := #[ed_ 3, ec_ 4, ep_ 0, ep_ 1, ep_ 2, ep_ 3, ep_ 4], guard := none }
def O3_3 : Array Oper := List.toArray (o3_3_0 :: o3_3_1 :: o3_3_2 :: o3_3_3 :: o3_3_4 :: o3_3_5 :: [])
theorem g3_3_0 : O3_3[0]? = some o3_3_0 := rfl
theorem g3_3_1 : O3_3[1]? = some o3_3_1 := rfl
theorem g3_3_2 : O3_3[2]? = some o3_3_2 := rfl
theorem g3_3_3 : O3_3[3]? = some o3_3_3 := rfl
theorem g3_3_4 : O3_3[4]? = some o3_3_4 := rfl
theorem g3_3_5 : O3_3[5]? = some o3_3_5 := rfl
theorem ns3_3 : Region.noSelect O3_3 = true := by kernel_rfl
def c3_11 : Code := Code.region 3 O3_3 true
def o3_4_0 : Oper := { dst := some 17, op := Op.load 24 (Operand.tmp 2), type := 24, pos := "law.go:45", after := #[], guard := none }
def o3_4_1 : Oper := { dst := some 18, op := Op.call { callee := Callee.value (Operand.func 15), args := #[Operand.tmp 17], argTypes := #[24] }, type := 27, pos := "law.go:45", after := #[ed_ 0], guard := none }
def o3_4_2 : Oper := { dst := some 19, op := Op.binOp Go.BinOp.eql 27 (Operand.tmp 18) (Operand.const (Value.int IntKind.i64 0)) 27, type := 4, pos := "law.go:45", after := #[ed_ 1], guard := none }
def o3_4_3 : Oper := { dst := some 20, op := Op.move (Operand.tmp 5), type := 4, pos := "law.go:45", after := #[], guard := none }
def o3_4_4 : Oper := { dst := some 21, op := Op.binOp Go.BinOp.neq 4 (Operand.tmp 19) (Operand.tmp 20) 4, type := 4, pos := "law.go:45", after := #[ed_ 2, ed_ 3], guard := none }
def o3_4_5 : Oper := { dst := some 22, op := Op.move (Operand.tmp 21), type := 4, pos := "law.go:45", after := #[ed_ 4, ec_ 1], guard := none }
def o3_4_6 : Oper := { dst := some 23, op := Op.move (Operand.tmp 5), type := 4, pos := "law.go:45", after := #[eg_ 5], guard := some (5, false) }
def o3_4_7 : Oper := { dst := some 24, op := Op.unOp Go.UnOp.not 4 (Operand.tmp 23), type := 4, pos := "law.go:45", after := #[ed_ 6, eg_ 5], guard := some (5, false) }
def o3_4_8 : Oper := { dst := some 25, op := Op.move (Operand.tmp 24), type := 4, pos := "law.go:45", after := #[ed_ 7, ec_ 5, eg_ 5], guard := some (5, false) }
def o3_4_9 : Oper := { dst := some 26, op := Op.load 24 (Operand.tmp 2), type := 24, pos := "law.go:45", after := #[eg_ 8], guard := some (8, true) }
def o3_4_10 : Oper := { dst := some 27, op := Op.call { callee := Callee.value (Operand.func 15), args := #[Operand.tmp 26], argTypes := #[24] }, type := 27, pos := "law.go:45", after := #[ed_ 9, ec_ 8, eg_ 8], guard := some (8, true) }
def o3_4_11 : Oper := { dst := some 28, op := Op.binOp Go.BinOp.neq 27 (Operand.tmp 27) (Operand.const (Value.int IntKind.i64 70)) 27, type := 4, pos := "law.go:45", after := #[ed_ 10, eg_ 8], guard := some (8, true) }
def o3_4_12 : Oper := { dst := some 29, op := Op.pick (Operand.tmp 25) (Operand.tmp 28) (Operand.const (Value.bool false)), type := 4, pos := "law.go:45", after := #[ed_ 8, ed_ 11, eg_ 5], guard := some (5, false) }
def o3_4_13 : Oper := { dst := some 30, op := Op.pick (Operand.tmp 22) (Operand.const (Value.bool true)) (Operand.tmp 29), type := 4, pos := "law.go:45", after := #[ed_ 5, ed_ 12], guard := none }
def O3_4 : Array Oper := List.toArray (o3_4_0 :: o3_4_1 :: o3_4_2 :: o3_4_3 :: o3_4_4 :: o3_4_5 :: o3_4_6 :: o3_4_7 :: o3_4_8 :: o3_4_9 :: o3_4_10 :: o3_4_11 :: o3_4_12 :: o3_4_13 :: [])
theorem g3_4_0 : O3_4[0]? = some o3_4_0 := rfl
theorem g3_4_1 : O3_4[1]? = some o3_4_1 := rfl
theorem g3_4_2 : O3_4[2]? = some o3_4_2 := rfl
theorem g3_4_3 : O3_4[3]? = some o3_4_3 := rfl
theorem g3_4_4 : O3_4[4]? = some o3_4_4 := rfl
theorem g3_4_5 : O3_4[5]? = some o3_4_5 := rfl
theorem g3_4_6 : O3_4[6]? = some o3_4_6 := rfl
theorem g3_4_7 : O3_4[7]? = some o3_4_7 := rfl
theorem g3_4_8 : O3_4[8]? = some o3_4_8 := rfl
theorem g3_4_9 : O3_4[9]? = some o3_4_9 := rfl
theorem g3_4_10 : O3_4[10]? = some o3_4_10 := rfl
theorem g3_4_11 : O3_4[11]? = some o3_4_11 := rfl
theorem g3_4_12 : O3_4[12]? = some o3_4_12 := rfl
theorem g3_4_13 : O3_4[13]? = some o3_4_13 := rfl
def c3_14 : Code := Code.region 4 O3_4 false
def o3_5_0 : Oper := { dst := some 4, op := Op.assign (Operand.const (Value.bool false)), type := 4, pos := "law.go:46", after := #[], guard := none }
def O3_5 : Array Oper := List.toArray (o3_5_0 :: [])
def c3_17 : Code := Code.region 5 O3_5 false
def c3_16 : Code := Code.seq c3_17 Code.ret
def c3_15 : Code := Code.cond (Operand.tmp 30) c3_16 Code.skip
def c3_13 : Code := Code.seq c3_14 c3_15
def o3_6_0 : Oper := { dst := some 31, op := Op.move (Operand.tmp 5), type := 4, pos := "law.go:48", after := #[], guard := none }
def o3_6_1 : Oper := { dst := some 32, op := Op.unOp Go.UnOp.not 4 (Operand.tmp 31), type := 4, pos := "law.go:48", after := #[ed_ 0], guard := none }
def O3_6 : Array Oper := List.toArray (o3_6_0 :: o3_6_1 :: [])
theorem g3_6_0 : O3_6[0]? = some o3_6_0 := rfl
theorem g3_6_1 : O3_6[1]? = some o3_6_1 := rfl
def c3_22 : Code := Code.region 6 O3_6 false
def o3_7_0 : Oper := { dst := some 33, op := Op.load 24 (Operand.tmp 2), type := 24, pos := "law.go:49", after := #[], guard := none }
def o3_7_1 : Oper := { dst := some 34, op := Op.call { callee := Callee.value (Operand.func 16), args := #[Operand.tmp 33], argTypes := #[24] }, type := 3, pos := "law.go:49", after := #[ed_ 0], guard := none }
def o3_7_2 : Oper := { dst := some 35, op := Op.binOp Go.BinOp.eql 3 (Operand.tmp 34) (Operand.const (Value.int IntKind.i64 0)) 3, type := 4, pos := "law.go:49", after := #[ed_ 1], guard := none }
def o3_7_3 : Oper := { dst := some 36, op := Op.move (Operand.tmp 35), type := 4, pos := "law.go:49", after := #[ed_ 2, ec_ 1], guard := none }
def o3_7_4 : Oper := { dst := some 37, op := Op.load 24 (Operand.tmp 2), type := 24, pos := "law.go:49", after := #[eg_ 3], guard := some (3, true) }
def o3_7_5 : Oper := { dst := some 38, op := Op.call { callee := Callee.value (Operand.func 17), args := #[Operand.tmp 37], argTypes := #[24] }, type := 3, pos := "law.go:49", after := #[ed_ 4, ec_ 3, eg_ 3], guard := some (3, true) }
def o3_7_6 : Oper := { dst := some 39, op := Op.binOp Go.BinOp.eql 3 (Operand.tmp 38) (Operand.const (Value.int IntKind.i64 0)) 3, type := 4, pos := "law.go:49", after := #[ed_ 5, eg_ 3], guard := some (3, true) }
def o3_7_7 : Oper := { dst := some 40, op := Op.pick (Operand.tmp 36) (Operand.tmp 39) (Operand.const (Value.bool false)), type := 4, pos := "law.go:49", after := #[ed_ 3, ed_ 6], guard := none }
def o3_7_8 : Oper := { dst := some 41, op := Op.move (Operand.tmp 40), type := 4, pos := "law.go:49", after := #[ed_ 7, ec_ 5], guard := none }
def o3_7_9 : Oper := { dst := some 42, op := Op.load 24 (Operand.tmp 2), type := 24, pos := "law.go:49", after := #[eg_ 8], guard := some (8, true) }
def o3_7_10 : Oper := { dst := some 43, op := Op.call { callee := Callee.value (Operand.func 18), args := #[Operand.tmp 42], argTypes := #[24] }, type := 30, pos := "law.go:49", after := #[ed_ 9, ec_ 8, eg_ 8], guard := some (8, true) }
def o3_7_11 : Oper := { dst := some 44, op := Op.call { callee := Callee.builtin Go.Builtin.len, args := #[Operand.tmp 43], argTypes := #[30] }, type := 3, pos := "law.go:49", after := #[ed_ 10, eg_ 8], guard := some (8, true) }
def o3_7_12 : Oper := { dst := some 45, op := Op.binOp Go.BinOp.eql 3 (Operand.tmp 44) (Operand.const (Value.int IntKind.i64 0)) 3, type := 4, pos := "law.go:49", after := #[ed_ 11, eg_ 8], guard := some (8, true) }
def o3_7_13 : Oper := { dst := some 46, op := Op.pick (Operand.tmp 41) (Operand.tmp 45) (Operand.const (Value.bool false)), type := 4, pos := "law.go:49", after := #[ed_ 8, ed_ 12], guard := none }
def o3_7_14 : Oper := { dst := some 47, op := Op.move (Operand.tmp 46), type := 4, pos := "law.go:49", after := #[ed_ 13, ec_ 10], guard := none }
def o3_7_15 : Oper := { dst := some 48, op := Op.load 24 (Operand.tmp 2), type := 24, pos := "law.go:49", after := #[eg_ 14], guard := some (14, true) }
def o3_7_16 : Oper := { dst := some 49, op := Op.load 24 (Operand.tmp 3), type := 24, pos := "law.go:49", after := #[eg_ 14], guard := some (14, true) }
def o3_7_17 : Oper := { dst := some 50, op := Op.call { callee := Callee.value (Operand.func 19), args := #[Operand.tmp 48, Operand.tmp 49], argTypes := #[24, 24] }, type := 4, pos := "law.go:49", after := #[ed_ 15, ed_ 16, ec_ 14, eg_ 14], guard := some (14, true) }
def o3_7_18 : Oper := { dst := some 51, op := Op.unOp Go.UnOp.not 4 (Operand.tmp 50), type := 4, pos := "law.go:49", after := #[ed_ 17, eg_ 14], guard := some (14, true) }
def o3_7_19 : Oper := { dst := some 52, op := Op.pick (Operand.tmp 47) (Operand.tmp 51) (Operand.const (Value.bool false)), type := 4, pos := "law.go:49", after := #[ed_ 14, ed_ 18], guard := none }
def o3_7_20 : Oper := { dst := some 53, op := Op.move (Operand.tmp 52), type := 4, pos := "law.go:49", after := #[ed_ 19, ec_ 17], guard := none }
def o3_7_21 : Oper := { dst := some 54, op := Op.load 24 (Operand.tmp 2), type := 24, pos := "law.go:49", after := #[eg_ 20], guard := some (20, true) }
def o3_7_22 : Oper := { dst := some 55, op := Op.load 24 (Operand.tmp 3), type := 24, pos := "law.go:49", after := #[eg_ 20], guard := some (20, true) }
def o3_7_23 : Oper := { dst := some 56, op := Op.call { callee := Callee.value (Operand.func 20), args := #[Operand.tmp 54, Operand.tmp 55], argTypes := #[24, 24] }, type := 3, pos := "law.go:49", after := #[ed_ 21, ed_ 22, ec_ 20, eg_ 20], guard := some (20, true) }
def o3_7_24 : Oper := { dst := some 57, op := Op.binOp Go.BinOp.eql 3 (Operand.tmp 56) (Operand.const (Value.int IntKind.i64 0)) 3, type := 4, pos := "law.go:49", after := #[ed_ 23, eg_ 20], guard := some (20, true) }
def o3_7_25 : Oper := { dst := some 58, op := Op.pick (Operand.tmp 53) (Operand.tmp 57) (Operand.const (Value.bool false)), type := 4, pos := "law.go:49", after := #[ed_ 20, ed_ 24], guard := none }
def o3_7_26 : Oper := { dst := some 59, op := Op.move (Operand.tmp 58), type := 4, pos := "law.go:49", after := #[ed_ 25, ec_ 23], guard := none }
def o3_7_27 : Oper := { dst := some 60, op := Op.load 24 (Operand.tmp 2), type := 24, pos := "law.go:49", after := #[eg_ 26], guard := some (26, true) }
def o3_7_28 : Oper := { dst := some 61, op := Op.load 24 (Operand.tmp 3), type := 24, pos := "law.go:49", after := #[eg_ 26], guard := some (26, true) }
def o3_7_29 : Oper := { dst := some 62, op := Op.call { callee := Callee.value (Operand.func 21), args := #[Operand.tmp 60, Operand.tmp 61], argTypes := #[24, 24] }, type := 4, pos := "law.go:49", after := #[ed_ 27, ed_ 28, ec_ 26, eg_ 26], guard := some (26, true) }
def o3_7_30 : Oper := { dst := some 63, op := Op.unOp Go.UnOp.not 4 (Operand.tmp 62), type := 4, pos := "law.go:49", after := #[ed_ 29, eg_ 26], guard := some (26, true) }
def o3_7_31 : Oper := { dst := some 64, op := Op.pick (Operand.tmp 59) (Operand.tmp 63) (Operand.const (Value.bool false)), type := 4, pos := "law.go:49", after := #[ed_ 26, ed_ 30], guard := none }
def o3_7_32 : Oper := { dst := some 4, op := Op.assign (Operand.tmp 64), type := 4, pos := "law.go:49", after := #[ed_ 31, ec_ 29, ep_ 0, ep_ 1, ep_ 2, ep_ 3, ep_ 4, ep_ 5, ep_ 6, ep_ 7, ep_ 8, ep_ 9, ep_ 10, ep_ 11, ep_ 12, ep_ 13, ep_ 14, ep_ 15, ep_ 16, ep_ 17, ep_ 18, ep_ 19, ep_ 20, ep_ 21, ep_ 22, ep_ 23, ep_ 24, ep_ 25, ep_ 26, ep_ 27, ep_ 28, ep_ 29, ep_ 30, ep_ 31], guard := none }
def O3_7 : Array Oper := List.toArray (o3_7_0 :: o3_7_1 :: o3_7_2 :: o3_7_3 :: o3_7_4 :: o3_7_5 :: o3_7_6 :: o3_7_7 :: o3_7_8 :: o3_7_9 :: o3_7_10 :: o3_7_11 :: o3_7_12 :: o3_7_13 :: o3_7_14 :: o3_7_15 :: o3_7_16 :: o3_7_17 :: o3_7_18 :: o3_7_19 :: o3_7_20 :: o3_7_21 :: o3_7_22 :: o3_7_23 :: o3_7_24 :: o3_7_25 :: o3_7_26 :: o3_7_27 :: o3_7_28 :: o3_7_29 :: o3_7_30 :: o3_7_31 :: o3_7_32 :: [])
theorem g3_7_0 : O3_7[0]? = some o3_7_0 := rfl
theorem g3_7_1 : O3_7[1]? = some o3_7_1 := rfl
theorem g3_7_2 : O3_7[2]? = some o3_7_2 := rfl
theorem g3_7_3 : O3_7[3]? = some o3_7_3 := rfl
theorem g3_7_4 : O3_7[4]? = some o3_7_4 := rfl
theorem g3_7_5 : O3_7[5]? = some o3_7_5 := rfl
theorem g3_7_6 : O3_7[6]? = some o3_7_6 := rfl
theorem g3_7_7 : O3_7[7]? = some o3_7_7 := rfl
theorem g3_7_8 : O3_7[8]? = some o3_7_8 := rfl
theorem g3_7_9 : O3_7[9]? = some o3_7_9 := rfl
theorem g3_7_10 : O3_7[10]? = some o3_7_10 := rfl
theorem g3_7_11 : O3_7[11]? = some o3_7_11 := rfl
theorem g3_7_12 : O3_7[12]? = some o3_7_12 := rfl
theorem g3_7_13 : O3_7[13]? = some o3_7_13 := rfl
theorem g3_7_14 : O3_7[14]? = some o3_7_14 := rfl
theorem g3_7_15 : O3_7[15]? = some o3_7_15 := rfl
theorem g3_7_16 : O3_7[16]? = some o3_7_16 := rfl
theorem g3_7_17 : O3_7[17]? = some o3_7_17 := rfl
theorem g3_7_18 : O3_7[18]? = some o3_7_18 := rfl
theorem g3_7_19 : O3_7[19]? = some o3_7_19 := rfl
theorem g3_7_20 : O3_7[20]? = some o3_7_20 := rfl
theorem g3_7_21 : O3_7[21]? = some o3_7_21 := rfl
theorem g3_7_22 : O3_7[22]? = some o3_7_22 := rfl
theorem g3_7_23 : O3_7[23]? = some o3_7_23 := rfl
theorem g3_7_24 : O3_7[24]? = some o3_7_24 := rfl
theorem g3_7_25 : O3_7[25]? = some o3_7_25 := rfl
theorem g3_7_26 : O3_7[26]? = some o3_7_26 := rfl
theorem g3_7_27 : O3_7[27]? = some o3_7_27 := rfl
theorem g3_7_28 : O3_7[28]? = some o3_7_28 := rfl
theorem g3_7_29 : O3_7[29]? = some o3_7_29 := rfl
theorem g3_7_30 : O3_7[30]? = some o3_7_30 := rfl
theorem g3_7_31 : O3_7[31]? = some o3_7_31 := rfl
theorem g3_7_32 : O3_7[32]? = some o3_7_32 := rfl
def c3_25 : Code := Code.region 7 O3_7 false
def c3_24 : Code := Code.seq c3_25 Code.ret
def c3_23 : Code := Code.cond (Operand.tmp 32) c3_24 Code.skip
def c3_21 : Code := Code.seq c3_22 c3_23
def o3_8_0 : Oper := { dst := some 65, op := Op.load 24 (Operand.tmp 2), type := 24, pos := "law.go:51", after := #[], guard := none }
def o3_8_1 : Oper := { dst := some 66, op := Op.call { callee := Callee.value (Operand.func 18), args := #[Operand.tmp 65], argTypes := #[24] }, type := 30, pos := "law.go:51", after := #[ed_ 0], guard := none }
def o3_8_2 : Oper := { dst := some 67, op := Op.load 24 (Operand.tmp 2), type := 24, pos := "law.go:51", after := #[], guard := none }
def o3_8_3 : Oper := { dst := some 68, op := Op.call { callee := Callee.value (Operand.func 18), args := #[Operand.tmp 67], argTypes := #[24] }, type := 30, pos := "law.go:51", after := #[ed_ 2, ec_ 1], guard := none }
def o3_8_4 : Oper := { dst := some 7, op := Op.assign (Operand.tmp 66), type := 30, pos := "law.go:51", after := #[ed_ 1, ec_ 3, ep_ 0, ep_ 1, { on := 2, ground := Go.Ground.textOnly Go.Departure.lateStores }, { on := 3, ground := Go.Ground.textOnly Go.Departure.lateStoresUnsure }], guard := none }
def o3_8_5 : Oper := { dst := some 8, op := Op.assign (Operand.tmp 68), type := 30, pos := "law.go:51", after := #[ed_ 3, ec_ 4, ep_ 0, ep_ 1, ep_ 2, ep_ 3, ep_ 4], guard := none }
def O3_8 : Array Oper := List.toArray (o3_8_0 :: o3_8_1 :: o3_8_2 :: o3_8_3 :: o3_8_4 :: o3_8_5 :: [])
theorem g3_8_0 : O3_8[0]? = some o3_8_0 := rfl
theorem g3_8_1 : O3_8[1]? = some o3_8_1 := rfl
theorem g3_8_2 : O3_8[2]? = some o3_8_2 := rfl
theorem g3_8_3 : O3_8[3]? = some o3_8_3 := rfl
theorem g3_8_4 : O3_8[4]? = some o3_8_4 := rfl
theorem g3_8_5 : O3_8[5]? = some o3_8_5 := rfl
theorem ns3_8 : Region.noSelect O3_8 = true := by kernel_rfl
def c3_29 : Code := Code.region 8 O3_8 true
def o3_9_0 : Oper := { dst := some 69, op := Op.load 24 (Operand.tmp 2), type := 24, pos := "law.go:52", after := #[], guard := none }
def o3_9_1 : Oper := { dst := some 70, op := Op.call { callee := Callee.value (Operand.func 16), args := #[Operand.tmp 69], argTypes := #[24] }, type := 3, pos := "law.go:52", after := #[ed_ 0], guard := none }
def o3_9_2 : Oper := { dst := some 71, op := Op.load 24 (Operand.tmp 2), type := 24, pos := "law.go:52", after := #[], guard := none }
def o3_9_3 : Oper := { dst := some 72, op := Op.call { callee := Callee.value (Operand.func 22), args := #[Operand.tmp 71, Operand.const (Value.int IntKind.i64 3000)], argTypes := #[24, 3] }, type := 3, pos := "law.go:52", after := #[ed_ 2, ec_ 1], guard := none }
def o3_9_4 : Oper := { dst := some 73, op := Op.binOp Go.BinOp.neq 3 (Operand.tmp 70) (Operand.tmp 72) 3, type := 4, pos := "law.go:52", after := #[ed_ 1, ed_ 3], guard := none }
def o3_9_5 : Oper := { dst := some 74, op := Op.move (Operand.tmp 73), type := 4, pos := "law.go:52", after := #[ed_ 4, ec_ 3], guard := none }
def o3_9_6 : Oper := { dst := some 75, op := Op.load 24 (Operand.tmp 2), type := 24, pos := "law.go:52", after := #[eg_ 5], guard := some (5, false) }
def o3_9_7 : Oper := { dst := some 76, op := Op.call { callee := Callee.value (Operand.func 17), args := #[Operand.tmp 75], argTypes := #[24] }, type := 3, pos := "law.go:52", after := #[ed_ 6, ec_ 5, eg_ 5], guard := some (5, false) }
def o3_9_8 : Oper := { dst := some 77, op := Op.load 24 (Operand.tmp 2), type := 24, pos := "law.go:52", after := #[eg_ 5], guard := some (5, false) }
def o3_9_9 : Oper := { dst := some 78, op := Op.call { callee := Callee.value (Operand.func 23), args := #[Operand.tmp 77, Operand.const (Value.int IntKind.i64 200)], argTypes := #[24, 3] }, type := 3, pos := "law.go:52", after := #[ed_ 8, ec_ 7, eg_ 5], guard := some (5, false) }
def o3_9_10 : Oper := { dst := some 79, op := Op.binOp Go.BinOp.neq 3 (Operand.tmp 76) (Operand.tmp 78) 3, type := 4, pos := "law.go:52", after := #[ed_ 7, ed_ 9, eg_ 5], guard := some (5, false) }
def o3_9_11 : Oper := { dst := some 80, op := Op.pick (Operand.tmp 74) (Operand.const (Value.bool true)) (Operand.tmp 79), type := 4, pos := "law.go:52", after := #[ed_ 5, ed_ 10], guard := none }
def o3_9_12 : Oper := { dst := some 81, op := Op.move (Operand.tmp 80), type := 4, pos := "law.go:52", after := #[ed_ 11, ec_ 9], guard := none }
def o3_9_13 : Oper := { dst := some 82, op := Op.move (Operand.tmp 7), type := 30, pos := "law.go:52", after := #[eg_ 12], guard := some (12, false) }
def o3_9_14 : Oper := { dst := some 83, op := Op.load 24 (Operand.tmp 2), type := 24, pos := "law.go:52", after := #[eg_ 12], guard := some (12, false) }
def o3_9_15 : Oper := { dst := some 84, op := Op.call { callee := Callee.value (Operand.func 25), args := #[Operand.tmp 83], argTypes := #[24] }, type := 30, pos := "law.go:52", after := #[ed_ 14, ec_ 12, eg_ 12], guard := some (12, false) }
def o3_9_16 : Oper := { dst := some 85, op := Op.call { callee := Callee.value (Operand.func 24), args := #[Operand.tmp 82, Operand.tmp 84], argTypes := #[30, 30] }, type := 4, pos := "law.go:52", after := #[ed_ 13, ed_ 15, ec_ 15, eg_ 12], guard := some (12, false) }
def o3_9_17 : Oper := { dst := some 86, op := Op.unOp Go.UnOp.not 4 (Operand.tmp 85), type := 4, pos := "law.go:52", after := #[ed_ 16, eg_ 12], guard := some (12, false) }
def o3_9_18 : Oper := { dst := some 87, op := Op.pick (Operand.tmp 81) (Operand.const (Value.bool true)) (Operand.tmp 86), type := 4, pos := "law.go:52", after := #[ed_ 12, ed_ 17], guard := none }
def O3_9 : Array Oper := List.toArray (o3_9_0 :: o3_9_1 :: o3_9_2 :: o3_9_3 :: o3_9_4 :: o3_9_5 :: o3_9_6 :: o3_9_7 :: o3_9_8 :: o3_9_9 :: o3_9_10 :: o3_9_11 :: o3_9_12 :: o3_9_13 :: o3_9_14 :: o3_9_15 :: o3_9_16 :: o3_9_17 :: o3_9_18 :: [])
theorem g3_9_0 : O3_9[0]? = some o3_9_0 := rfl
theorem g3_9_1 : O3_9[1]? = some o3_9_1 := rfl
theorem g3_9_2 : O3_9[2]? = some o3_9_2 := rfl
theorem g3_9_3 : O3_9[3]? = some o3_9_3 := rfl
theorem g3_9_4 : O3_9[4]? = some o3_9_4 := rfl
theorem g3_9_5 : O3_9[5]? = some o3_9_5 := rfl
theorem g3_9_6 : O3_9[6]? = some o3_9_6 := rfl
theorem g3_9_7 : O3_9[7]? = some o3_9_7 := rfl
theorem g3_9_8 : O3_9[8]? = some o3_9_8 := rfl
theorem g3_9_9 : O3_9[9]? = some o3_9_9 := rfl
theorem g3_9_10 : O3_9[10]? = some o3_9_10 := rfl
theorem g3_9_11 : O3_9[11]? = some o3_9_11 := rfl
theorem g3_9_12 : O3_9[12]? = some o3_9_12 := rfl
theorem g3_9_13 : O3_9[13]? = some o3_9_13 := rfl
theorem g3_9_14 : O3_9[14]? = some o3_9_14 := rfl
theorem g3_9_15 : O3_9[15]? = some o3_9_15 := rfl
theorem g3_9_16 : O3_9[16]? = some o3_9_16 := rfl
theorem g3_9_17 : O3_9[17]? = some o3_9_17 := rfl
theorem g3_9_18 : O3_9[18]? = some o3_9_18 := rfl
theorem ns3_9 : Region.noSelect O3_9 = true := by kernel_rfl
def c3_32 : Code := Code.region 9 O3_9 true
def o3_10_0 : Oper := { dst := some 4, op := Op.assign (Operand.const (Value.bool false)), type := 4, pos := "law.go:53", after := #[], guard := none }
def O3_10 : Array Oper := List.toArray (o3_10_0 :: [])
def c3_35 : Code := Code.region 10 O3_10 false
def c3_34 : Code := Code.seq c3_35 Code.ret
def c3_33 : Code := Code.cond (Operand.tmp 87) c3_34 Code.skip
def c3_31 : Code := Code.seq c3_32 c3_33
def o3_11_0 : Oper := { dst := some 88, op := Op.move (Operand.tmp 7), type := 30, pos := "law.go:55", after := #[], guard := none }
def o3_11_1 : Oper := { dst := some 89, op := Op.call { callee := Callee.builtin Go.Builtin.len, args := #[Operand.tmp 88], argTypes := #[30] }, type := 3, pos := "law.go:55", after := #[ed_ 0], guard := none }
def o3_11_2 : Oper := { dst := some 90, op := Op.move (Operand.const (Value.int IntKind.i64 0)), type := 3, pos := "law.go:55", after := #[], guard := none }
def O3_11 : Array Oper := List.toArray (o3_11_0 :: o3_11_1 :: o3_11_2 :: [])
theorem g3_11_0 : O3_11[0]? = some o3_11_0 := rfl
theorem g3_11_1 : O3_11[1]? = some o3_11_1 := rfl
theorem g3_11_2 : O3_11[2]? = some o3_11_2 := rfl
def c3_40 : Code := Code.region 11 O3_11 false
def o3_12_0 : Oper := { dst := some 91, op := Op.binOp Go.BinOp.lss 3 (Operand.tmp 90) (Operand.tmp 89) 3, type := 0, pos := "law.go:55", after := #[], guard := none }
def O3_12 : Array Oper := List.toArray (o3_12_0 :: [])
theorem g3_12_0 : O3_12[0]? = some o3_12_0 := rfl
def c3_44 : Code := Code.region 12 O3_12 false
def c3_48 : Code := Code.exit 0
def c3_46 : Code := Code.cond (Operand.tmp 91) Code.skip c3_48
def o3_13_0 : Oper := { dst := some 92, op := Op.move (Operand.tmp 90), type := 3, pos := "law.go:55", after := #[], guard := none }
def o3_13_1 : Oper := { dst := some 9, op := Op.assign (Operand.tmp 92), type := 3, pos := "law.go:55", after := #[ed_ 0, ep_ 0], guard := none }
def O3_13 : Array Oper := List.toArray (o3_13_0 :: o3_13_1 :: [])
theorem g3_13_0 : O3_13[0]? = some o3_13_0 := rfl
theorem g3_13_1 : O3_13[1]? = some o3_13_1 := rfl
def c3_52 : Code := Code.region 13 O3_13 false
def o3_14_0 : Oper := { dst := some 93, op := Op.move (Operand.tmp 7), type := 30, pos := "law.go:56", after := #[], guard := none }
def o3_14_1 : Oper := { dst := some 94, op := Op.move (Operand.tmp 9), type := 3, pos := "law.go:56", after := #[], guard := none }
def o3_14_2 : Oper := { dst := some 95, op := Op.indexAddr 30 (Operand.tmp 93) (Operand.tmp 94), type := 0, pos := "law.go:56", after := #[ed_ 0, ed_ 1, ep_ 0, ep_ 1], guard := none }
def o3_14_3 : Oper := { dst := none, op := Op.store 2 (Operand.tmp 95) (Operand.const (Value.int IntKind.i64 (-1))), type := 0, pos := "law.go:56", after := #[ed_ 2, ep_ 0, ep_ 1], guard := none }
def O3_14 : Array Oper := List.toArray (o3_14_0 :: o3_14_1 :: o3_14_2 :: o3_14_3 :: [])
theorem g3_14_0 : O3_14[0]? = some o3_14_0 := rfl
theorem g3_14_1 : O3_14[1]? = some o3_14_1 := rfl
theorem g3_14_2 : O3_14[2]? = some o3_14_2 := rfl
theorem g3_14_3 : O3_14[3]? = some o3_14_3 := rfl
def c3_53 : Code := Code.region 14 O3_14 false
def c3_51 : Code := Code.seq c3_52 c3_53
def c3_50 : Code := Code.block 1 c3_51
def o3_15_0 : Oper := { dst := some 96, op := Op.binOp Go.BinOp.add 3 (Operand.tmp 90) (Operand.const (Value.int IntKind.i64 1)) 3, type := 3, pos := "law.go:55", after := #[], guard := none }
def o3_15_1 : Oper := { dst := some 90, op := Op.move (Operand.tmp 96), type := 3, pos := "law.go:55", after := #[ed_ 0], guard := none }
def O3_15 : Array Oper := List.toArray (o3_15_0 :: o3_15_1 :: [])
theorem g3_15_0 : O3_15[0]? = some o3_15_0 := rfl
theorem g3_15_1 : O3_15[1]? = some o3_15_1 := rfl
def c3_54 : Code := Code.region 15 O3_15 false
def c3_49 : Code := Code.seq c3_50 c3_54
def c3_45 : Code := Code.seq c3_46 c3_49
def c3_43 : Code := Code.seq c3_44 c3_45
def c3_42 : Code := Code.loop c3_43
def c3_41 : Code := Code.block 0 c3_42
def c3_39 : Code := Code.seq c3_40 c3_41
def o3_16_0 : Oper := { dst := some 97, op := Op.move (Operand.tmp 8), type := 30, pos := "law.go:58", after := #[], guard := none }
def o3_16_1 : Oper := { dst := some 98, op := Op.load 24 (Operand.tmp 2), type := 24, pos := "law.go:58", after := #[], guard := none }
def o3_16_2 : Oper := { dst := some 99, op := Op.call { callee := Callee.value (Operand.func 25), args := #[Operand.tmp 98], argTypes := #[24] }, type := 30, pos := "law.go:58", after := #[ed_ 1], guard := none }
def o3_16_3 : Oper := { dst := some 100, op := Op.call { callee := Callee.value (Operand.func 24), args := #[Operand.tmp 97, Operand.tmp 99], argTypes := #[30, 30] }, type := 4, pos := "law.go:58", after := #[ed_ 0, ed_ 2, ec_ 2], guard := none }
def o3_16_4 : Oper := { dst := some 101, op := Op.unOp Go.UnOp.not 4 (Operand.tmp 100), type := 4, pos := "law.go:58", after := #[ed_ 3], guard := none }
def O3_16 : Array Oper := List.toArray (o3_16_0 :: o3_16_1 :: o3_16_2 :: o3_16_3 :: o3_16_4 :: [])
theorem g3_16_0 : O3_16[0]? = some o3_16_0 := rfl
theorem g3_16_1 : O3_16[1]? = some o3_16_1 := rfl
theorem g3_16_2 : O3_16[2]? = some o3_16_2 := rfl
theorem g3_16_3 : O3_16[3]? = some o3_16_3 := rfl
theorem g3_16_4 : O3_16[4]? = some o3_16_4 := rfl
def c3_57 : Code := Code.region 16 O3_16 false
def o3_17_0 : Oper := { dst := some 4, op := Op.assign (Operand.const (Value.bool false)), type := 4, pos := "law.go:59", after := #[], guard := none }
def O3_17 : Array Oper := List.toArray (o3_17_0 :: [])
def c3_60 : Code := Code.region 17 O3_17 false
def c3_59 : Code := Code.seq c3_60 Code.ret
def c3_58 : Code := Code.cond (Operand.tmp 101) c3_59 Code.skip
def c3_56 : Code := Code.seq c3_57 c3_58
def o3_18_0 : Oper := { dst := some 102, op := Op.move (Operand.tmp 6), type := 4, pos := "law.go:61", after := #[], guard := none }
def o3_18_1 : Oper := { dst := some 103, op := Op.unOp Go.UnOp.not 4 (Operand.tmp 102), type := 4, pos := "law.go:61", after := #[ed_ 0], guard := none }
def O3_18 : Array Oper := List.toArray (o3_18_0 :: o3_18_1 :: [])
theorem g3_18_0 : O3_18[0]? = some o3_18_0 := rfl
theorem g3_18_1 : O3_18[1]? = some o3_18_1 := rfl
def c3_65 : Code := Code.region 18 O3_18 false
def o3_19_0 : Oper := { dst := some 104, op := Op.load 24 (Operand.tmp 2), type := 24, pos := "law.go:62", after := #[], guard := none }
def o3_19_1 : Oper := { dst := some 105, op := Op.load 24 (Operand.tmp 3), type := 24, pos := "law.go:62", after := #[], guard := none }
def o3_19_2 : Oper := { dst := some 106, op := Op.call { callee := Callee.value (Operand.func 19), args := #[Operand.tmp 104, Operand.tmp 105], argTypes := #[24, 24] }, type := 4, pos := "law.go:62", after := #[ed_ 0, ed_ 1], guard := none }
def o3_19_3 : Oper := { dst := some 107, op := Op.unOp Go.UnOp.not 4 (Operand.tmp 106), type := 4, pos := "law.go:62", after := #[ed_ 2], guard := none }
def o3_19_4 : Oper := { dst := some 108, op := Op.move (Operand.tmp 107), type := 4, pos := "law.go:62", after := #[ed_ 3, ec_ 2], guard := none }
def o3_19_5 : Oper := { dst := some 109, op := Op.load 24 (Operand.tmp 3), type := 24, pos := "law.go:62", after := #[eg_ 4], guard := some (4, true) }
def o3_19_6 : Oper := { dst := some 110, op := Op.load 24 (Operand.tmp 2), type := 24, pos := "law.go:62", after := #[eg_ 4], guard := some (4, true) }
def o3_19_7 : Oper := { dst := some 111, op := Op.call { callee := Callee.value (Operand.func 19), args := #[Operand.tmp 109, Operand.tmp 110], argTypes := #[24, 24] }, type := 4, pos := "law.go:62", after := #[ed_ 5, ed_ 6, ec_ 4, eg_ 4], guard := some (4, true) }
def o3_19_8 : Oper := { dst := some 112, op := Op.unOp Go.UnOp.not 4 (Operand.tmp 111), type := 4, pos := "law.go:62", after := #[ed_ 7, eg_ 4], guard := some (4, true) }
def o3_19_9 : Oper := { dst := some 113, op := Op.pick (Operand.tmp 108) (Operand.tmp 112) (Operand.const (Value.bool false)), type := 4, pos := "law.go:62", after := #[ed_ 4, ed_ 8], guard := none }
def o3_19_10 : Oper := { dst := some 114, op := Op.move (Operand.tmp 113), type := 4, pos := "law.go:62", after := #[ed_ 9, ec_ 7], guard := none }
def o3_19_11 : Oper := { dst := some 115, op := Op.load 24 (Operand.tmp 3), type := 24, pos := "law.go:62", after := #[eg_ 10], guard := some (10, true) }
def o3_19_12 : Oper := { dst := some 116, op := Op.load 24 (Operand.tmp 2), type := 24, pos := "law.go:62", after := #[eg_ 10], guard := some (10, true) }
def o3_19_13 : Oper := { dst := some 117, op := Op.call { callee := Callee.value (Operand.func 20), args := #[Operand.tmp 115, Operand.tmp 116], argTypes := #[24, 24] }, type := 3, pos := "law.go:62", after := #[ed_ 11, ed_ 12, ec_ 10, eg_ 10], guard := some (10, true) }
def o3_19_14 : Oper := { dst := some 118, op := Op.binOp Go.BinOp.eql 3 (Operand.tmp 117) (Operand.const (Value.int IntKind.i64 0)) 3, type := 4, pos := "law.go:62", after := #[ed_ 13, eg_ 10], guard := some (10, true) }
def o3_19_15 : Oper := { dst := some 119, op := Op.pick (Operand.tmp 114) (Operand.tmp 118) (Operand.const (Value.bool false)), type := 4, pos := "law.go:62", after := #[ed_ 10, ed_ 14], guard := none }
def o3_19_16 : Oper := { dst := some 120, op := Op.move (Operand.tmp 119), type := 4, pos := "law.go:62", after := #[ed_ 15, ec_ 13], guard := none }
def o3_19_17 : Oper := { dst := some 121, op := Op.load 24 (Operand.tmp 2), type := 24, pos := "law.go:62", after := #[eg_ 16], guard := some (16, true) }
def o3_19_18 : Oper := { dst := some 122, op := Op.load 24 (Operand.tmp 3), type := 24, pos := "law.go:62", after := #[eg_ 16], guard := some (16, true) }
def o3_19_19 : Oper := { dst := some 123, op := Op.call { callee := Callee.value (Operand.func 21), args := #[Operand.tmp 121, Operand.tmp 122], argTypes := #[24, 24] }, type := 4, pos := "law.go:62", after := #[ed_ 17, ed_ 18, ec_ 16, eg_ 16], guard := some (16, true) }
def o3_19_20 : Oper := { dst := some 124, op := Op.unOp Go.UnOp.not 4 (Operand.tmp 123), type := 4, pos := "law.go:62", after := #[ed_ 19, eg_ 16], guard := some (16, true) }
def o3_19_21 : Oper := { dst := some 125, op := Op.pick (Operand.tmp 120) (Operand.tmp 124) (Operand.const (Value.bool false)), type := 4, pos := "law.go:62", after := #[ed_ 16, ed_ 20], guard := none }
def o3_19_22 : Oper := { dst := some 4, op := Op.assign (Operand.tmp 125), type := 4, pos := "law.go:62", after := #[ed_ 21, ec_ 19, ep_ 0, ep_ 1, ep_ 2, ep_ 3, ep_ 4, ep_ 5, ep_ 6, ep_ 7, ep_ 8, ep_ 9, ep_ 10, ep_ 11, ep_ 12, ep_ 13, ep_ 14, ep_ 15, ep_ 16, ep_ 17, ep_ 18, ep_ 19, ep_ 20, ep_ 21], guard := none }
def O3_19 : Array Oper := List.toArray (o3_19_0 :: o3_19_1 :: o3_19_2 :: o3_19_3 :: o3_19_4 :: o3_19_5 :: o3_19_6 :: o3_19_7 :: o3_19_8 :: o3_19_9 :: o3_19_10 :: o3_19_11 :: o3_19_12 :: o3_19_13 :: o3_19_14 :: o3_19_15 :: o3_19_16 :: o3_19_17 :: o3_19_18 :: o3_19_19 :: o3_19_20 :: o3_19_21 :: o3_19_22 :: [])
theorem g3_19_0 : O3_19[0]? = some o3_19_0 := rfl
theorem g3_19_1 : O3_19[1]? = some o3_19_1 := rfl
theorem g3_19_2 : O3_19[2]? = some o3_19_2 := rfl
theorem g3_19_3 : O3_19[3]? = some o3_19_3 := rfl
theorem g3_19_4 : O3_19[4]? = some o3_19_4 := rfl
theorem g3_19_5 : O3_19[5]? = some o3_19_5 := rfl
theorem g3_19_6 : O3_19[6]? = some o3_19_6 := rfl
theorem g3_19_7 : O3_19[7]? = some o3_19_7 := rfl
theorem g3_19_8 : O3_19[8]? = some o3_19_8 := rfl
theorem g3_19_9 : O3_19[9]? = some o3_19_9 := rfl
theorem g3_19_10 : O3_19[10]? = some o3_19_10 := rfl
theorem g3_19_11 : O3_19[11]? = some o3_19_11 := rfl
theorem g3_19_12 : O3_19[12]? = some o3_19_12 := rfl
theorem g3_19_13 : O3_19[13]? = some o3_19_13 := rfl
theorem g3_19_14 : O3_19[14]? = some o3_19_14 := rfl
theorem g3_19_15 : O3_19[15]? = some o3_19_15 := rfl
theorem g3_19_16 : O3_19[16]? = some o3_19_16 := rfl
theorem g3_19_17 : O3_19[17]? = some o3_19_17 := rfl
theorem g3_19_18 : O3_19[18]? = some o3_19_18 := rfl
theorem g3_19_19 : O3_19[19]? = some o3_19_19 := rfl
theorem g3_19_20 : O3_19[20]? = some o3_19_20 := rfl
theorem g3_19_21 : O3_19[21]? = some o3_19_21 := rfl
theorem g3_19_22 : O3_19[22]? = some o3_19_22 := rfl
def c3_68 : Code := Code.region 19 O3_19 false
def c3_67 : Code := Code.seq c3_68 Code.ret
def c3_66 : Code := Code.cond (Operand.tmp 103) c3_67 Code.skip
def c3_64 : Code := Code.seq c3_65 c3_66
def o3_20_0 : Oper := { dst := some 126, op := Op.load 24 (Operand.tmp 2), type := 24, pos := "law.go:64", after := #[], guard := none }
def o3_20_1 : Oper := { dst := some 127, op := Op.load 24 (Operand.tmp 3), type := 24, pos := "law.go:64", after := #[], guard := none }
def o3_20_2 : Oper := { dst := some 128, op := Op.call { callee := Callee.value (Operand.func 26), args := #[Operand.tmp 126, Operand.tmp 127], argTypes := #[24, 24] }, type := 3, pos := "law.go:64", after := #[ed_ 0, ed_ 1], guard := none }
def o3_20_3 : Oper := { dst := some 10, op := Op.assign (Operand.tmp 128), type := 3, pos := "law.go:64", after := #[ed_ 2, ec_ 2, ep_ 0, ep_ 1, ep_ 2], guard := none }
def O3_20 : Array Oper := List.toArray (o3_20_0 :: o3_20_1 :: o3_20_2 :: o3_20_3 :: [])
theorem g3_20_0 : O3_20[0]? = some o3_20_0 := rfl
theorem g3_20_1 : O3_20[1]? = some o3_20_1 := rfl
theorem g3_20_2 : O3_20[2]? = some o3_20_2 := rfl
theorem g3_20_3 : O3_20[3]? = some o3_20_3 := rfl
def c3_72 : Code := Code.region 20 O3_20 false
def o3_21_0 : Oper := { dst := some 129, op := Op.load 24 (Operand.tmp 2), type := 24, pos := "law.go:65", after := #[], guard := none }
def o3_21_1 : Oper := { dst := some 130, op := Op.load 24 (Operand.tmp 3), type := 24, pos := "law.go:65", after := #[], guard := none }
def o3_21_2 : Oper := { dst := some 131, op := Op.call { callee := Callee.value (Operand.func 20), args := #[Operand.tmp 129, Operand.tmp 130], argTypes := #[24, 24] }, type := 3, pos := "law.go:65", after := #[ed_ 0, ed_ 1], guard := none }
def o3_21_3 : Oper := { dst := some 132, op := Op.move (Operand.tmp 10), type := 3, pos := "law.go:65", after := #[], guard := none }
def o3_21_4 : Oper := { dst := some 133, op := Op.binOp Go.BinOp.eql 3 (Operand.tmp 131) (Operand.tmp 132) 3, type := 4, pos := "law.go:65", after := #[ed_ 2, ed_ 3], guard := none }
def o3_21_5 : Oper := { dst := some 134, op := Op.move (Operand.tmp 133), type := 4, pos := "law.go:65", after := #[ed_ 4, ec_ 2], guard := none }
def o3_21_6 : Oper := { dst := some 135, op := Op.load 24 (Operand.tmp 3), type := 24, pos := "law.go:65", after := #[eg_ 5], guard := some (5, true) }
def o3_21_7 : Oper := { dst := some 136, op := Op.load 24 (Operand.tmp 2), type := 24, pos := "law.go:65", after := #[eg_ 5], guard := some (5, true) }
def o3_21_8 : Oper := { dst := some 137, op := Op.call { callee := Callee.value (Operand.func 20), args := #[Operand.tmp 135, Operand.tmp 136], argTypes := #[24, 24] }, type := 3, pos := "law.go:65", after := #[ed_ 6, ed_ 7, ec_ 5, eg_ 5], guard := some (5, true) }
def o3_21_9 : Oper := { dst := some 138, op := Op.move (Operand.tmp 10), type := 3, pos := "law.go:65", after := #[eg_ 5], guard := some (5, true) }
def o3_21_10 : Oper := { dst := some 139, op := Op.unOp Go.UnOp.neg 3 (Operand.tmp 138), type := 3, pos := "law.go:65", after := #[ed_ 9, eg_ 5], guard := some (5, true) }
def o3_21_11 : Oper := { dst := some 140, op := Op.binOp Go.BinOp.eql 3 (Operand.tmp 137) (Operand.tmp 139) 3, type := 4, pos := "law.go:65", after := #[ed_ 8, ed_ 10, eg_ 5], guard := some (5, true) }
def o3_21_12 : Oper := { dst := some 141, op := Op.pick (Operand.tmp 134) (Operand.tmp 140) (Operand.const (Value.bool false)), type := 4, pos := "law.go:65", after := #[ed_ 5, ed_ 11], guard := none }
def o3_21_13 : Oper := { dst := some 142, op := Op.move (Operand.tmp 141), type := 4, pos := "law.go:65", after := #[ed_ 12, ec_ 8], guard := none }
def o3_21_14 : Oper := { dst := some 143, op := Op.load 24 (Operand.tmp 2), type := 24, pos := "law.go:65", after := #[eg_ 13], guard := some (13, true) }
def o3_21_15 : Oper := { dst := some 144, op := Op.load 24 (Operand.tmp 3), type := 24, pos := "law.go:65", after := #[eg_ 13], guard := some (13, true) }
def o3_21_16 : Oper := { dst := some 145, op := Op.call { callee := Callee.value (Operand.func 19), args := #[Operand.tmp 143, Operand.tmp 144], argTypes := #[24, 24] }, type := 4, pos := "law.go:65", after := #[ed_ 14, ed_ 15, ec_ 13, eg_ 13], guard := some (13, true) }
def o3_21_17 : Oper := { dst := some 146, op := Op.move (Operand.tmp 10), type := 3, pos := "law.go:65", after := #[eg_ 13], guard := some (13, true) }
def o3_21_18 : Oper := { dst := some 147, op := Op.binOp Go.BinOp.eql 3 (Operand.tmp 146) (Operand.const (Value.int IntKind.i64 0)) 3, type := 4, pos := "law.go:65", after := #[ed_ 17, eg_ 13], guard := some (13, true) }
def o3_21_19 : Oper := { dst := some 148, op := Op.binOp Go.BinOp.eql 4 (Operand.tmp 145) (Operand.tmp 147) 4, type := 4, pos := "law.go:65", after := #[ed_ 16, ed_ 18, eg_ 13], guard := some (13, true) }
def o3_21_20 : Oper := { dst := some 149, op := Op.pick (Operand.tmp 142) (Operand.tmp 148) (Operand.const (Value.bool false)), type := 4, pos := "law.go:65", after := #[ed_ 13, ed_ 19], guard := none }
def o3_21_21 : Oper := { dst := some 150, op := Op.move (Operand.tmp 149), type := 4, pos := "law.go:65", after := #[ed_ 20, ec_ 16], guard := none }
def o3_21_22 : Oper := { dst := some 151, op := Op.load 24 (Operand.tmp 2), type := 24, pos := "law.go:65", after := #[eg_ 21], guard := some (21, true) }
def o3_21_23 : Oper := { dst := some 152, op := Op.load 24 (Operand.tmp 3), type := 24, pos := "law.go:65", after := #[eg_ 21], guard := some (21, true) }
def o3_21_24 : Oper := { dst := some 153, op := Op.call { callee := Callee.value (Operand.func 21), args := #[Operand.tmp 151, Operand.tmp 152], argTypes := #[24, 24] }, type := 4, pos := "law.go:65", after := #[ed_ 22, ed_ 23, ec_ 21, eg_ 21], guard := some (21, true) }
def o3_21_25 : Oper := { dst := some 154, op := Op.load 24 (Operand.tmp 2), type := 24, pos := "law.go:65", after := #[eg_ 21], guard := some (21, true) }
def o3_21_26 : Oper := { dst := some 155, op := Op.load 24 (Operand.tmp 3), type := 24, pos := "law.go:65", after := #[eg_ 21], guard := some (21, true) }
def o3_21_27 : Oper := { dst := some 156, op := Op.call { callee := Callee.value (Operand.func 27), args := #[Operand.tmp 154, Operand.tmp 155], argTypes := #[24, 24] }, type := 4, pos := "law.go:65", after := #[ed_ 25, ed_ 26, ec_ 24, eg_ 21], guard := some (21, true) }
def o3_21_28 : Oper := { dst := some 157, op := Op.binOp Go.BinOp.eql 4 (Operand.tmp 153) (Operand.tmp 156) 4, type := 4, pos := "law.go:65", after := #[ed_ 24, ed_ 27, eg_ 21], guard := some (21, true) }
def o3_21_29 : Oper := { dst := some 158, op := Op.pick (Operand.tmp 150) (Operand.tmp 157) (Operand.const (Value.bool false)), type := 4, pos := "law.go:65", after := #[ed_ 21, ed_ 28], guard := none }
def o3_21_30 : Oper := { dst := some 4, op := Op.assign (Operand.tmp 158), type := 4, pos := "law.go:65", after := #[ed_ 29, ec_ 27, ep_ 0, ep_ 1, ep_ 2, ep_ 3, ep_ 4, ep_ 5, ep_ 6, ep_ 7, ep_ 8, ep_ 9, ep_ 10, ep_ 11, ep_ 12, ep_ 13, ep_ 14, ep_ 15, ep_ 16, ep_ 17, ep_ 18, ep_ 19, ep_ 20, ep_ 21, ep_ 22, ep_ 23, ep_ 24, ep_ 25, ep_ 26, ep_ 27, ep_ 28, ep_ 29], guard := none }
def O3_21 : Array Oper := List.toArray (o3_21_0 :: o3_21_1 :: o3_21_2 :: o3_21_3 :: o3_21_4 :: o3_21_5 :: o3_21_6 :: o3_21_7 :: o3_21_8 :: o3_21_9 :: o3_21_10 :: o3_21_11 :: o3_21_12 :: o3_21_13 :: o3_21_14 :: o3_21_15 :: o3_21_16 :: o3_21_17 :: o3_21_18 :: o3_21_19 :: o3_21_20 :: o3_21_21 :: o3_21_22 :: o3_21_23 :: o3_21_24 :: o3_21_25 :: o3_21_26 :: o3_21_27 :: o3_21_28 :: o3_21_29 :: o3_21_30 :: [])
theorem g3_21_0 : O3_21[0]? = some o3_21_0 := rfl
theorem g3_21_1 : O3_21[1]? = some o3_21_1 := rfl
theorem g3_21_2 : O3_21[2]? = some o3_21_2 := rfl
theorem g3_21_3 : O3_21[3]? = some o3_21_3 := rfl
theorem g3_21_4 : O3_21[4]? = some o3_21_4 := rfl
theorem g3_21_5 : O3_21[5]? = some o3_21_5 := rfl
theorem g3_21_6 : O3_21[6]? = some o3_21_6 := rfl
theorem g3_21_7 : O3_21[7]? = some o3_21_7 := rfl
theorem g3_21_8 : O3_21[8]? = some o3_21_8 := rfl
theorem g3_21_9 : O3_21[9]? = some o3_21_9 := rfl
theorem g3_21_10 : O3_21[10]? = some o3_21_10 := rfl
theorem g3_21_11 : O3_21[11]? = some o3_21_11 := rfl
theorem g3_21_12 : O3_21[12]? = some o3_21_12 := rfl
theorem g3_21_13 : O3_21[13]? = some o3_21_13 := rfl
theorem g3_21_14 : O3_21[14]? = some o3_21_14 := rfl
theorem g3_21_15 : O3_21[15]? = some o3_21_15 := rfl
theorem g3_21_16 : O3_21[16]? = some o3_21_16 := rfl
theorem g3_21_17 : O3_21[17]? = some o3_21_17 := rfl
theorem g3_21_18 : O3_21[18]? = some o3_21_18 := rfl
theorem g3_21_19 : O3_21[19]? = some o3_21_19 := rfl
theorem g3_21_20 : O3_21[20]? = some o3_21_20 := rfl
theorem g3_21_21 : O3_21[21]? = some o3_21_21 := rfl
theorem g3_21_22 : O3_21[22]? = some o3_21_22 := rfl
theorem g3_21_23 : O3_21[23]? = some o3_21_23 := rfl
theorem g3_21_24 : O3_21[24]? = some o3_21_24 := rfl
theorem g3_21_25 : O3_21[25]? = some o3_21_25 := rfl
theorem g3_21_26 : O3_21[26]? = some o3_21_26 := rfl
theorem g3_21_27 : O3_21[27]? = some o3_21_27 := rfl
theorem g3_21_28 : O3_21[28]? = some o3_21_28 := rfl
theorem g3_21_29 : O3_21[29]? = some o3_21_29 := rfl
theorem g3_21_30 : O3_21[30]? = some o3_21_30 := rfl
theorem ns3_21 : Region.noSelect O3_21 = true := by kernel_rfl
def c3_74 : Code := Code.region 21 O3_21 true
def c3_73 : Code := Code.seq c3_74 Code.ret
def c3_71 : Code := Code.seq c3_72 c3_73
def c3_63 : Code := Code.seq c3_64 c3_71
def c3_55 : Code := Code.seq c3_56 c3_63
def c3_38 : Code := Code.seq c3_39 c3_55
def c3_30 : Code := Code.seq c3_31 c3_38
def c3_28 : Code := Code.seq c3_29 c3_30
def c3_20 : Code := Code.seq c3_21 c3_28
def c3_12 : Code := Code.seq c3_13 c3_20
def c3_10 : Code := Code.seq c3_11 c3_12
def c3_2 : Code := Code.seq c3_3 c3_10
def c3_0 : Code := Code.seq c3_1 c3_2
theorem en3_14 : Enters Try.prog 14 := enters_of Try.func14 (by kernel_rfl) rfl
theorem en3_15 : Enters Try.prog 15 := enters_of Try.func15 (by kernel_rfl) rfl
theorem en3_16 : Enters Try.prog 16 := enters_of Try.func16 (by kernel_rfl) rfl
theorem en3_17 : Enters Try.prog 17 := enters_of Try.func17 (by kernel_rfl) rfl
theorem en3_18 : Enters Try.prog 18 := enters_of Try.func18 (by kernel_rfl) rfl
theorem en3_19 : Enters Try.prog 19 := enters_of Try.func19 (by kernel_rfl) rfl
theorem en3_20 : Enters Try.prog 20 := enters_of Try.func20 (by kernel_rfl) rfl
theorem en3_21 : Enters Try.prog 21 := enters_of Try.func21 (by kernel_rfl) rfl
theorem en3_24 : Enters Try.prog 24 := enters_of Try.func24 (by kernel_rfl) rfl
theorem en3_25 : Enters Try.prog 25 := enters_of Try.func25 (by kernel_rfl) rfl
theorem en3_26 : Enters Try.prog 26 := enters_of Try.func26 (by kernel_rfl) rfl
theorem en3_27 : Enters Try.prog 27 := enters_of Try.func27 (by kernel_rfl) rfl
theorem body3 : Try.f3.body = some c3_0 := by kernel_rfl
set_option maxRecDepth 100000 in
set_option maxHeartbeats 4000000 in
theorem tells_f {W : World} {t u : Tm} {ta ua : Option Addr} {tc uc : Nat} {q : Bool} {f0 : Act} {w0 : World} (R : FrS 159 f0) (h0 : f0.tmps[0]? = some (.agg #[.int .i64 t.k, .string (str t.nm), .int .i64 t.i, .slice ta t.args.length tc])) (h1 : f0.tmps[1]? = some (.agg #[.int .i64 u.k, .string (str u.nm), .int .i64 u.i, .slice ua u.args.length uc])) (K1 : Keep (fun g => g < W.heap.size) W w0)  (HT : Hid (TmAt W.heap.size W t ta tc)) (HU : Hid (TmAt W.heap.size W u ua uc)) (HQ : Hid (u.right = q)) (HR : Hid (t.right = false)) : c3_0.wp Try.prog (bodyPost Try.prog Try.f3 (fun e w' => e = .returned (.bool true) ∧ Keep (fun g => g < W.heap.size) W w')) f0 w0 := by
  refine wp_seq (x := c3_1) (y := c3_2) ?_
  change (Code.region 0 O3_0 false).wp _ _ _ _
  refine reg_in (l := [0, 1, 2]) rfl ?_
  have F : FE_ _ [] f0 f0 := ⟨R, Ag_.refl _⟩; clear R
  have Y : (execOp f0.eval o3_0_0).run Try.prog w0 = .ok (.value (.pointer (some ⟨w0.heap.size, 0, none⟩))) (w0.alloc (.cells #[.int .i64 t.k, .string (str t.nm), .int .i64 t.i, .slice ta t.args.length tc] 24)) := by have r0 := F.of h0; unfold o3_0_0; go_simp
  have B1 := Blk.new w0 24 #[.int .i64 t.k, .string (str t.nm), .int .i64 t.i, .slice ta t.args.length tc]
  obtain ⟨w2, hw⟩ : ∃ x, x = w0.alloc (.cells #[.int .i64 t.k, .string (str t.nm), .int .i64 t.i, .slice ta t.args.length tc] 24) := ⟨_, rfl⟩; rw [← hw] at Y B1
  obtain ⟨b1, hb⟩ : ∃ x, x = w0.heap.size := ⟨_, rfl⟩; rw [← hb] at Y B1
  have LK1_b1 := lk_ hb K1; replace K1 := ka_ hw K1; clear hw hb
  refine st_val g3_0_0 rfl wf_ Y fun a3 e => ?_; clear Y
  have h2 := pt_ F e; replace F := pu_ F e; clear e
  have Y : (execOp a3.eval o3_0_1).run Try.prog w2 = .ok (.value (.pointer (some ⟨w2.heap.size, 0, none⟩))) (w2.alloc (.cells #[.int .i64 u.k, .string (str u.nm), .int .i64 u.i, .slice ua u.args.length uc] 24)) := by have r1 := F.of h1; unfold o3_0_1; go_simp
  have B4 := Blk.new w2 24 #[.int .i64 u.k, .string (str u.nm), .int .i64 u.i, .slice ua u.args.length uc]
  obtain ⟨w5, hw⟩ : ∃ x, x = w2.alloc (.cells #[.int .i64 u.k, .string (str u.nm), .int .i64 u.i, .slice ua u.args.length uc] 24) := ⟨_, rfl⟩; rw [← hw] at Y B4
  obtain ⟨b4, hb⟩ : ∃ x, x = w2.heap.size := ⟨_, rfl⟩; rw [← hb] at Y B4
  have Nb1_b4 := nb_ hb B1; replace B1 := ba_ hw B1; have LK1_b4 := lk_ hb K1; replace K1 := ka_ hw K1; clear hw hb
  refine st_val g3_0_1 rfl wf_ Y fun a6 e => ?_; clear Y
  have h3 := pt_ F e; replace F := pu_ F e; replace h2 := so_ e h2; clear e
  have Y : (execOp a6.eval o3_0_2).run Try.prog w5 = .ok (.value (.bool false)) w5 := by unfold o3_0_2; go_simp
  refine st_val g3_0_2 rfl wf_ Y fun a7 e => ?_; clear Y
  have h4 := pt_ F e; replace F := pu_ F e; replace h2 := so_ e h2; replace h3 := so_ e h3; clear e
  refine st_end ?_
  clear h0; clear h1; have R := F.r; clear F
  change (c3_2).wp _ _ _ _
  refine wp_seq (x := c3_3) (y := c3_10) ?_
  refine wp_seq (x := c3_4) (y := c3_5) ?_
  change (Code.region 1 O3_1 false).wp _ _ _ _
  refine reg_in (l := [0, 1]) rfl ?_
  have F : FE_ _ [] a7 a7 := ⟨R, Ag_.refl _⟩; clear R
  have Y : (execOp a7.eval o3_1_0).run Try.prog w5 = .ok (.enter 13 #[]) w5 := by unfold o3_1_0; go_simp
  refine st_call g3_1_0 rfl wf_ Y ((alive_any (w := w5)).mono ?_); clear Y
  rintro e9 w8 ⟨rfl, kk⟩
  replace K1 := keep_onto K1 kk
  replace B1 := blk_on B1 kk
  replace B4 := blk_on B4 kk
  clear kk
  refine ⟨_, rfl, fun a9 e => ?_⟩
  have h11 := pt_ F e; replace F := pu_ F e; clear e
  have Y : (execOp a9.eval o3_1_1).run Try.prog w8 = .ok (.value (.bool false)) w8 := by unfold o3_1_1; go_simp
  refine st_val g3_1_1 rfl wf_ Y fun a10 e => ?_; clear Y
  clear h11; have h12 := pt_ F e; replace F := pu_ F e; clear e
  refine st_end ?_
  replace h2 := F.of h2; replace h3 := F.of h3; replace h4 := F.of h4; have R := F.r; clear F
  change (c3_5).wp _ _ _ _
  refine wp_cond_false (x := c3_6) (y := Code.skip) (eval_slot h12) ?_
  refine wp_skip ?_
  change (c3_10).wp _ _ _ _
  refine wp_seq (x := c3_11) (y := c3_12) ?_
  change (Code.region 3 O3_3 true).wp _ _ _ _
  have D13 := B1
  have D14 := B4
  have K11 := (Keep.refl (fun g => g < w8.heap.size) w8).drew
  have EK1 := K1
  refine dr_in (S := (fun W => Keep (fun g => g < w8.heap.size) w8 W)) (n := 6) (l := lb_ 6 0) (by kernel_rfl) K11 rfl (by kernel_rfl) ?_
  replace K1 := K1.drew
  replace B1 := B1.drew
  replace B4 := B4.drew
  generalize w8.drew = w12 at K11 K1 B1 B4 ⊢
  have F : FE_ _ [] a10 a10 := ⟨R, Ag_.refl _⟩; clear R
  refine dt_ (i := 0) (l' := (lb_ 6 1)) g3_3_0 rfl ns3_3 wf_ K11 (fun W7 hS => (yl4_ rfl (F.of h2) (D13.keep hS D13.lt))) fun a15 e => ?_
  have h13 := pt_ F e; replace F := pu_ F e; clear e
  refine dt_ (i := 2) (l' := (lb_ 6 5)) g3_3_2 rfl ns3_3 wf_ K11 (fun W7 hS => (yl4_ rfl (F.of h3) (D14.keep hS D14.lt))) fun a16 e => ?_
  have h15 := pt_ F e; replace F := pu_ F e; replace h13 := so_ e h13; clear e
  refine dr_only (i := 1) (fuel := 3) (by kernel_rfl) ?_
  have hcall := refRight_any (HT.out.on K1); rw [HR.out] at hcall
  refine dr_call (l' := (lb_ 6 7)) g3_3_1 rfl (by kernel_rfl) wf_ (yc1_ en3_14 rfl h13) ((hcall).mono ?_)
  rintro e9 w17 ⟨rfl, kk⟩
  replace K1 := keep_onto K1 kk
  replace K11 := keep_onto K11 kk
  replace B1 := blk_on B1 kk
  replace B4 := blk_on B4 kk
  clear kk
  clear hcall
  refine ⟨_, rfl, K11, fun a18 e => ?_⟩
  clear h13; have h14 := pt_ F e; replace F := pu_ F e; replace h15 := so_ e h15; clear e
  refine dr_only (i := 3) (fuel := 2) (by kernel_rfl) ?_
  have hcall := refRight_any (HU.out.on K1); rw [HQ.out] at hcall
  refine dr_call (l' := (lb_ 6 15)) g3_3_3 rfl (by kernel_rfl) wf_ (yc1_ en3_14 rfl h15) ((hcall).mono ?_)
  rintro e9 w19 ⟨rfl, kk⟩
  replace K1 := keep_onto K1 kk
  replace K11 := keep_onto K11 kk
  replace B1 := blk_on B1 kk
  replace B4 := blk_on B4 kk
  clear kk
  clear hcall
  refine ⟨_, rfl, K11, fun a20 e => ?_⟩
  clear h15; have h16 := pt_ F e; replace F := pu_ F e; replace h14 := so_ e h14; clear e
  refine dt_ (i := 4) (l' := (lb_ 6 31)) g3_3_4 rfl ns3_3 wf_ K11 (fun _ _ => (ya_ rfl h14)) fun a21 e => ?_
  clear h14; have h5 := pt_ F e; replace F := pu_ F e; replace h16 := so_ e h16; clear e
  refine dt_ (i := 5) (l' := (lb_ 6 63)) g3_3_5 rfl ns3_3 wf_ K11 (fun _ _ => (ya_ rfl h16)) fun a22 e => ?_
  clear h16; have h6 := pt_ F e; replace F := pu_ F e; replace h5 := so_ e h5; clear e
  refine dr_end (by kernel_rfl) ?_
  replace h2 := F.of h2; replace h3 := F.of h3; replace h4 := F.of h4; clear h12; have R := F.r; clear F
  clear K11 EK1 D13 D14
  change (c3_12).wp _ _ _ _
  refine wp_seq (x := c3_13) (y := c3_20) ?_
  refine wp_seq (x := c3_14) (y := c3_15) ?_
  change (Code.region 4 O3_4 false).wp _ _ _ _
  refine reg_in (l := [0, 1, 2, 3, 4, 5, 6, 7, 8, 9, 10, 11, 12, 13]) rfl ?_
  have F : FE_ _ [] a22 a22 := ⟨R, Ag_.refl _⟩; clear R
  refine st_val g3_4_0 rfl wf_ (yl4_ rfl (F.of h2) B1) fun a23 e => ?_
  have h17 := pt_ F e; replace F := pu_ F e; clear e
  refine st_call g3_4_1 rfl wf_ (yc1_ en3_15 rfl h17) ((check_f (HT.out.on K1) HR.out).mono ?_)
  rintro e9 w24 ⟨rfl, kk⟩
  replace K1 := keep_onto K1 kk
  replace B1 := blk_on B1 kk
  replace B4 := blk_on B4 kk
  clear kk
  refine ⟨_, rfl, fun a25 e => ?_⟩
  clear h17; have h18 := pt_ F e; replace F := pu_ F e; clear e
  have Y : (execOp a25.eval o3_4_2).run Try.prog w24 = .ok (.value (.bool false)) w24 := by unfold o3_4_2; go_simp
  refine st_val g3_4_2 rfl wf_ Y fun a26 e => ?_; clear Y
  clear h18; have h19 := pt_ F e; replace F := pu_ F e; clear e
  refine st_val g3_4_3 rfl wf_ (ym_ rfl (F.of h5)) fun a27 e => ?_
  have h20 := pt_ F e; replace F := pu_ F e; replace h19 := so_ e h19; clear e
  have Y : (execOp a27.eval o3_4_4).run Try.prog w24 = .ok (.value (.bool false)) w24 := by unfold o3_4_4; go_simp
  refine st_val g3_4_4 rfl wf_ Y fun a28 e => ?_; clear Y
  clear h19 h20; have h21 := pt_ F e; replace F := pu_ F e; clear e
  refine st_val g3_4_5 rfl wf_ (ym_ rfl h21) fun a29 e => ?_
  clear h21; have h22 := pt_ F e; replace F := pu_ F e; clear e
  refine st_val g3_4_6 rfl (wanted_is (j := 5) (d := 22) rfl rfl h22 rfl) (ym_ rfl (F.of h5)) fun a30 e => ?_
  have h23 := pt_ F e; replace F := pu_ F e; replace h22 := so_ e h22; clear e
  have Y : (execOp a30.eval o3_4_7).run Try.prog w24 = .ok (.value (.bool true)) w24 := by unfold o3_4_7; go_simp
  refine st_val g3_4_7 rfl (wanted_is (j := 5) (d := 22) rfl rfl h22 rfl) Y fun a31 e => ?_; clear Y
  clear h23; have h24 := pt_ F e; replace F := pu_ F e; replace h22 := so_ e h22; clear e
  refine st_val g3_4_8 rfl (wanted_is (j := 5) (d := 22) rfl rfl h22 rfl) (ym_ rfl h24) fun a32 e => ?_
  clear h24; have h25 := pt_ F e; replace F := pu_ F e; replace h22 := so_ e h22; clear e
  refine st_val g3_4_9 rfl (wanted_is (j := 8) (d := 25) rfl rfl h25 rfl) (yl4_ rfl (F.of h2) B1) fun a33 e => ?_
  have h26 := pt_ F e; replace F := pu_ F e; replace h22 := so_ e h22; replace h25 := so_ e h25; clear e
  refine st_call g3_4_10 rfl (wanted_is (j := 8) (d := 25) rfl rfl h25 rfl) (yc1_ en3_15 rfl h26) ((check_f (HT.out.on K1) HR.out).mono ?_)
  rintro e9 w34 ⟨rfl, kk⟩
  replace K1 := keep_onto K1 kk
  replace B1 := blk_on B1 kk
  replace B4 := blk_on B4 kk
  clear kk
  refine ⟨_, rfl, fun a35 e => ?_⟩
  clear h26; have h27 := pt_ F e; replace F := pu_ F e; replace h22 := so_ e h22; replace h25 := so_ e h25; clear e
  have Y : (execOp a35.eval o3_4_11).run Try.prog w34 = .ok (.value (.bool false)) w34 := by unfold o3_4_11; go_simp
  refine st_val g3_4_11 rfl (wanted_is (j := 8) (d := 25) rfl rfl h25 rfl) Y fun a36 e => ?_; clear Y
  clear h27; have h28 := pt_ F e; replace F := pu_ F e; replace h22 := so_ e h22; replace h25 := so_ e h25; clear e
  have Y : (execOp a36.eval o3_4_12).run Try.prog w34 = .ok (.value (.bool false)) w34 := by unfold o3_4_12; go_simp
  refine st_val g3_4_12 rfl (wanted_is (j := 5) (d := 22) rfl rfl h22 rfl) Y fun a37 e => ?_; clear Y
  clear h25 h28; have h29 := pt_ F e; replace F := pu_ F e; replace h22 := so_ e h22; clear e
  have Y : (execOp a37.eval o3_4_13).run Try.prog w34 = .ok (.value (.bool false)) w34 := by unfold o3_4_13; go_simp
  refine st_val g3_4_13 rfl wf_ Y fun a38 e => ?_; clear Y
  clear h22 h29; have h30 := pt_ F e; replace F := pu_ F e; clear e
  refine st_end ?_
  replace h2 := F.of h2; replace h3 := F.of h3; replace h4 := F.of h4; replace h5 := F.of h5; replace h6 := F.of h6; have R := F.r; clear F
  change (c3_15).wp _ _ _ _
  refine wp_cond_false (x := c3_16) (y := Code.skip) (eval_slot h30) ?_
  refine wp_skip ?_
  change (c3_20).wp _ _ _ _
  refine wp_seq (x := c3_21) (y := c3_28) ?_
  refine wp_seq (x := c3_22) (y := c3_23) ?_
  change (Code.region 6 O3_6 false).wp _ _ _ _
  refine reg_in (l := [0, 1]) rfl ?_
  have F : FE_ _ [] a38 a38 := ⟨R, Ag_.refl _⟩; clear R
  refine st_val g3_6_0 rfl wf_ (ym_ rfl (F.of h5)) fun a39 e => ?_
  have h31 := pt_ F e; replace F := pu_ F e; clear e
  have Y : (execOp a39.eval o3_6_1).run Try.prog w34 = .ok (.value (.bool true)) w34 := by unfold o3_6_1; go_simp
  refine st_val g3_6_1 rfl wf_ Y fun a40 e => ?_; clear Y
  clear h31; have h32 := pt_ F e; replace F := pu_ F e; clear e
  refine st_end ?_
  replace h2 := F.of h2; replace h3 := F.of h3; replace h4 := F.of h4; clear h5; replace h6 := F.of h6; clear h30; have R := F.r; clear F
  change (c3_23).wp _ _ _ _
  refine wp_cond_true (x := c3_24) (y := Code.skip) (eval_slot h32) ?_
  refine wp_seq (x := c3_25) (y := Code.ret) ?_
  change (Code.region 7 O3_7 false).wp _ _ _ _
  refine reg_in (l := [0, 1, 2, 3, 4, 5, 6, 7, 8, 9, 10, 11, 12, 13, 14, 15, 16, 17, 18, 19, 20, 21, 22, 23, 24, 25, 26, 27, 28, 29, 30, 31, 32]) rfl ?_
  have F : FE_ _ [] a40 a40 := ⟨R, Ag_.refl _⟩; clear R
  refine st_val g3_7_0 rfl wf_ (yl4_ rfl (F.of h2) B1) fun a41 e => ?_
  have h33 := pt_ F e; replace F := pu_ F e; clear e
  refine st_call g3_7_1 rfl wf_ (yc1_ en3_16 rfl h33) ((size_sx (z := 0) (HT.out.on K1) (by unfold Tm.size; rw [if_neg (show ¬ (Tm.meas t 1 (0, 0)).2 = true from by have h := HR.out; unfold Tm.right at h; rw [h]; decide)])).mono ?_)
  rintro e9 w42 ⟨rfl, kk⟩
  replace K1 := keep_onto K1 kk
  replace B1 := blk_on B1 kk
  replace B4 := blk_on B4 kk
  clear kk
  refine ⟨_, rfl, fun a43 e => ?_⟩
  clear h33; have h34 := pt_ F e; replace F := pu_ F e; clear e
  have Y : (execOp a43.eval o3_7_2).run Try.prog w42 = .ok (.value (.bool true)) w42 := by unfold o3_7_2; go_simp
  refine st_val g3_7_2 rfl wf_ Y fun a44 e => ?_; clear Y
  clear h34; have h35 := pt_ F e; replace F := pu_ F e; clear e
  refine st_val g3_7_3 rfl wf_ (ym_ rfl h35) fun a45 e => ?_
  clear h35; have h36 := pt_ F e; replace F := pu_ F e; clear e
  refine st_val g3_7_4 rfl (wanted_is (j := 3) (d := 36) rfl rfl h36 rfl) (yl4_ rfl (F.of h2) B1) fun a46 e => ?_
  have h37 := pt_ F e; replace F := pu_ F e; replace h36 := so_ e h36; clear e
  refine st_call g3_7_5 rfl (wanted_is (j := 3) (d := 36) rfl rfl h36 rfl) (yc1_ en3_17 rfl h37) ((depth_sx (z := 0) (HT.out.on K1) (by unfold Tm.depth; rw [if_neg (show ¬ (Tm.meas t 1 (0, 0)).2 = true from by have h := HR.out; unfold Tm.right at h; rw [h]; decide)])).mono ?_)
  rintro e9 w47 ⟨rfl, kk⟩
  replace K1 := keep_onto K1 kk
  replace B1 := blk_on B1 kk
  replace B4 := blk_on B4 kk
  clear kk
  refine ⟨_, rfl, fun a48 e => ?_⟩
  clear h37; have h38 := pt_ F e; replace F := pu_ F e; replace h36 := so_ e h36; clear e
  have Y : (execOp a48.eval o3_7_6).run Try.prog w47 = .ok (.value (.bool true)) w47 := by unfold o3_7_6; go_simp
  refine st_val g3_7_6 rfl (wanted_is (j := 3) (d := 36) rfl rfl h36 rfl) Y fun a49 e => ?_; clear Y
  clear h38; have h39 := pt_ F e; replace F := pu_ F e; replace h36 := so_ e h36; clear e
  have Y : (execOp a49.eval o3_7_7).run Try.prog w47 = .ok (.value (.bool true)) w47 := by unfold o3_7_7; go_simp
  refine st_val g3_7_7 rfl wf_ Y fun a50 e => ?_; clear Y
  clear h36 h39; have h40 := pt_ F e; replace F := pu_ F e; clear e
  refine st_val g3_7_8 rfl wf_ (ym_ rfl h40) fun a51 e => ?_
  clear h40; have h41 := pt_ F e; replace F := pu_ F e; clear e
  refine st_val g3_7_9 rfl (wanted_is (j := 8) (d := 41) rfl rfl h41 rfl) (yl4_ rfl (F.of h2) B1) fun a52 e => ?_
  have h42 := pt_ F e; replace F := pu_ F e; replace h41 := so_ e h41; clear e
  refine st_call g3_7_10 rfl (wanted_is (j := 8) (d := 41) rfl rfl h41 rfl) (yc1_ en3_18 rfl h42) ((vars_sx (l := []) (L := 0) (HT.out.on K1) (by rw [vaV, if_neg (by rw [HR.out]; decide)]) rfl).mono ?_)
  rintro e9 w53 ⟨gb, ub, vc, rfl, hvr, kk⟩
  replace K1 := keep_onto K1 kk
  replace B1 := blk_on B1 kk
  replace B4 := blk_on B4 kk
  clear kk
  clear hvr
  refine ⟨_, rfl, fun a54 e => ?_⟩
  clear h42; have h43 := pt_ F e; replace F := pu_ F e; replace h41 := so_ e h41; clear e
  have Y : (execOp a54.eval o3_7_11).run Try.prog w53 = .ok (.value (.int .i64 0)) w53 := by unfold o3_7_11; go_simp
  refine st_val g3_7_11 rfl (wanted_is (j := 8) (d := 41) rfl rfl h41 rfl) Y fun a55 e => ?_; clear Y
  clear h43; have h44 := pt_ F e; replace F := pu_ F e; replace h41 := so_ e h41; clear e
  have Y : (execOp a55.eval o3_7_12).run Try.prog w53 = .ok (.value (.bool true)) w53 := by unfold o3_7_12; go_simp
  refine st_val g3_7_12 rfl (wanted_is (j := 8) (d := 41) rfl rfl h41 rfl) Y fun a56 e => ?_; clear Y
  clear h44; have h45 := pt_ F e; replace F := pu_ F e; replace h41 := so_ e h41; clear e
  have Y : (execOp a56.eval o3_7_13).run Try.prog w53 = .ok (.value (.bool true)) w53 := by unfold o3_7_13; go_simp
  refine st_val g3_7_13 rfl wf_ Y fun a57 e => ?_; clear Y
  clear h41 h45; have h46 := pt_ F e; replace F := pu_ F e; clear e
  refine st_val g3_7_14 rfl wf_ (ym_ rfl h46) fun a58 e => ?_
  clear h46; have h47 := pt_ F e; replace F := pu_ F e; clear e
  refine st_val g3_7_15 rfl (wanted_is (j := 14) (d := 47) rfl rfl h47 rfl) (yl4_ rfl (F.of h2) B1) fun a59 e => ?_
  have h48 := pt_ F e; replace F := pu_ F e; replace h47 := so_ e h47; clear e
  refine st_val g3_7_16 rfl (wanted_is (j := 14) (d := 47) rfl rfl h47 rfl) (yl4_ rfl (F.of h3) B4) fun a60 e => ?_
  have h49 := pt_ F e; replace F := pu_ F e; replace h47 := so_ e h47; replace h48 := so_ e h48; clear e
  refine st_call g3_7_17 rfl (wanted_is (j := 14) (d := 47) rfl rfl h47 rfl) (yc2_ en3_19 rfl h48 h49) ((same_sx (z := false) (HT.out.on K1) (HU.out.on K1) (by unfold sameV; rw [HR.out]; rfl)).mono ?_)
  rintro e9 w61 ⟨rfl, kk⟩
  replace K1 := keep_onto K1 kk
  replace B1 := blk_on B1 kk
  replace B4 := blk_on B4 kk
  clear kk
  refine ⟨_, rfl, fun a62 e => ?_⟩
  clear h48 h49; have h50 := pt_ F e; replace F := pu_ F e; replace h47 := so_ e h47; clear e
  have Y : (execOp a62.eval o3_7_18).run Try.prog w61 = .ok (.value (.bool true)) w61 := by unfold o3_7_18; go_simp
  refine st_val g3_7_18 rfl (wanted_is (j := 14) (d := 47) rfl rfl h47 rfl) Y fun a63 e => ?_; clear Y
  clear h50; have h51 := pt_ F e; replace F := pu_ F e; replace h47 := so_ e h47; clear e
  have Y : (execOp a63.eval o3_7_19).run Try.prog w61 = .ok (.value (.bool true)) w61 := by unfold o3_7_19; go_simp
  refine st_val g3_7_19 rfl wf_ Y fun a64 e => ?_; clear Y
  clear h47 h51; have h52 := pt_ F e; replace F := pu_ F e; clear e
  refine st_val g3_7_20 rfl wf_ (ym_ rfl h52) fun a65 e => ?_
  clear h52; have h53 := pt_ F e; replace F := pu_ F e; clear e
  refine st_val g3_7_21 rfl (wanted_is (j := 20) (d := 53) rfl rfl h53 rfl) (yl4_ rfl (F.of h2) B1) fun a66 e => ?_
  have h54 := pt_ F e; replace F := pu_ F e; replace h53 := so_ e h53; clear e
  refine st_val g3_7_22 rfl (wanted_is (j := 20) (d := 53) rfl rfl h53 rfl) (yl4_ rfl (F.of h3) B4) fun a67 e => ?_
  have h55 := pt_ F e; replace F := pu_ F e; replace h53 := so_ e h53; replace h54 := so_ e h54; clear e
  refine st_call g3_7_23 rfl (wanted_is (j := 20) (d := 53) rfl rfl h53 rfl) (yc2_ en3_20 rfl h54 h55) ((order_sx (z := 0) (HT.out.on K1) (HU.out.on K1) (by unfold ordV; rw [HR.out]; rfl)).mono ?_)
  rintro e9 w68 ⟨rfl, kk⟩
  replace K1 := keep_onto K1 kk
  replace B1 := blk_on B1 kk
  replace B4 := blk_on B4 kk
  clear kk
  refine ⟨_, rfl, fun a69 e => ?_⟩
  clear h54 h55; have h56 := pt_ F e; replace F := pu_ F e; replace h53 := so_ e h53; clear e
  have Y : (execOp a69.eval o3_7_24).run Try.prog w68 = .ok (.value (.bool true)) w68 := by unfold o3_7_24; go_simp
  refine st_val g3_7_24 rfl (wanted_is (j := 20) (d := 53) rfl rfl h53 rfl) Y fun a70 e => ?_; clear Y
  clear h56; have h57 := pt_ F e; replace F := pu_ F e; replace h53 := so_ e h53; clear e
  have Y : (execOp a70.eval o3_7_25).run Try.prog w68 = .ok (.value (.bool true)) w68 := by unfold o3_7_25; go_simp
  refine st_val g3_7_25 rfl wf_ Y fun a71 e => ?_; clear Y
  clear h53 h57; have h58 := pt_ F e; replace F := pu_ F e; clear e
  refine st_val g3_7_26 rfl wf_ (ym_ rfl h58) fun a72 e => ?_
  clear h58; have h59 := pt_ F e; replace F := pu_ F e; clear e
  refine st_val g3_7_27 rfl (wanted_is (j := 26) (d := 59) rfl rfl h59 rfl) (yl4_ rfl (F.of h2) B1) fun a73 e => ?_
  have h60 := pt_ F e; replace F := pu_ F e; replace h59 := so_ e h59; clear e
  refine st_val g3_7_28 rfl (wanted_is (j := 26) (d := 59) rfl rfl h59 rfl) (yl4_ rfl (F.of h3) B4) fun a74 e => ?_
  have h61 := pt_ F e; replace F := pu_ F e; replace h59 := so_ e h59; replace h60 := so_ e h60; clear e
  refine st_call g3_7_29 rfl (wanted_is (j := 26) (d := 59) rfl rfl h59 rfl) (yc2_ en3_21 rfl h60 h61) ((variant_sx (z := false) (HT.out.on K1) (HU.out.on K1) (by unfold vtV; rw [HR.out]; rfl)).mono ?_)
  rintro e9 w75 ⟨rfl, kk⟩
  replace K1 := keep_onto K1 kk
  replace B1 := blk_on B1 kk
  replace B4 := blk_on B4 kk
  clear kk
  refine ⟨_, rfl, fun a76 e => ?_⟩
  clear h60 h61; have h62 := pt_ F e; replace F := pu_ F e; replace h59 := so_ e h59; clear e
  have Y : (execOp a76.eval o3_7_30).run Try.prog w75 = .ok (.value (.bool true)) w75 := by unfold o3_7_30; go_simp
  refine st_val g3_7_30 rfl (wanted_is (j := 26) (d := 59) rfl rfl h59 rfl) Y fun a77 e => ?_; clear Y
  clear h62; have h63 := pt_ F e; replace F := pu_ F e; replace h59 := so_ e h59; clear e
  have Y : (execOp a77.eval o3_7_31).run Try.prog w75 = .ok (.value (.bool true)) w75 := by unfold o3_7_31; go_simp
  refine st_val g3_7_31 rfl wf_ Y fun a78 e => ?_; clear Y
  clear h59 h63; have h64 := pt_ F e; replace F := pu_ F e; clear e
  refine st_val g3_7_32 rfl wf_ (ya_ rfl h64) fun a79 e => ?_
  clear h64 h4; have h4 := pt_ F e; replace F := pu_ F e; clear e
  refine st_end ?_
  replace h2 := F.of h2; replace h3 := F.of h3; replace h6 := F.of h6; clear h32; have R := F.r; clear F
  change (Code.ret).wp _ _ _ _
  refine wp_ret ?_
  change bodyPost Try.prog Try.f3 (fun e w' => e = .returned (.bool true) ∧ Keep (fun g => g < W.heap.size) W w') .ret a79 w75
  refine ret_one rfl R h4 ?_
  exact ⟨rfl, K1⟩
set_option maxRecDepth 100000 in
set_option maxHeartbeats 4000000 in
theorem tells_t {W : World} {t u : Tm} {ta ua : Option Addr} {tc uc : Nat} {q : Bool} {f0 : Act} {w0 : World} (R : FrS 159 f0) (h0 : f0.tmps[0]? = some (.agg #[.int .i64 t.k, .string (str t.nm), .int .i64 t.i, .slice ta t.args.length tc])) (h1 : f0.tmps[1]? = some (.agg #[.int .i64 u.k, .string (str u.nm), .int .i64 u.i, .slice ua u.args.length uc])) (K1 : Keep (fun g => g < W.heap.size) W w0)  (HT : Hid (TmAt W.heap.size W t ta tc)) (HU : Hid (TmAt W.heap.size W u ua uc)) (HQ : Hid (u.right = q)) (HR : Hid (t.right = true)) (HLN : Hid (t.tree.vars.length ≤ 2000)) : c3_0.wp Try.prog (bodyPost Try.prog Try.f3 (fun e w' => e = .returned (.bool true) ∧ Keep (fun g => g < W.heap.size) W w')) f0 w0 := by
  refine wp_seq (x := c3_1) (y := c3_2) ?_
  change (Code.region 0 O3_0 false).wp _ _ _ _
  refine reg_in (l := [0, 1, 2]) rfl ?_
  have F : FE_ _ [] f0 f0 := ⟨R, Ag_.refl _⟩; clear R
  have Y : (execOp f0.eval o3_0_0).run Try.prog w0 = .ok (.value (.pointer (some ⟨w0.heap.size, 0, none⟩))) (w0.alloc (.cells #[.int .i64 t.k, .string (str t.nm), .int .i64 t.i, .slice ta t.args.length tc] 24)) := by have r0 := F.of h0; unfold o3_0_0; go_simp
  have B80 := Blk.new w0 24 #[.int .i64 t.k, .string (str t.nm), .int .i64 t.i, .slice ta t.args.length tc]
  obtain ⟨w81, hw⟩ : ∃ x, x = w0.alloc (.cells #[.int .i64 t.k, .string (str t.nm), .int .i64 t.i, .slice ta t.args.length tc] 24) := ⟨_, rfl⟩; rw [← hw] at Y B80
  obtain ⟨b80, hb⟩ : ∃ x, x = w0.heap.size := ⟨_, rfl⟩; rw [← hb] at Y B80
  have LK1_b80 := lk_ hb K1; replace K1 := ka_ hw K1; clear hw hb
  refine st_val g3_0_0 rfl wf_ Y fun a82 e => ?_; clear Y
  have h2 := pt_ F e; replace F := pu_ F e; clear e
  have Y : (execOp a82.eval o3_0_1).run Try.prog w81 = .ok (.value (.pointer (some ⟨w81.heap.size, 0, none⟩))) (w81.alloc (.cells #[.int .i64 u.k, .string (str u.nm), .int .i64 u.i, .slice ua u.args.length uc] 24)) := by have r1 := F.of h1; unfold o3_0_1; go_simp
  have B83 := Blk.new w81 24 #[.int .i64 u.k, .string (str u.nm), .int .i64 u.i, .slice ua u.args.length uc]
  obtain ⟨w84, hw⟩ : ∃ x, x = w81.alloc (.cells #[.int .i64 u.k, .string (str u.nm), .int .i64 u.i, .slice ua u.args.length uc] 24) := ⟨_, rfl⟩; rw [← hw] at Y B83
  obtain ⟨b83, hb⟩ : ∃ x, x = w81.heap.size := ⟨_, rfl⟩; rw [← hb] at Y B83
  have Nb80_b83 := nb_ hb B80; replace B80 := ba_ hw B80; have LK1_b83 := lk_ hb K1; replace K1 := ka_ hw K1; clear hw hb
  refine st_val g3_0_1 rfl wf_ Y fun a85 e => ?_; clear Y
  have h3 := pt_ F e; replace F := pu_ F e; replace h2 := so_ e h2; clear e
  have Y : (execOp a85.eval o3_0_2).run Try.prog w84 = .ok (.value (.bool false)) w84 := by unfold o3_0_2; go_simp
  refine st_val g3_0_2 rfl wf_ Y fun a86 e => ?_; clear Y
  have h4 := pt_ F e; replace F := pu_ F e; replace h2 := so_ e h2; replace h3 := so_ e h3; clear e
  refine st_end ?_
  clear h0; clear h1; have R := F.r; clear F
  change (c3_2).wp _ _ _ _
  refine wp_seq (x := c3_3) (y := c3_10) ?_
  refine wp_seq (x := c3_4) (y := c3_5) ?_
  change (Code.region 1 O3_1 false).wp _ _ _ _
  refine reg_in (l := [0, 1]) rfl ?_
  have F : FE_ _ [] a86 a86 := ⟨R, Ag_.refl _⟩; clear R
  have Y : (execOp a86.eval o3_1_0).run Try.prog w84 = .ok (.enter 13 #[]) w84 := by unfold o3_1_0; go_simp
  refine st_call g3_1_0 rfl wf_ Y ((alive_any (w := w84)).mono ?_); clear Y
  rintro e9 w87 ⟨rfl, kk⟩
  replace K1 := keep_onto K1 kk
  replace B80 := blk_on B80 kk
  replace B83 := blk_on B83 kk
  clear kk
  refine ⟨_, rfl, fun a88 e => ?_⟩
  have h11 := pt_ F e; replace F := pu_ F e; clear e
  have Y : (execOp a88.eval o3_1_1).run Try.prog w87 = .ok (.value (.bool false)) w87 := by unfold o3_1_1; go_simp
  refine st_val g3_1_1 rfl wf_ Y fun a89 e => ?_; clear Y
  clear h11; have h12 := pt_ F e; replace F := pu_ F e; clear e
  refine st_end ?_
  replace h2 := F.of h2; replace h3 := F.of h3; replace h4 := F.of h4; have R := F.r; clear F
  change (c3_5).wp _ _ _ _
  refine wp_cond_false (x := c3_6) (y := Code.skip) (eval_slot h12) ?_
  refine wp_skip ?_
  change (c3_10).wp _ _ _ _
  refine wp_seq (x := c3_11) (y := c3_12) ?_
  change (Code.region 3 O3_3 true).wp _ _ _ _
  have D92 := B80
  have D93 := B83
  have K90 := (Keep.refl (fun g => g < w87.heap.size) w87).drew
  have EK1 := K1
  refine dr_in (S := (fun W => Keep (fun g => g < w87.heap.size) w87 W)) (n := 6) (l := lb_ 6 0) (by kernel_rfl) K90 rfl (by kernel_rfl) ?_
  replace K1 := K1.drew
  replace B80 := B80.drew
  replace B83 := B83.drew
  generalize w87.drew = w91 at K90 K1 B80 B83 ⊢
  have F : FE_ _ [] a89 a89 := ⟨R, Ag_.refl _⟩; clear R
  refine dt_ (i := 0) (l' := (lb_ 6 1)) g3_3_0 rfl ns3_3 wf_ K90 (fun W7 hS => (yl4_ rfl (F.of h2) (D92.keep hS D92.lt))) fun a94 e => ?_
  have h13 := pt_ F e; replace F := pu_ F e; clear e
  refine dt_ (i := 2) (l' := (lb_ 6 5)) g3_3_2 rfl ns3_3 wf_ K90 (fun W7 hS => (yl4_ rfl (F.of h3) (D93.keep hS D93.lt))) fun a95 e => ?_
  have h15 := pt_ F e; replace F := pu_ F e; replace h13 := so_ e h13; clear e
  refine dr_only (i := 1) (fuel := 3) (by kernel_rfl) ?_
  have hcall := refRight_any (HT.out.on K1); rw [HR.out] at hcall
  refine dr_call (l' := (lb_ 6 7)) g3_3_1 rfl (by kernel_rfl) wf_ (yc1_ en3_14 rfl h13) ((hcall).mono ?_)
  rintro e9 w96 ⟨rfl, kk⟩
  replace K1 := keep_onto K1 kk
  replace K90 := keep_onto K90 kk
  replace B80 := blk_on B80 kk
  replace B83 := blk_on B83 kk
  clear kk
  clear hcall
  refine ⟨_, rfl, K90, fun a97 e => ?_⟩
  clear h13; have h14 := pt_ F e; replace F := pu_ F e; replace h15 := so_ e h15; clear e
  refine dr_only (i := 3) (fuel := 2) (by kernel_rfl) ?_
  have hcall := refRight_any (HU.out.on K1); rw [HQ.out] at hcall
  refine dr_call (l' := (lb_ 6 15)) g3_3_3 rfl (by kernel_rfl) wf_ (yc1_ en3_14 rfl h15) ((hcall).mono ?_)
  rintro e9 w98 ⟨rfl, kk⟩
  replace K1 := keep_onto K1 kk
  replace K90 := keep_onto K90 kk
  replace B80 := blk_on B80 kk
  replace B83 := blk_on B83 kk
  clear kk
  clear hcall
  refine ⟨_, rfl, K90, fun a99 e => ?_⟩
  clear h15; have h16 := pt_ F e; replace F := pu_ F e; replace h14 := so_ e h14; clear e
  refine dt_ (i := 4) (l' := (lb_ 6 31)) g3_3_4 rfl ns3_3 wf_ K90 (fun _ _ => (ya_ rfl h14)) fun a100 e => ?_
  clear h14; have h5 := pt_ F e; replace F := pu_ F e; replace h16 := so_ e h16; clear e
  refine dt_ (i := 5) (l' := (lb_ 6 63)) g3_3_5 rfl ns3_3 wf_ K90 (fun _ _ => (ya_ rfl h16)) fun a101 e => ?_
  clear h16; have h6 := pt_ F e; replace F := pu_ F e; replace h5 := so_ e h5; clear e
  refine dr_end (by kernel_rfl) ?_
  replace h2 := F.of h2; replace h3 := F.of h3; replace h4 := F.of h4; clear h12; have R := F.r; clear F
  clear K90 EK1 D92 D93
  change (c3_12).wp _ _ _ _
  refine wp_seq (x := c3_13) (y := c3_20) ?_
  refine wp_seq (x := c3_14) (y := c3_15) ?_
  change (Code.region 4 O3_4 false).wp _ _ _ _
  refine reg_in (l := [0, 1, 2, 3, 4, 5, 6, 7, 8, 9, 10, 11, 12, 13]) rfl ?_
  have F : FE_ _ [] a101 a101 := ⟨R, Ag_.refl _⟩; clear R
  refine st_val g3_4_0 rfl wf_ (yl4_ rfl (F.of h2) B80) fun a102 e => ?_
  have h17 := pt_ F e; replace F := pu_ F e; clear e
  refine st_call g3_4_1 rfl wf_ (yc1_ en3_15 rfl h17) ((check_t (HT.out.on K1) HR.out).mono ?_)
  rintro e9 w103 ⟨rfl, kk⟩
  replace K1 := keep_onto K1 kk
  replace B80 := blk_on B80 kk
  replace B83 := blk_on B83 kk
  clear kk
  refine ⟨_, rfl, fun a104 e => ?_⟩
  clear h17; have h18 := pt_ F e; replace F := pu_ F e; clear e
  have Y : (execOp a104.eval o3_4_2).run Try.prog w103 = .ok (.value (.bool true)) w103 := by unfold o3_4_2; go_simp
  refine st_val g3_4_2 rfl wf_ Y fun a105 e => ?_; clear Y
  clear h18; have h19 := pt_ F e; replace F := pu_ F e; clear e
  refine st_val g3_4_3 rfl wf_ (ym_ rfl (F.of h5)) fun a106 e => ?_
  have h20 := pt_ F e; replace F := pu_ F e; replace h19 := so_ e h19; clear e
  have Y : (execOp a106.eval o3_4_4).run Try.prog w103 = .ok (.value (.bool false)) w103 := by unfold o3_4_4; go_simp
  refine st_val g3_4_4 rfl wf_ Y fun a107 e => ?_; clear Y
  clear h19 h20; have h21 := pt_ F e; replace F := pu_ F e; clear e
  refine st_val g3_4_5 rfl wf_ (ym_ rfl h21) fun a108 e => ?_
  clear h21; have h22 := pt_ F e; replace F := pu_ F e; clear e
  refine st_val g3_4_6 rfl (wanted_is (j := 5) (d := 22) rfl rfl h22 rfl) (ym_ rfl (F.of h5)) fun a109 e => ?_
  have h23 := pt_ F e; replace F := pu_ F e; replace h22 := so_ e h22; clear e
  have Y : (execOp a109.eval o3_4_7).run Try.prog w103 = .ok (.value (.bool false)) w103 := by unfold o3_4_7; go_simp
  refine st_val g3_4_7 rfl (wanted_is (j := 5) (d := 22) rfl rfl h22 rfl) Y fun a110 e => ?_; clear Y
  clear h23; have h24 := pt_ F e; replace F := pu_ F e; replace h22 := so_ e h22; clear e
  refine st_val g3_4_8 rfl (wanted_is (j := 5) (d := 22) rfl rfl h22 rfl) (ym_ rfl h24) fun a111 e => ?_
  clear h24; have h25 := pt_ F e; replace F := pu_ F e; replace h22 := so_ e h22; clear e
  refine st_not g3_4_9 rfl (wanted_is (j := 8) (d := 25) rfl rfl h25 rfl) fun a112 e => ?_
  have h26 := pt_ F e; replace F := pu_ F e; replace h22 := so_ e h22; replace h25 := so_ e h25; clear e
  refine st_not g3_4_10 rfl (wanted_is (j := 8) (d := 25) rfl rfl h25 rfl) fun a113 e => ?_
  clear h26; have h27 := pt_ F e; replace F := pu_ F e; replace h22 := so_ e h22; replace h25 := so_ e h25; clear e
  refine st_not g3_4_11 rfl (wanted_is (j := 8) (d := 25) rfl rfl h25 rfl) fun a114 e => ?_
  clear h27; have h28 := pt_ F e; replace F := pu_ F e; replace h22 := so_ e h22; replace h25 := so_ e h25; clear e
  have Y : (execOp a114.eval o3_4_12).run Try.prog w103 = .ok (.value (.bool false)) w103 := by unfold o3_4_12; go_simp
  refine st_val g3_4_12 rfl (wanted_is (j := 5) (d := 22) rfl rfl h22 rfl) Y fun a115 e => ?_; clear Y
  clear h25 h28; have h29 := pt_ F e; replace F := pu_ F e; replace h22 := so_ e h22; clear e
  have Y : (execOp a115.eval o3_4_13).run Try.prog w103 = .ok (.value (.bool false)) w103 := by unfold o3_4_13; go_simp
  refine st_val g3_4_13 rfl wf_ Y fun a116 e => ?_; clear Y
  clear h22 h29; have h30 := pt_ F e; replace F := pu_ F e; clear e
  refine st_end ?_
  replace h2 := F.of h2; replace h3 := F.of h3; replace h4 := F.of h4; replace h5 := F.of h5; replace h6 := F.of h6; have R := F.r; clear F
  change (c3_15).wp _ _ _ _
  refine wp_cond_false (x := c3_16) (y := Code.skip) (eval_slot h30) ?_
  refine wp_skip ?_
  change (c3_20).wp _ _ _ _
  refine wp_seq (x := c3_21) (y := c3_28) ?_
  refine wp_seq (x := c3_22) (y := c3_23) ?_
  change (Code.region 6 O3_6 false).wp _ _ _ _
  refine reg_in (l := [0, 1]) rfl ?_
  have F : FE_ _ [] a116 a116 := ⟨R, Ag_.refl _⟩; clear R
  refine st_val g3_6_0 rfl wf_ (ym_ rfl (F.of h5)) fun a117 e => ?_
  have h31 := pt_ F e; replace F := pu_ F e; clear e
  have Y : (execOp a117.eval o3_6_1).run Try.prog w103 = .ok (.value (.bool false)) w103 := by unfold o3_6_1; go_simp
  refine st_val g3_6_1 rfl wf_ Y fun a118 e => ?_; clear Y
  clear h31; have h32 := pt_ F e; replace F := pu_ F e; clear e
  refine st_end ?_
  replace h2 := F.of h2; replace h3 := F.of h3; replace h4 := F.of h4; clear h5; replace h6 := F.of h6; clear h30; have R := F.r; clear F
  change (c3_23).wp _ _ _ _
  refine wp_cond_false (x := c3_24) (y := Code.skip) (eval_slot h32) ?_
  refine wp_skip ?_
  change (c3_28).wp _ _ _ _
  refine wp_seq (x := c3_29) (y := c3_30) ?_
  change (Code.region 8 O3_8 true).wp _ _ _ _
  have D121 := B80
  have D122 := B83
  have K119 := (Keep.refl (fun g => g < w103.heap.size) w103).drew
  have EK1 := K1
  refine dr_in (S := (fun W => Keep (fun g => g < w103.heap.size) w103 W)) (n := 6) (l := lb_ 6 0) (by kernel_rfl) K119 rfl (by kernel_rfl) ?_
  replace K1 := K1.drew
  replace B80 := B80.drew
  replace B83 := B83.drew
  generalize w103.drew = w120 at K119 K1 B80 B83 ⊢
  have F : FE_ _ [] a118 a118 := ⟨R, Ag_.refl _⟩; clear R
  refine dt_ (i := 0) (l' := (lb_ 6 1)) g3_8_0 rfl ns3_8 wf_ K119 (fun W7 hS => (yl4_ rfl (F.of h2) (D121.keep hS D121.lt))) fun a123 e => ?_
  have h65 := pt_ F e; replace F := pu_ F e; clear e
  refine dt_ (i := 2) (l' := (lb_ 6 5)) g3_8_2 rfl ns3_8 wf_ K119 (fun W7 hS => (yl4_ rfl (F.of h2) (D121.keep hS D121.lt))) fun a124 e => ?_
  have h67 := pt_ F e; replace F := pu_ F e; replace h65 := so_ e h65; clear e
  refine dr_only (i := 1) (fuel := 3) (by kernel_rfl) ?_
  have OK1_1 : W.heap.size ≤ w120.heap.size := K1.size
  have OK119_1 : w103.heap.size ≤ w120.heap.size := K119.size
  have Eb80 : b80 < w120.heap.size := B80.lt
  have Eb83 : b83 < w120.heap.size := B83.lt
  refine dr_call (l' := (lb_ 6 7)) g3_8_1 rfl (by kernel_rfl) wf_ (yc1_ en3_18 rfl h65) ((vars_row (HT.out.on K1) (l := t.tree.vars) (by rw [vaV, if_pos HR.out])).mono ?_)
  rintro e9 w125 ⟨va1, vc1, rfl, hr, kk⟩
  replace K1 := keep_onto K1 kk
  replace K119 := keep_onto K119 kk
  replace B80 := blk_on B80 kk
  replace B83 := blk_on B83 kk
  clear kk
  have HV1 := Lib.hid hr.1; clear hr
  have KA1 := Keep.refl (fun g => w120.heap.size ≤ g ∧ g < w125.heap.size) w125
  refine ⟨_, rfl, K119, fun a126 e => ?_⟩
  clear h65; have h66 := pt_ F e; replace F := pu_ F e; replace h67 := so_ e h67; clear e
  refine dr_only (i := 3) (fuel := 2) (by kernel_rfl) ?_
  have OK1_2 : W.heap.size ≤ w125.heap.size := K1.size
  have OK119_2 : w103.heap.size ≤ w125.heap.size := K119.size
  have OKA1_2 : w125.heap.size ≤ w125.heap.size := KA1.size
  refine dr_call (l' := (lb_ 6 15)) g3_8_3 rfl (by kernel_rfl) wf_ (yc1_ en3_18 rfl h67) ((vars_row (HT.out.on K1) (l := t.tree.vars) (by rw [vaV, if_pos HR.out])).mono ?_)
  rintro e9 w127 ⟨va2, vc2, rfl, hr, kk⟩
  replace K1 := keep_onto K1 kk
  replace K119 := keep_onto K119 kk
  replace KA1 := KA1.trans kk.all
  replace B80 := blk_on B80 kk
  replace B83 := blk_on B83 kk
  clear kk
  have HV2 := Lib.hid hr.1; clear hr
  have KA2 := Keep.refl (fun g => w125.heap.size ≤ g ∧ g < w127.heap.size) w127
  refine ⟨_, rfl, K119, fun a128 e => ?_⟩
  clear h67; have h68 := pt_ F e; replace F := pu_ F e; replace h66 := so_ e h66; clear e
  refine dt_ (i := 4) (l' := (lb_ 6 31)) g3_8_4 rfl ns3_8 wf_ K119 (fun _ _ => (ya_ rfl h66)) fun a129 e => ?_
  clear h66; have h7 := pt_ F e; replace F := pu_ F e; replace h68 := so_ e h68; clear e
  refine dt_ (i := 5) (l' := (lb_ 6 63)) g3_8_5 rfl ns3_8 wf_ K119 (fun _ _ => (ya_ rfl h68)) fun a130 e => ?_
  clear h68; have h8 := pt_ F e; replace F := pu_ F e; replace h7 := so_ e h7; clear e
  refine dr_end (by kernel_rfl) ?_
  replace h2 := F.of h2; replace h3 := F.of h3; replace h4 := F.of h4; replace h6 := F.of h6; clear h32; have R := F.r; clear F
  clear K119 EK1 D121 D122
  change (c3_30).wp _ _ _ _
  refine wp_seq (x := c3_31) (y := c3_38) ?_
  refine wp_seq (x := c3_32) (y := c3_33) ?_
  change (Code.region 9 O3_9 true).wp _ _ _ _
  have D133 := B80
  have D134 := B83
  have K131 := (Keep.refl (fun g => g < w127.heap.size) w127).drew
  have EK1 := K1
  have EKA1 := KA1
  have EKA2 := KA2
  refine dr_in (S := (fun W => Keep (fun g => g < w127.heap.size) w127 W)) (n := 19) (l := lb_ 19 0) (by kernel_rfl) K131 rfl (by kernel_rfl) ?_
  replace K1 := K1.drew
  replace KA1 := KA1.drew
  replace KA2 := KA2.drew
  replace B80 := B80.drew
  replace B83 := B83.drew
  generalize w127.drew = w132 at K131 K1 KA1 KA2 B80 B83 ⊢
  have F : FE_ _ [] a130 a130 := ⟨R, Ag_.refl _⟩; clear R
  refine dt_ (i := 0) (l' := (lb_ 19 1)) g3_9_0 rfl ns3_9 wf_ K131 (fun W7 hS => (yl4_ rfl (F.of h2) (D133.keep hS D133.lt))) fun a135 e => ?_
  have h69 := pt_ F e; replace F := pu_ F e; clear e
  refine dt_ (i := 2) (l' := (lb_ 19 5)) g3_9_2 rfl ns3_9 wf_ K131 (fun W7 hS => (yl4_ rfl (F.of h2) (D133.keep hS D133.lt))) fun a136 e => ?_
  have h71 := pt_ F e; replace F := pu_ F e; replace h69 := so_ e h69; clear e
  refine dr_only (i := 1) (fuel := 16) (by kernel_rfl) ?_
  refine dr_call (l' := (lb_ 19 7)) g3_9_1 rfl (by kernel_rfl) wf_ (yc1_ en3_16 rfl h69) ((size_sx (z := (t.ns : Int)) (HT.out.on K1) (Tm.size_right HR.out)).mono ?_)
  rintro e9 w137 ⟨rfl, kk⟩
  replace K1 := keep_onto K1 kk
  replace KA1 := KA1.trans kk.all
  replace KA2 := KA2.trans kk.all
  replace K131 := keep_onto K131 kk
  replace B80 := blk_on B80 kk
  replace B83 := blk_on B83 kk
  clear kk
  refine ⟨_, rfl, K131, fun a138 e => ?_⟩
  clear h69; have h70 := pt_ F e; replace F := pu_ F e; replace h71 := so_ e h71; clear e
  refine dr_only (i := 3) (fuel := 15) (by kernel_rfl) ?_
  have Y : (execOp a138.eval o3_9_3).run Try.prog w137 = .ok (.enter 22 #[.agg #[.int .i64 t.k, .string (str t.nm), .int .i64 t.i, .slice ta t.args.length tc], .int .i64 3000]) w137 := by unfold o3_9_3; go_simp
  refine dr_call (l' := (lb_ 19 15)) g3_9_3 rfl (by kernel_rfl) wf_ Y ((refsize_sx (m := 3000) (z := (t.ns : Int)) (HT.out.on K1) (by decide) (by rfl) (by rw [Nat.min_eq_left (by have := (right_of.1 HR.out).2.1; omega)])).mono ?_); clear Y
  rintro e9 w139 ⟨rfl, kk⟩
  replace K1 := keep_onto K1 kk
  replace KA1 := KA1.trans kk.all
  replace KA2 := KA2.trans kk.all
  replace K131 := keep_onto K131 kk
  replace B80 := blk_on B80 kk
  replace B83 := blk_on B83 kk
  clear kk
  refine ⟨_, rfl, K131, fun a140 e => ?_⟩
  clear h71; have h72 := pt_ F e; replace F := pu_ F e; replace h70 := so_ e h70; clear e
  have Y : ∀ W, Keep (fun g => g < w127.heap.size) w127 W → (execOp a140.eval o3_9_4).run Try.prog W = .ok (.value (.bool false)) W := by intro W7 hS; unfold o3_9_4; go_simp
  refine dt_ (i := 4) (l' := (lb_ 19 31)) g3_9_4 rfl ns3_9 wf_ K131 Y fun a141 e => ?_; clear Y
  clear h70 h72; have h73 := pt_ F e; replace F := pu_ F e; clear e
  refine dt_ (i := 5) (l' := (lb_ 19 63)) g3_9_5 rfl ns3_9 wf_ K131 (fun _ _ => (ym_ rfl h73)) fun a142 e => ?_
  clear h73; have h74 := pt_ F e; replace F := pu_ F e; clear e
  refine dt_ (i := 6) (l' := (lb_ 19 127)) g3_9_6 rfl ns3_9 (wanted_is (j := 5) (d := 74) rfl rfl h74 rfl) K131 (fun W7 hS => (yl4_ rfl (F.of h2) (D133.keep hS D133.lt))) fun a143 e => ?_
  have h75 := pt_ F e; replace F := pu_ F e; replace h74 := so_ e h74; clear e
  refine dt_ (i := 8) (l' := (lb_ 19 383)) g3_9_8 rfl ns3_9 (wanted_is (j := 5) (d := 74) rfl rfl h74 rfl) K131 (fun W7 hS => (yl4_ rfl (F.of h2) (D133.keep hS D133.lt))) fun a144 e => ?_
  have h77 := pt_ F e; replace F := pu_ F e; replace h74 := so_ e h74; replace h75 := so_ e h75; clear e
  refine dr_only (i := 7) (fuel := 10) (by kernel_rfl) ?_
  refine dr_call (l' := (lb_ 19 511)) g3_9_7 rfl (by kernel_rfl) (wanted_is (j := 5) (d := 74) rfl rfl h74 rfl) (yc1_ en3_17 rfl h75) ((depth_sx (z := (t.nd : Int)) (HT.out.on K1) (Tm.depth_right HR.out)).mono ?_)
  rintro e9 w145 ⟨rfl, kk⟩
  replace K1 := keep_onto K1 kk
  replace KA1 := KA1.trans kk.all
  replace KA2 := KA2.trans kk.all
  replace K131 := keep_onto K131 kk
  replace B80 := blk_on B80 kk
  replace B83 := blk_on B83 kk
  clear kk
  refine ⟨_, rfl, K131, fun a146 e => ?_⟩
  clear h75; have h76 := pt_ F e; replace F := pu_ F e; replace h74 := so_ e h74; replace h77 := so_ e h77; clear e
  refine dr_only (i := 9) (fuel := 9) (by kernel_rfl) ?_
  have Y : (execOp a146.eval o3_9_9).run Try.prog w145 = .ok (.enter 23 #[.agg #[.int .i64 t.k, .string (str t.nm), .int .i64 t.i, .slice ta t.args.length tc], .int .i64 200]) w145 := by unfold o3_9_9; go_simp
  refine dr_call (l' := (lb_ 19 1023)) g3_9_9 rfl (by kernel_rfl) (wanted_is (j := 5) (d := 74) rfl rfl h74 rfl) Y ((refdepth_sx (m := 200) (z := (t.nd : Int)) (HT.out.on K1) (by decide) (by rfl) (by rw [rd_eq 200 t (by have := (right_of.1 HR.out).2.2; omega)])).mono ?_); clear Y
  rintro e9 w147 ⟨rfl, kk⟩
  replace K1 := keep_onto K1 kk
  replace KA1 := KA1.trans kk.all
  replace KA2 := KA2.trans kk.all
  replace K131 := keep_onto K131 kk
  replace B80 := blk_on B80 kk
  replace B83 := blk_on B83 kk
  clear kk
  refine ⟨_, rfl, K131, fun a148 e => ?_⟩
  clear h77; have h78 := pt_ F e; replace F := pu_ F e; replace h74 := so_ e h74; replace h76 := so_ e h76; clear e
  have Y : ∀ W, Keep (fun g => g < w127.heap.size) w127 W → (execOp a148.eval o3_9_10).run Try.prog W = .ok (.value (.bool false)) W := by intro W7 hS; unfold o3_9_10; go_simp
  refine dt_ (i := 10) (l' := (lb_ 19 2047)) g3_9_10 rfl ns3_9 (wanted_is (j := 5) (d := 74) rfl rfl h74 rfl) K131 Y fun a149 e => ?_; clear Y
  clear h76 h78; have h79 := pt_ F e; replace F := pu_ F e; replace h74 := so_ e h74; clear e
  have Y : ∀ W, Keep (fun g => g < w127.heap.size) w127 W → (execOp a149.eval o3_9_11).run Try.prog W = .ok (.value (.bool false)) W := by intro W7 hS; unfold o3_9_11; go_simp
  refine dt_ (i := 11) (l' := (lb_ 19 4095)) g3_9_11 rfl ns3_9 wf_ K131 Y fun a150 e => ?_; clear Y
  clear h74 h79; have h80 := pt_ F e; replace F := pu_ F e; clear e
  refine dt_ (i := 12) (l' := (lb_ 19 8191)) g3_9_12 rfl ns3_9 wf_ K131 (fun _ _ => (ym_ rfl h80)) fun a151 e => ?_
  clear h80; have h81 := pt_ F e; replace F := pu_ F e; clear e
  refine dt_ (i := 13) (l' := (lb_ 19 16383)) g3_9_13 rfl ns3_9 (wanted_is (j := 12) (d := 81) rfl rfl h81 rfl) K131 (fun _ _ => (ym_ rfl (F.of h7))) fun a152 e => ?_
  have h82 := pt_ F e; replace F := pu_ F e; replace h81 := so_ e h81; clear e
  refine dt_ (i := 14) (l' := (lb_ 19 32767)) g3_9_14 rfl ns3_9 (wanted_is (j := 12) (d := 81) rfl rfl h81 rfl) K131 (fun W7 hS => (yl4_ rfl (F.of h2) (D133.keep hS D133.lt))) fun a153 e => ?_
  have h83 := pt_ F e; replace F := pu_ F e; replace h81 := so_ e h81; replace h82 := so_ e h82; clear e
  refine dr_only (i := 15) (fuel := 3) (by kernel_rfl) ?_
  refine dr_call (l' := (lb_ 19 65535)) g3_9_15 rfl (by kernel_rfl) (wanted_is (j := 12) (d := 81) rfl rfl h81 rfl) (yc1_ en3_25 rfl h83) ((refVars_any (HT.out.on K1) (right_of.1 HR.out).1 (by have := (right_of.1 HR.out).2.1; omega)).mono ?_)
  rintro e9 w154 ⟨va3, vc3, rfl, hr, kk⟩
  replace K1 := keep_onto K1 kk
  replace KA1 := KA1.trans kk.all
  replace KA2 := KA2.trans kk.all
  replace K131 := keep_onto K131 kk
  replace B80 := blk_on B80 kk
  replace B83 := blk_on B83 kk
  clear kk
  have HV3 := Lib.hid hr; clear hr
  have KA3 := Keep.refl (fun g => g < w154.heap.size) w154
  refine ⟨_, rfl, K131, fun a155 e => ?_⟩
  clear h83; have h84 := pt_ F e; replace F := pu_ F e; replace h81 := so_ e h81; replace h82 := so_ e h82; clear e
  refine dr_only (i := 16) (fuel := 2) (by kernel_rfl) ?_
  refine dr_call (l' := (lb_ 19 131071)) g3_9_16 rfl (by kernel_rfl) (wanted_is (j := 12) (d := 81) rfl rfl h81 rfl) (yc2_ en3_24 rfl h82 h84) ((samerows_sx (rowK HV1.out KA1) (row_kept HV3.out KA3) (by have := HLN.out; omega)).mono ?_)
  rintro e9 w156 ⟨rfl, kk⟩
  replace K1 := keep_onto K1 kk
  replace KA1 := KA1.trans kk.all
  replace KA2 := KA2.trans kk.all
  replace K131 := keep_onto K131 kk
  replace KA3 := keep_onto KA3 kk
  replace B80 := blk_on B80 kk
  replace B83 := blk_on B83 kk
  clear kk
  refine ⟨_, rfl, K131, fun a157 e => ?_⟩
  clear h82 h84; have h85 := pt_ F e; replace F := pu_ F e; replace h81 := so_ e h81; clear e
  have Y : ∀ W, Keep (fun g => g < w127.heap.size) w127 W → (execOp a157.eval o3_9_17).run Try.prog W = .ok (.value (.bool false)) W := by intro W7 hS; unfold o3_9_17; go_simp
  refine dt_ (i := 17) (l' := (lb_ 19 262143)) g3_9_17 rfl ns3_9 (wanted_is (j := 12) (d := 81) rfl rfl h81 rfl) K131 Y fun a158 e => ?_; clear Y
  clear h85; have h86 := pt_ F e; replace F := pu_ F e; replace h81 := so_ e h81; clear e
  have Y : ∀ W, Keep (fun g => g < w127.heap.size) w127 W → (execOp a158.eval o3_9_18).run Try.prog W = .ok (.value (.bool false)) W := by intro W7 hS; unfold o3_9_18; go_simp
  refine dt_ (i := 18) (l' := (lb_ 19 524287)) g3_9_18 rfl ns3_9 wf_ K131 Y fun a159 e => ?_; clear Y
  clear h81 h86; have h87 := pt_ F e; replace F := pu_ F e; clear e
  refine dr_end (by kernel_rfl) ?_
  replace h2 := F.of h2; replace h3 := F.of h3; replace h4 := F.of h4; replace h6 := F.of h6; replace h7 := F.of h7; replace h8 := F.of h8; have R := F.r; clear F
  clear K131 EK1 EKA1 EKA2 D133 D134
  change (c3_33).wp _ _ _ _
  refine wp_cond_false (x := c3_34) (y := Code.skip) (eval_slot h87) ?_
  refine wp_skip ?_
  change (c3_38).wp _ _ _ _
  refine wp_seq (x := c3_39) (y := c3_55) ?_
  refine wp_seq (x := c3_40) (y := c3_41) ?_
  change (Code.region 11 O3_11 false).wp _ _ _ _
  refine reg_in (l := [0, 1, 2]) rfl ?_
  have F : FE_ _ [] a159 a159 := ⟨R, Ag_.refl _⟩; clear R
  refine st_val g3_11_0 rfl wf_ (ym_ rfl (F.of h7)) fun a160 e => ?_
  have h88 := pt_ F e; replace F := pu_ F e; clear e
  have Y : (execOp a160.eval o3_11_1).run Try.prog w156 = .ok (.value (.int .i64 t.tree.vars.length)) w156 := by unfold o3_11_1; go_simp
  refine st_val g3_11_1 rfl wf_ Y fun a161 e => ?_; clear Y
  clear h88; have h89 := pt_ F e; replace F := pu_ F e; clear e
  have Y : (execOp a161.eval o3_11_2).run Try.prog w156 = .ok (.value (.int .i64 0)) w156 := by unfold o3_11_2; go_simp
  refine st_val g3_11_2 rfl wf_ Y fun a162 e => ?_; clear Y
  have h90 := pt_ F e; replace F := pu_ F e; replace h89 := so_ e h89; clear e
  refine st_end ?_
  replace h2 := F.of h2; replace h3 := F.of h3; replace h4 := F.of h4; replace h6 := F.of h6; replace h7 := F.of h7; replace h8 := F.of h8; clear h87; have R := F.r; clear F
  change (c3_41).wp _ _ _ _
  refine wp_block (id := 0) (c := c3_42) ?_
  have HIB := Lib.hid ((ibl_of HV1.out).on KA1 (fun g h1 h2 => ⟨h1, h2⟩)); clear KA1 KA3
  refine wp_loop_ghost (c := c3_43) (fun n fX wX => ∃ i : Nat, n = t.tree.vars.length - i ∧ FrS 159 fX ∧ fX.tmps[2]? = some (.pointer (some ⟨b80, 0, none⟩)) ∧ fX.tmps[3]? = some (.pointer (some ⟨b83, 0, none⟩)) ∧ fX.tmps[4]? = some (.bool false) ∧ fX.tmps[6]? = some (.bool q) ∧ fX.tmps[7]? = some (.slice va1 t.tree.vars.length vc1) ∧ fX.tmps[8]? = some (.slice va2 t.tree.vars.length vc2) ∧ fX.tmps[89]? = some (.int .i64 t.tree.vars.length) ∧ fX.tmps[90]? = some (.int .i64 (i : Int)) ∧ Keep (fun g => g < W.heap.size) W wX ∧ Keep (fun g => w125.heap.size ≤ g ∧ g < w127.heap.size) w127 wX ∧ Blk wX b80 24 #[.int .i64 t.k, .string (str t.nm), .int .i64 t.i, .slice ta t.args.length tc] ∧ Blk wX b83 24 #[.int .i64 u.k, .string (str u.nm), .int .i64 u.i, .slice ua u.args.length uc] ∧ i ≤ t.tree.vars.length ∧ Hid (IBl wX w120.heap.size w125.heap.size va1 t.tree.vars.length)) (t.tree.vars.length - 0) ⟨0, rfl, R, h2, h3, h4, h6, h7, h8, h89, h90, K1, KA2, B80, B83, Nat.zero_le _, HIB⟩ ?_
  clear R h2 h3 h4 h6 h7 h8 h89 h90 K1 KA2 B80 B83
  rintro n165 a163 w164 ⟨i, rfl, R, h2, h3, h4, h6, h7, h8, h89, h90, K1, KA2, B80, B83, hi, HIB⟩
  have hl8 := HLN.out
  refine wp_seq (x := c3_44) (y := c3_45) ?_
  change (Code.region 12 O3_12 false).wp _ _ _ _
  refine reg_in (l := [0]) rfl ?_
  have F : FE_ _ [] a163 a163 := ⟨R, Ag_.refl _⟩; clear R
  obtain ⟨b166, hb166⟩ : ∃ x, (decide ((i : Int) < (t.tree.vars.length : Int))) = x := ⟨_, rfl⟩
  have Y : (execOp a163.eval o3_12_0).run Try.prog w164 = .ok (.value (.bool b166)) w164 := by have r89 := F.of h89; have r90 := F.of h90; rw [← hb166]; unfold o3_12_0; go_simp
  refine st_val g3_12_0 rfl wf_ Y fun a167 e => ?_; clear Y
  have h91 := pt_ F e; replace F := pu_ F e; clear e
  refine st_end ?_
  replace h2 := F.of h2; replace h3 := F.of h3; replace h4 := F.of h4; replace h6 := F.of h6; replace h7 := F.of h7; replace h8 := F.of h8; replace h89 := F.of h89; replace h90 := F.of h90; have R := F.r; clear F
  change (c3_45).wp _ _ _ _
  refine wp_seq (x := c3_46) (y := c3_49) ?_
  cases b166 with
  | false =>
    have fb166 := hb166; clear hb166
    simp only [decide_eq_true_eq, decide_eq_false_iff_not, bne_iff_ne, bne_eq_false_iff_eq, beq_iff_eq, beq_eq_false_iff_ne, ne_eq, Bool.not_eq_true', Bool.not_eq_false', Bool.not_eq_eq_eq_not, Bool.not_true, Bool.not_false] at fb166
    refine wp_cond_false (x := Code.skip) (y := c3_48) (eval_slot h91) ?_
    refine wp_exit ?_
    change (c3_55).wp _ _ _ _
    refine wp_seq (x := c3_56) (y := c3_63) ?_
    refine wp_seq (x := c3_57) (y := c3_58) ?_
    change (Code.region 16 O3_16 false).wp _ _ _ _
    refine reg_in (l := [0, 1, 2, 3, 4]) rfl ?_
    have F : FE_ _ [] a167 a167 := ⟨R, Ag_.refl _⟩; clear R
    refine st_val g3_16_0 rfl wf_ (ym_ rfl (F.of h8)) fun a168 e => ?_
    have h97 := pt_ F e; replace F := pu_ F e; clear e
    refine st_val g3_16_1 rfl wf_ (yl4_ rfl (F.of h2) B80) fun a169 e => ?_
    have h98 := pt_ F e; replace F := pu_ F e; replace h97 := so_ e h97; clear e
    refine st_call g3_16_2 rfl wf_ (yc1_ en3_25 rfl h98) ((refVars_any (HT.out.on K1) (right_of.1 HR.out).1 (by have := (right_of.1 HR.out).2.1; omega)).mono ?_)
    rintro e9 w170 ⟨va4, vc4, rfl, hr, kk⟩
    replace K1 := keep_onto K1 kk
    replace KA2 := KA2.trans kk.all
    replace B80 := blk_on B80 kk
    replace B83 := blk_on B83 kk
    clear kk
    have HV4 := Lib.hid hr; clear hr
    have KA4 := Keep.refl (fun g => g < w170.heap.size) w170
    refine ⟨_, rfl, fun a171 e => ?_⟩
    clear h98; have h99 := pt_ F e; replace F := pu_ F e; replace h97 := so_ e h97; clear e
    refine st_call g3_16_3 rfl wf_ (yc2_ en3_24 rfl h97 h99) ((samerows_sx (rowK HV2.out KA2) (row_kept HV4.out KA4) (by have := HLN.out; omega)).mono ?_)
    rintro e9 w172 ⟨rfl, kk⟩
    replace K1 := keep_onto K1 kk
    replace KA2 := KA2.trans kk.all
    replace KA4 := keep_onto KA4 kk
    replace B80 := blk_on B80 kk
    replace B83 := blk_on B83 kk
    clear kk
    refine ⟨_, rfl, fun a173 e => ?_⟩
    clear h97 h99; have h100 := pt_ F e; replace F := pu_ F e; clear e
    have Y : (execOp a173.eval o3_16_4).run Try.prog w172 = .ok (.value (.bool false)) w172 := by unfold o3_16_4; go_simp
    refine st_val g3_16_4 rfl wf_ Y fun a174 e => ?_; clear Y
    clear h100; have h101 := pt_ F e; replace F := pu_ F e; clear e
    refine st_end ?_
    replace h2 := F.of h2; replace h3 := F.of h3; replace h4 := F.of h4; replace h6 := F.of h6; replace h7 := F.of h7; clear h8; replace h89 := F.of h89; replace h90 := F.of h90; replace h91 := F.of h91; have R := F.r; clear F
    change (c3_58).wp _ _ _ _
    refine wp_cond_false (x := c3_59) (y := Code.skip) (eval_slot h101) ?_
    refine wp_skip ?_
    change (c3_63).wp _ _ _ _
    refine wp_seq (x := c3_64) (y := c3_71) ?_
    refine wp_seq (x := c3_65) (y := c3_66) ?_
    change (Code.region 18 O3_18 false).wp _ _ _ _
    refine reg_in (l := [0, 1]) rfl ?_
    have F : FE_ _ [] a174 a174 := ⟨R, Ag_.refl _⟩; clear R
    refine st_val g3_18_0 rfl wf_ (ym_ rfl (F.of h6)) fun a175 e => ?_
    have h102 := pt_ F e; replace F := pu_ F e; clear e
    cases q with
    | false =>
      have Y : (execOp a175.eval o3_18_1).run Try.prog w172 = .ok (.value (.bool true)) w172 := by unfold o3_18_1; go_simp
      refine st_val g3_18_1 rfl wf_ Y fun a176 e => ?_; clear Y
      clear h102; have h103 := pt_ F e; replace F := pu_ F e; clear e
      refine st_end ?_
      replace h2 := F.of h2; replace h3 := F.of h3; replace h4 := F.of h4; clear h6; replace h7 := F.of h7; replace h89 := F.of h89; replace h90 := F.of h90; replace h91 := F.of h91; clear h101; have R := F.r; clear F
      change (c3_66).wp _ _ _ _
      refine wp_cond_true (x := c3_67) (y := Code.skip) (eval_slot h103) ?_
      refine wp_seq (x := c3_68) (y := Code.ret) ?_
      change (Code.region 19 O3_19 false).wp _ _ _ _
      refine reg_in (l := [0, 1, 2, 3, 4, 5, 6, 7, 8, 9, 10, 11, 12, 13, 14, 15, 16, 17, 18, 19, 20, 21, 22]) rfl ?_
      have F : FE_ _ [] a176 a176 := ⟨R, Ag_.refl _⟩; clear R
      refine st_val g3_19_0 rfl wf_ (yl4_ rfl (F.of h2) B80) fun a177 e => ?_
      have h104 := pt_ F e; replace F := pu_ F e; clear e
      refine st_val g3_19_1 rfl wf_ (yl4_ rfl (F.of h3) B83) fun a178 e => ?_
      have h105 := pt_ F e; replace F := pu_ F e; replace h104 := so_ e h104; clear e
      refine st_call g3_19_2 rfl wf_ (yc2_ en3_19 rfl h104 h105) ((same_sx (z := false) (HT.out.on K1) (HU.out.on K1) (by unfold sameV; rw [HQ.out]; simp)).mono ?_)
      rintro e9 w179 ⟨rfl, kk⟩
      replace K1 := keep_onto K1 kk
      replace KA2 := KA2.trans kk.all
      replace KA4 := keep_onto KA4 kk
      replace B80 := blk_on B80 kk
      replace B83 := blk_on B83 kk
      clear kk
      refine ⟨_, rfl, fun a180 e => ?_⟩
      clear h104 h105; have h106 := pt_ F e; replace F := pu_ F e; clear e
      have Y : (execOp a180.eval o3_19_3).run Try.prog w179 = .ok (.value (.bool true)) w179 := by unfold o3_19_3; go_simp
      refine st_val g3_19_3 rfl wf_ Y fun a181 e => ?_; clear Y
      clear h106; have h107 := pt_ F e; replace F := pu_ F e; clear e
      refine st_val g3_19_4 rfl wf_ (ym_ rfl h107) fun a182 e => ?_
      clear h107; have h108 := pt_ F e; replace F := pu_ F e; clear e
      refine st_val g3_19_5 rfl (wanted_is (j := 4) (d := 108) rfl rfl h108 rfl) (yl4_ rfl (F.of h3) B83) fun a183 e => ?_
      have h109 := pt_ F e; replace F := pu_ F e; replace h108 := so_ e h108; clear e
      refine st_val g3_19_6 rfl (wanted_is (j := 4) (d := 108) rfl rfl h108 rfl) (yl4_ rfl (F.of h2) B80) fun a184 e => ?_
      have h110 := pt_ F e; replace F := pu_ F e; replace h108 := so_ e h108; replace h109 := so_ e h109; clear e
      refine st_call g3_19_7 rfl (wanted_is (j := 4) (d := 108) rfl rfl h108 rfl) (yc2_ en3_19 rfl h109 h110) ((same_sx (z := false) (HU.out.on K1) (HT.out.on K1) (by unfold sameV; rw [HQ.out]; simp)).mono ?_)
      rintro e9 w185 ⟨rfl, kk⟩
      replace K1 := keep_onto K1 kk
      replace KA2 := KA2.trans kk.all
      replace KA4 := keep_onto KA4 kk
      replace B80 := blk_on B80 kk
      replace B83 := blk_on B83 kk
      clear kk
      refine ⟨_, rfl, fun a186 e => ?_⟩
      clear h109 h110; have h111 := pt_ F e; replace F := pu_ F e; replace h108 := so_ e h108; clear e
      have Y : (execOp a186.eval o3_19_8).run Try.prog w185 = .ok (.value (.bool true)) w185 := by unfold o3_19_8; go_simp
      refine st_val g3_19_8 rfl (wanted_is (j := 4) (d := 108) rfl rfl h108 rfl) Y fun a187 e => ?_; clear Y
      clear h111; have h112 := pt_ F e; replace F := pu_ F e; replace h108 := so_ e h108; clear e
      have Y : (execOp a187.eval o3_19_9).run Try.prog w185 = .ok (.value (.bool true)) w185 := by unfold o3_19_9; go_simp
      refine st_val g3_19_9 rfl wf_ Y fun a188 e => ?_; clear Y
      clear h108 h112; have h113 := pt_ F e; replace F := pu_ F e; clear e
      refine st_val g3_19_10 rfl wf_ (ym_ rfl h113) fun a189 e => ?_
      clear h113; have h114 := pt_ F e; replace F := pu_ F e; clear e
      refine st_val g3_19_11 rfl (wanted_is (j := 10) (d := 114) rfl rfl h114 rfl) (yl4_ rfl (F.of h3) B83) fun a190 e => ?_
      have h115 := pt_ F e; replace F := pu_ F e; replace h114 := so_ e h114; clear e
      refine st_val g3_19_12 rfl (wanted_is (j := 10) (d := 114) rfl rfl h114 rfl) (yl4_ rfl (F.of h2) B80) fun a191 e => ?_
      have h116 := pt_ F e; replace F := pu_ F e; replace h114 := so_ e h114; replace h115 := so_ e h115; clear e
      refine st_call g3_19_13 rfl (wanted_is (j := 10) (d := 114) rfl rfl h114 rfl) (yc2_ en3_20 rfl h115 h116) ((order_sx (z := 0) (HU.out.on K1) (HT.out.on K1) (by unfold ordV; rw [HQ.out]; simp)).mono ?_)
      rintro e9 w192 ⟨rfl, kk⟩
      replace K1 := keep_onto K1 kk
      replace KA2 := KA2.trans kk.all
      replace KA4 := keep_onto KA4 kk
      replace B80 := blk_on B80 kk
      replace B83 := blk_on B83 kk
      clear kk
      refine ⟨_, rfl, fun a193 e => ?_⟩
      clear h115 h116; have h117 := pt_ F e; replace F := pu_ F e; replace h114 := so_ e h114; clear e
      have Y : (execOp a193.eval o3_19_14).run Try.prog w192 = .ok (.value (.bool true)) w192 := by unfold o3_19_14; go_simp
      refine st_val g3_19_14 rfl (wanted_is (j := 10) (d := 114) rfl rfl h114 rfl) Y fun a194 e => ?_; clear Y
      clear h117; have h118 := pt_ F e; replace F := pu_ F e; replace h114 := so_ e h114; clear e
      have Y : (execOp a194.eval o3_19_15).run Try.prog w192 = .ok (.value (.bool true)) w192 := by unfold o3_19_15; go_simp
      refine st_val g3_19_15 rfl wf_ Y fun a195 e => ?_; clear Y
      clear h114 h118; have h119 := pt_ F e; replace F := pu_ F e; clear e
      refine st_val g3_19_16 rfl wf_ (ym_ rfl h119) fun a196 e => ?_
      clear h119; have h120 := pt_ F e; replace F := pu_ F e; clear e
      refine st_val g3_19_17 rfl (wanted_is (j := 16) (d := 120) rfl rfl h120 rfl) (yl4_ rfl (F.of h2) B80) fun a197 e => ?_
      have h121 := pt_ F e; replace F := pu_ F e; replace h120 := so_ e h120; clear e
      refine st_val g3_19_18 rfl (wanted_is (j := 16) (d := 120) rfl rfl h120 rfl) (yl4_ rfl (F.of h3) B83) fun a198 e => ?_
      have h122 := pt_ F e; replace F := pu_ F e; replace h120 := so_ e h120; replace h121 := so_ e h121; clear e
      refine st_call g3_19_19 rfl (wanted_is (j := 16) (d := 120) rfl rfl h120 rfl) (yc2_ en3_21 rfl h121 h122) ((variant_sx (z := false) (HT.out.on K1) (HU.out.on K1) (by unfold vtV; rw [HQ.out]; simp)).mono ?_)
      rintro e9 w199 ⟨rfl, kk⟩
      replace K1 := keep_onto K1 kk
      replace KA2 := KA2.trans kk.all
      replace KA4 := keep_onto KA4 kk
      replace B80 := blk_on B80 kk
      replace B83 := blk_on B83 kk
      clear kk
      refine ⟨_, rfl, fun a200 e => ?_⟩
      clear h121 h122; have h123 := pt_ F e; replace F := pu_ F e; replace h120 := so_ e h120; clear e
      have Y : (execOp a200.eval o3_19_20).run Try.prog w199 = .ok (.value (.bool true)) w199 := by unfold o3_19_20; go_simp
      refine st_val g3_19_20 rfl (wanted_is (j := 16) (d := 120) rfl rfl h120 rfl) Y fun a201 e => ?_; clear Y
      clear h123; have h124 := pt_ F e; replace F := pu_ F e; replace h120 := so_ e h120; clear e
      have Y : (execOp a201.eval o3_19_21).run Try.prog w199 = .ok (.value (.bool true)) w199 := by unfold o3_19_21; go_simp
      refine st_val g3_19_21 rfl wf_ Y fun a202 e => ?_; clear Y
      clear h120 h124; have h125 := pt_ F e; replace F := pu_ F e; clear e
      refine st_val g3_19_22 rfl wf_ (ya_ rfl h125) fun a203 e => ?_
      clear h125 h4; have h4 := pt_ F e; replace F := pu_ F e; clear e
      refine st_end ?_
      replace h2 := F.of h2; replace h3 := F.of h3; replace h7 := F.of h7; replace h89 := F.of h89; replace h90 := F.of h90; replace h91 := F.of h91; clear h103; have R := F.r; clear F
      change (Code.ret).wp _ _ _ _
      refine wp_ret ?_
      change bodyPost Try.prog Try.f3 (fun e w' => e = .returned (.bool true) ∧ Keep (fun g => g < W.heap.size) W w') .ret a203 w199
      refine ret_one rfl R h4 ?_
      exact ⟨rfl, K1⟩
    | true =>
      have Y : (execOp a175.eval o3_18_1).run Try.prog w172 = .ok (.value (.bool false)) w172 := by unfold o3_18_1; go_simp
      refine st_val g3_18_1 rfl wf_ Y fun a204 e => ?_; clear Y
      clear h102; have h103 := pt_ F e; replace F := pu_ F e; clear e
      refine st_end ?_
      replace h2 := F.of h2; replace h3 := F.of h3; replace h4 := F.of h4; clear h6; replace h7 := F.of h7; replace h89 := F.of h89; replace h90 := F.of h90; replace h91 := F.of h91; clear h101; have R := F.r; clear F
      change (c3_66).wp _ _ _ _
      refine wp_cond_false (x := c3_67) (y := Code.skip) (eval_slot h103) ?_
      refine wp_skip ?_
      change (c3_71).wp _ _ _ _
      refine wp_seq (x := c3_72) (y := c3_73) ?_
      change (Code.region 20 O3_20 false).wp _ _ _ _
      refine reg_in (l := [0, 1, 2, 3]) rfl ?_
      have F : FE_ _ [] a204 a204 := ⟨R, Ag_.refl _⟩; clear R
      refine st_val g3_20_0 rfl wf_ (yl4_ rfl (F.of h2) B80) fun a205 e => ?_
      have h126 := pt_ F e; replace F := pu_ F e; clear e
      refine st_val g3_20_1 rfl wf_ (yl4_ rfl (F.of h3) B83) fun a206 e => ?_
      have h127 := pt_ F e; replace F := pu_ F e; replace h126 := so_ e h126; clear e
      obtain ⟨kz, hkz⟩ : ∃ z, t.tree.cmp u.tree = z := ⟨_, rfl⟩
      have HKS : Hid (kz = -1 ∨ kz = 0 ∨ kz = 1) := Lib.hid (by rw [← hkz]; exact cmp_small _ _)
      have HKZ := Lib.hid hkz; clear hkz
      obtain ⟨z0, hz0⟩ : ∃ z, (kz == (0 : Int)) = z := ⟨_, rfl⟩
      have HZ0 := Lib.hid hz0; clear hz0
      refine st_call g3_20_2 rfl wf_ (yc2_ en3_26 rfl h126 h127) ((reforder_sx (z := kz) (HT.out.on K1) (HU.out.on K1) HR.out HQ.out HKZ.out).mono ?_)
      rintro e9 w207 ⟨rfl, kk⟩
      replace K1 := keep_onto K1 kk
      replace KA2 := KA2.trans kk.all
      replace KA4 := keep_onto KA4 kk
      replace B80 := blk_on B80 kk
      replace B83 := blk_on B83 kk
      clear kk
      refine ⟨_, rfl, fun a208 e => ?_⟩
      clear h126 h127; have h128 := pt_ F e; replace F := pu_ F e; clear e
      refine st_val g3_20_3 rfl wf_ (ya_ rfl h128) fun a209 e => ?_
      clear h128; have h10 := pt_ F e; replace F := pu_ F e; clear e
      refine st_end ?_
      replace h2 := F.of h2; replace h3 := F.of h3; replace h4 := F.of h4; replace h7 := F.of h7; replace h89 := F.of h89; replace h90 := F.of h90; replace h91 := F.of h91; clear h103; have R := F.r; clear F
      change (c3_73).wp _ _ _ _
      refine wp_seq (x := c3_74) (y := Code.ret) ?_
      change (Code.region 21 O3_21 true).wp _ _ _ _
      have D212 := B80
      have D213 := B83
      have K210 := (Keep.refl (fun g => g < w207.heap.size) w207).drew
      have EK1 := K1
      have EKA2 := KA2
      have EKA4 := KA4
      refine dr_in (S := (fun W => Keep (fun g => g < w207.heap.size) w207 W)) (n := 31) (l := lb_ 31 0) (by kernel_rfl) K210 rfl (by kernel_rfl) ?_
      replace K1 := K1.drew
      replace KA2 := KA2.drew
      replace KA4 := KA4.drew
      replace B80 := B80.drew
      replace B83 := B83.drew
      generalize w207.drew = w211 at K210 K1 KA2 KA4 B80 B83 ⊢
      have F : FE_ _ [] a209 a209 := ⟨R, Ag_.refl _⟩; clear R
      refine dt_ (i := 0) (l' := (lb_ 31 1)) g3_21_0 rfl ns3_21 wf_ K210 (fun W7 hS => (yl4_ rfl (F.of h2) (D212.keep hS D212.lt))) fun a214 e => ?_
      have h129 := pt_ F e; replace F := pu_ F e; clear e
      refine dt_ (i := 1) (l' := (lb_ 31 3)) g3_21_1 rfl ns3_21 wf_ K210 (fun W7 hS => (yl4_ rfl (F.of h3) (D213.keep hS D213.lt))) fun a215 e => ?_
      have h130 := pt_ F e; replace F := pu_ F e; replace h129 := so_ e h129; clear e
      refine dt_ (i := 3) (l' := (lb_ 31 11)) g3_21_3 rfl ns3_21 wf_ K210 (fun _ _ => (ym_ rfl (F.of h10))) fun a216 e => ?_
      have h132 := pt_ F e; replace F := pu_ F e; replace h129 := so_ e h129; replace h130 := so_ e h130; clear e
      refine dr_only (i := 2) (fuel := 27) (by kernel_rfl) ?_
      refine dr_call (l' := (lb_ 31 15)) g3_21_2 rfl (by kernel_rfl) wf_ (yc2_ en3_20 rfl h129 h130) ((order_sx (z := kz) (HT.out.on K1) (HU.out.on K1) (by rw [← HKZ.out]; unfold ordV; rw [if_pos ⟨HR.out, HQ.out⟩])).mono ?_)
      rintro e9 w217 ⟨rfl, kk⟩
      replace K1 := keep_onto K1 kk
      replace KA2 := KA2.trans kk.all
      replace KA4 := keep_onto KA4 kk
      replace K210 := keep_onto K210 kk
      replace B80 := blk_on B80 kk
      replace B83 := blk_on B83 kk
      clear kk
      refine ⟨_, rfl, K210, fun a218 e => ?_⟩
      clear h129 h130; have h131 := pt_ F e; replace F := pu_ F e; replace h132 := so_ e h132; clear e
      have Y : ∀ W, Keep (fun g => g < w207.heap.size) w207 W → (execOp a218.eval o3_21_4).run Try.prog W = .ok (.value (.bool true)) W := by intro W7 hS; unfold o3_21_4; go_simp
      refine dt_ (i := 4) (l' := (lb_ 31 31)) g3_21_4 rfl ns3_21 wf_ K210 Y fun a219 e => ?_; clear Y
      clear h131 h132; have h133 := pt_ F e; replace F := pu_ F e; clear e
      refine dt_ (i := 5) (l' := (lb_ 31 63)) g3_21_5 rfl ns3_21 wf_ K210 (fun _ _ => (ym_ rfl h133)) fun a220 e => ?_
      clear h133; have h134 := pt_ F e; replace F := pu_ F e; clear e
      refine dt_ (i := 6) (l' := (lb_ 31 127)) g3_21_6 rfl ns3_21 (wanted_is (j := 5) (d := 134) rfl rfl h134 rfl) K210 (fun W7 hS => (yl4_ rfl (F.of h3) (D213.keep hS D213.lt))) fun a221 e => ?_
      have h135 := pt_ F e; replace F := pu_ F e; replace h134 := so_ e h134; clear e
      refine dt_ (i := 7) (l' := (lb_ 31 255)) g3_21_7 rfl ns3_21 (wanted_is (j := 5) (d := 134) rfl rfl h134 rfl) K210 (fun W7 hS => (yl4_ rfl (F.of h2) (D212.keep hS D212.lt))) fun a222 e => ?_
      have h136 := pt_ F e; replace F := pu_ F e; replace h134 := so_ e h134; replace h135 := so_ e h135; clear e
      refine dt_ (i := 9) (l' := (lb_ 31 767)) g3_21_9 rfl ns3_21 (wanted_is (j := 5) (d := 134) rfl rfl h134 rfl) K210 (fun _ _ => (ym_ rfl (F.of h10))) fun a223 e => ?_
      have h138 := pt_ F e; replace F := pu_ F e; replace h134 := so_ e h134; replace h135 := so_ e h135; replace h136 := so_ e h136; clear e
      have Y : ∀ W, Keep (fun g => g < w207.heap.size) w207 W → (execOp a223.eval o3_21_10).run Try.prog W = .ok (.value (.int .i64 (-kz))) W := by intro W7 hS; have hwn : IntKind.i64.wrap (-kz) = -kz := (by rcases HKS.out with h | h | h <;> rw [h] <;> decide); unfold o3_21_10; go_simp
      refine dt_ (i := 10) (l' := (lb_ 31 1791)) g3_21_10 rfl ns3_21 (wanted_is (j := 5) (d := 134) rfl rfl h134 rfl) K210 Y fun a224 e => ?_; clear Y
      clear h138; have h139 := pt_ F e; replace F := pu_ F e; replace h134 := so_ e h134; replace h135 := so_ e h135; replace h136 := so_ e h136; clear e
      refine dr_only (i := 8) (fuel := 20) (by kernel_rfl) ?_
      refine dr_call (l' := (lb_ 31 2047)) g3_21_8 rfl (by kernel_rfl) (wanted_is (j := 5) (d := 134) rfl rfl h134 rfl) (yc2_ en3_20 rfl h135 h136) ((order_sx (z := -kz) (HU.out.on K1) (HT.out.on K1) (by rw [← HKZ.out]; unfold ordV; rw [if_pos ⟨HQ.out, HR.out⟩]; exact (T.lin u.tree).neg t.tree)).mono ?_)
      rintro e9 w225 ⟨rfl, kk⟩
      replace K1 := keep_onto K1 kk
      replace KA2 := KA2.trans kk.all
      replace KA4 := keep_onto KA4 kk
      replace K210 := keep_onto K210 kk
      replace B80 := blk_on B80 kk
      replace B83 := blk_on B83 kk
      clear kk
      refine ⟨_, rfl, K210, fun a226 e => ?_⟩
      clear h135 h136; have h137 := pt_ F e; replace F := pu_ F e; replace h134 := so_ e h134; replace h139 := so_ e h139; clear e
      have Y : ∀ W, Keep (fun g => g < w207.heap.size) w207 W → (execOp a226.eval o3_21_11).run Try.prog W = .ok (.value (.bool true)) W := by intro W7 hS; unfold o3_21_11; go_simp
      refine dt_ (i := 11) (l' := (lb_ 31 4095)) g3_21_11 rfl ns3_21 (wanted_is (j := 5) (d := 134) rfl rfl h134 rfl) K210 Y fun a227 e => ?_; clear Y
      clear h137 h139; have h140 := pt_ F e; replace F := pu_ F e; replace h134 := so_ e h134; clear e
      have Y : ∀ W, Keep (fun g => g < w207.heap.size) w207 W → (execOp a227.eval o3_21_12).run Try.prog W = .ok (.value (.bool true)) W := by intro W7 hS; unfold o3_21_12; go_simp
      refine dt_ (i := 12) (l' := (lb_ 31 8191)) g3_21_12 rfl ns3_21 wf_ K210 Y fun a228 e => ?_; clear Y
      clear h134 h140; have h141 := pt_ F e; replace F := pu_ F e; clear e
      refine dt_ (i := 13) (l' := (lb_ 31 16383)) g3_21_13 rfl ns3_21 wf_ K210 (fun _ _ => (ym_ rfl h141)) fun a229 e => ?_
      clear h141; have h142 := pt_ F e; replace F := pu_ F e; clear e
      refine dt_ (i := 14) (l' := (lb_ 31 32767)) g3_21_14 rfl ns3_21 (wanted_is (j := 13) (d := 142) rfl rfl h142 rfl) K210 (fun W7 hS => (yl4_ rfl (F.of h2) (D212.keep hS D212.lt))) fun a230 e => ?_
      have h143 := pt_ F e; replace F := pu_ F e; replace h142 := so_ e h142; clear e
      refine dt_ (i := 15) (l' := (lb_ 31 65535)) g3_21_15 rfl ns3_21 (wanted_is (j := 13) (d := 142) rfl rfl h142 rfl) K210 (fun W7 hS => (yl4_ rfl (F.of h3) (D213.keep hS D213.lt))) fun a231 e => ?_
      have h144 := pt_ F e; replace F := pu_ F e; replace h142 := so_ e h142; replace h143 := so_ e h143; clear e
      refine dt_ (i := 17) (l' := (lb_ 31 196607)) g3_21_17 rfl ns3_21 (wanted_is (j := 13) (d := 142) rfl rfl h142 rfl) K210 (fun _ _ => (ym_ rfl (F.of h10))) fun a232 e => ?_
      have h146 := pt_ F e; replace F := pu_ F e; replace h142 := so_ e h142; replace h143 := so_ e h143; replace h144 := so_ e h144; clear e
      have Y : ∀ W, Keep (fun g => g < w207.heap.size) w207 W → (execOp a232.eval o3_21_18).run Try.prog W = .ok (.value (.bool z0)) W := by intro W7 hS; rw [← HZ0.out]; unfold o3_21_18; go_simp
      refine dt_ (i := 18) (l' := (lb_ 31 458751)) g3_21_18 rfl ns3_21 (wanted_is (j := 13) (d := 142) rfl rfl h142 rfl) K210 Y fun a233 e => ?_; clear Y
      clear h146; have h147 := pt_ F e; replace F := pu_ F e; replace h142 := so_ e h142; replace h143 := so_ e h143; replace h144 := so_ e h144; clear e
      refine dr_only (i := 16) (fuel := 12) (by kernel_rfl) ?_
      refine dr_call (l' := (lb_ 31 524287)) g3_21_16 rfl (by kernel_rfl) (wanted_is (j := 13) (d := 142) rfl rfl h142 rfl) (yc2_ en3_19 rfl h143 h144) ((same_sx (z := z0) (HT.out.on K1) (HU.out.on K1) (by rw [← HZ0.out, ← HKZ.out]; unfold sameV; rw [HR.out, HQ.out]; rfl)).mono ?_)
      rintro e9 w234 ⟨rfl, kk⟩
      replace K1 := keep_onto K1 kk
      replace KA2 := KA2.trans kk.all
      replace KA4 := keep_onto KA4 kk
      replace K210 := keep_onto K210 kk
      replace B80 := blk_on B80 kk
      replace B83 := blk_on B83 kk
      clear kk
      refine ⟨_, rfl, K210, fun a235 e => ?_⟩
      clear h143 h144; have h145 := pt_ F e; replace F := pu_ F e; replace h142 := so_ e h142; replace h147 := so_ e h147; clear e
      have Y : ∀ W, Keep (fun g => g < w207.heap.size) w207 W → (execOp a235.eval o3_21_19).run Try.prog W = .ok (.value (.bool true)) W := by intro W7 hS; unfold o3_21_19; go_simp
      refine dt_ (i := 19) (l' := (lb_ 31 1048575)) g3_21_19 rfl ns3_21 (wanted_is (j := 13) (d := 142) rfl rfl h142 rfl) K210 Y fun a236 e => ?_; clear Y
      clear h145 h147; have h148 := pt_ F e; replace F := pu_ F e; replace h142 := so_ e h142; clear e
      have Y : ∀ W, Keep (fun g => g < w207.heap.size) w207 W → (execOp a236.eval o3_21_20).run Try.prog W = .ok (.value (.bool true)) W := by intro W7 hS; unfold o3_21_20; go_simp
      refine dt_ (i := 20) (l' := (lb_ 31 2097151)) g3_21_20 rfl ns3_21 wf_ K210 Y fun a237 e => ?_; clear Y
      clear h142 h148; have h149 := pt_ F e; replace F := pu_ F e; clear e
      refine dt_ (i := 21) (l' := (lb_ 31 4194303)) g3_21_21 rfl ns3_21 wf_ K210 (fun _ _ => (ym_ rfl h149)) fun a238 e => ?_
      clear h149; have h150 := pt_ F e; replace F := pu_ F e; clear e
      refine dt_ (i := 22) (l' := (lb_ 31 8388607)) g3_21_22 rfl ns3_21 (wanted_is (j := 21) (d := 150) rfl rfl h150 rfl) K210 (fun W7 hS => (yl4_ rfl (F.of h2) (D212.keep hS D212.lt))) fun a239 e => ?_
      have h151 := pt_ F e; replace F := pu_ F e; replace h150 := so_ e h150; clear e
      refine dt_ (i := 23) (l' := (lb_ 31 16777215)) g3_21_23 rfl ns3_21 (wanted_is (j := 21) (d := 150) rfl rfl h150 rfl) K210 (fun W7 hS => (yl4_ rfl (F.of h3) (D213.keep hS D213.lt))) fun a240 e => ?_
      have h152 := pt_ F e; replace F := pu_ F e; replace h150 := so_ e h150; replace h151 := so_ e h151; clear e
      refine dt_ (i := 25) (l' := (lb_ 31 50331647)) g3_21_25 rfl ns3_21 (wanted_is (j := 21) (d := 150) rfl rfl h150 rfl) K210 (fun W7 hS => (yl4_ rfl (F.of h2) (D212.keep hS D212.lt))) fun a241 e => ?_
      have h154 := pt_ F e; replace F := pu_ F e; replace h150 := so_ e h150; replace h151 := so_ e h151; replace h152 := so_ e h152; clear e
      refine dt_ (i := 26) (l' := (lb_ 31 117440511)) g3_21_26 rfl ns3_21 (wanted_is (j := 21) (d := 150) rfl rfl h150 rfl) K210 (fun W7 hS => (yl4_ rfl (F.of h3) (D213.keep hS D213.lt))) fun a242 e => ?_
      have h155 := pt_ F e; replace F := pu_ F e; replace h150 := so_ e h150; replace h151 := so_ e h151; replace h152 := so_ e h152; replace h154 := so_ e h154; clear e
      refine dr_only (i := 24) (fuel := 4) (by kernel_rfl) ?_
      refine dr_call (l' := (lb_ 31 134217727)) g3_21_24 rfl (by kernel_rfl) (wanted_is (j := 21) (d := 150) rfl rfl h150 rfl) (yc2_ en3_21 rfl h151 h152) ((variant_sx (z := vtV t u) (HT.out.on K1) (HU.out.on K1) rfl).mono ?_)
      rintro e9 w243 ⟨rfl, kk⟩
      replace K1 := keep_onto K1 kk
      replace KA2 := KA2.trans kk.all
      replace KA4 := keep_onto KA4 kk
      replace K210 := keep_onto K210 kk
      replace B80 := blk_on B80 kk
      replace B83 := blk_on B83 kk
      clear kk
      refine ⟨_, rfl, K210, fun a244 e => ?_⟩
      clear h151 h152; have h153 := pt_ F e; replace F := pu_ F e; replace h150 := so_ e h150; replace h154 := so_ e h154; replace h155 := so_ e h155; clear e
      refine dr_only (i := 27) (fuel := 3) (by kernel_rfl) ?_
      refine dr_call (l' := (lb_ 31 268435455)) g3_21_27 rfl (by kernel_rfl) (wanted_is (j := 21) (d := 150) rfl rfl h150 rfl) (yc2_ en3_27 rfl h154 h155) ((refVariant_any (HT.out.on K1) (HU.out.on K1) HR.out HQ.out).mono ?_)
      rintro e9 w245 ⟨rfl, kk⟩
      replace K1 := keep_onto K1 kk
      replace KA2 := KA2.trans kk.all
      replace KA4 := keep_onto KA4 kk
      replace K210 := keep_onto K210 kk
      replace B80 := blk_on B80 kk
      replace B83 := blk_on B83 kk
      clear kk
      refine ⟨_, rfl, K210, fun a246 e => ?_⟩
      clear h154 h155; have h156 := pt_ F e; replace F := pu_ F e; replace h150 := so_ e h150; replace h153 := so_ e h153; clear e
      have Y : ∀ W, Keep (fun g => g < w207.heap.size) w207 W → (execOp a246.eval o3_21_28).run Try.prog W = .ok (.value (.bool true)) W := by intro W7 hS; unfold o3_21_28; go_simp
      refine dt_ (i := 28) (l' := (lb_ 31 536870911)) g3_21_28 rfl ns3_21 (wanted_is (j := 21) (d := 150) rfl rfl h150 rfl) K210 Y fun a247 e => ?_; clear Y
      clear h153 h156; have h157 := pt_ F e; replace F := pu_ F e; replace h150 := so_ e h150; clear e
      have Y : ∀ W, Keep (fun g => g < w207.heap.size) w207 W → (execOp a247.eval o3_21_29).run Try.prog W = .ok (.value (.bool true)) W := by intro W7 hS; unfold o3_21_29; go_simp
      refine dt_ (i := 29) (l' := (lb_ 31 1073741823)) g3_21_29 rfl ns3_21 wf_ K210 Y fun a248 e => ?_; clear Y
      clear h150 h157; have h158 := pt_ F e; replace F := pu_ F e; clear e
      refine dt_ (i := 30) (l' := (lb_ 31 2147483647)) g3_21_30 rfl ns3_21 wf_ K210 (fun _ _ => (ya_ rfl h158)) fun a249 e => ?_
      clear h158 h4; have h4 := pt_ F e; replace F := pu_ F e; clear e
      refine dr_end (by kernel_rfl) ?_
      clear h2; clear h3; replace h7 := F.of h7; clear h10; replace h89 := F.of h89; replace h90 := F.of h90; replace h91 := F.of h91; have R := F.r; clear F
      clear K210 EK1 EKA2 EKA4 D212 D213
      change (Code.ret).wp _ _ _ _
      refine wp_ret ?_
      change bodyPost Try.prog Try.f3 (fun e w' => e = .returned (.bool true) ∧ Keep (fun g => g < W.heap.size) W w') .ret a249 w245
      refine ret_one rfl R h4 ?_
      exact ⟨rfl, K1⟩
  | true =>
    have fb166 := hb166; clear hb166
    simp only [decide_eq_true_eq, decide_eq_false_iff_not, bne_iff_ne, bne_eq_false_iff_eq, beq_iff_eq, beq_eq_false_iff_ne, ne_eq, Bool.not_eq_true', Bool.not_eq_false', Bool.not_eq_eq_eq_not, Bool.not_true, Bool.not_false] at fb166
    refine wp_cond_true (x := Code.skip) (y := c3_48) (eval_slot h91) ?_
    refine wp_skip ?_
    change (c3_49).wp _ _ _ _
    refine wp_seq (x := c3_50) (y := c3_54) ?_
    refine wp_block (id := 1) (c := c3_51) ?_
    refine wp_seq (x := c3_52) (y := c3_53) ?_
    change (Code.region 13 O3_13 false).wp _ _ _ _
    refine reg_in (l := [0, 1]) rfl ?_
    have F : FE_ _ [] a167 a167 := ⟨R, Ag_.refl _⟩; clear R
    refine st_val g3_13_0 rfl wf_ (ym_ rfl (F.of h90)) fun a250 e => ?_
    have h92 := pt_ F e; replace F := pu_ F e; clear e
    refine st_val g3_13_1 rfl wf_ (ya_ rfl h92) fun a251 e => ?_
    have h9 := pt_ F e; replace F := pu_ F e; replace h92 := so_ e h92; clear e
    refine st_end ?_
    replace h2 := F.of h2; replace h3 := F.of h3; replace h4 := F.of h4; replace h6 := F.of h6; replace h7 := F.of h7; replace h8 := F.of h8; replace h89 := F.of h89; replace h90 := F.of h90; replace h91 := F.of h91; have R := F.r; clear F
    change (c3_53).wp _ _ _ _
    change (Code.region 14 O3_14 false).wp _ _ _ _
    refine reg_in (l := [0, 1, 2, 3]) rfl ?_
    have F : FE_ _ [] a251 a251 := ⟨R, Ag_.refl _⟩; clear R
    refine st_val g3_14_0 rfl wf_ (ym_ rfl (F.of h7)) fun a252 e => ?_
    have h93 := pt_ F e; replace F := pu_ F e; clear e
    refine st_val g3_14_1 rfl wf_ (ym_ rfl (F.of h9)) fun a253 e => ?_
    have h94 := pt_ F e; replace F := pu_ F e; replace h93 := so_ e h93; clear e
    obtain ⟨gA, cur, hA, hlo, hhi, hB, hsz, hel⟩ := HIB.out (by omega)
    have hltA : (i : Int) < (t.tree.vars.length : Int) := by omega
    have HA := Lib.hid hA; clear hA; have HBL := Lib.hid hB; clear hB; obtain ⟨z9, hz9⟩ := hel i (by omega); have HZ9 := Lib.hid hz9; clear hz9 hel
    have Y : (execOp a253.eval o3_14_2).run Try.prog w164 = .ok (.value (.pointer (some ⟨gA, i, none⟩))) w164 := by have hA := HA.out; unfold o3_14_2; go_simp
    refine st_val g3_14_2 rfl wf_ Y fun a254 e => ?_; clear Y
    have h95 := pt_ F e; replace F := pu_ F e; replace h93 := so_ e h93; replace h94 := so_ e h94; clear e
    have Y : (execOp a254.eval o3_14_3).run Try.prog w164 = .ok .skip (w164.setCell ⟨gA, i, none⟩ (.int .i64 (-1))) := by have u0 := HBL.out.cell i; rw [HZ9.out] at u0; have z0 := HBL.out.frozen i; unfold o3_14_3; go_simp
    obtain ⟨w255, hw⟩ : ∃ x, x = (w164.setCell ⟨gA, i, none⟩ (.int .i64 (-1))) := ⟨_, rfl⟩; rw [← hw] at Y
    have hk : Keep (fun g => g ≠ gA) w164 w255 := by rw [hw]; exact (Keep.refl _ _).setCell (fun h => h rfl) _
    have HIB2 := Lib.hid (show IBl w255 w120.heap.size w125.heap.size va1 t.tree.vars.length by rw [hw]; exact HIB.out.put HA.out (by omega)); clear HIB; have HIB := HIB2; clear HIB2
    replace K1 := kx_ hk K1 (fun h => absurd h (Nat.not_lt.2 (Nat.le_trans OK1_1 hlo)))
    replace KA2 := kx_ hk KA2 (fun h => absurd hhi (Nat.not_lt.2 (Nat.le_trans OKA1_2 h.1)))
    replace B80 := bx_ hk B80 (by omega)
    replace B83 := bx_ hk B83 (by omega)
    clear hw hk HA HBL HZ9 hsz
    refine st_skip g3_14_3 rfl wf_ Y ?_; clear Y
    refine st_end ?_
    replace h2 := F.of h2; replace h3 := F.of h3; replace h4 := F.of h4; replace h6 := F.of h6; replace h7 := F.of h7; replace h8 := F.of h8; replace h9 := F.of h9; replace h89 := F.of h89; replace h90 := F.of h90; replace h91 := F.of h91; replace h92 := F.of h92; have R := F.r; clear F
    change (c3_54).wp _ _ _ _
    change (Code.region 15 O3_15 false).wp _ _ _ _
    refine reg_in (l := [0, 1]) rfl ?_
    have F : FE_ _ [] a254 a254 := ⟨R, Ag_.refl _⟩; clear R
    have Y : (execOp a254.eval o3_15_0).run Try.prog w255 = .ok (.value (.int .i64 ((i : Int) + 1))) w255 := by have r90 := F.of h90; have hwj : IntKind.i64.wrap ((i : Int) + 1) = (i : Int) + 1 := (by rw [IntKind.wrap_i64]; omega); unfold o3_15_0; go_simp
    refine st_val g3_15_0 rfl wf_ Y fun a256 e => ?_; clear Y
    have h96 := pt_ F e; replace F := pu_ F e; clear e
    refine st_val g3_15_1 rfl wf_ (ym_ rfl h96) fun a257 e => ?_
    clear h90; have h90 := pt_ F e; replace F := pu_ F e; replace h96 := so_ e h96; clear e
    refine st_end ?_
    replace h2 := F.of h2; replace h3 := F.of h3; replace h4 := F.of h4; replace h6 := F.of h6; replace h7 := F.of h7; replace h8 := F.of h8; replace h9 := F.of h9; replace h89 := F.of h89; replace h91 := F.of h91; replace h92 := F.of h92; replace h93 := F.of h93; replace h94 := F.of h94; replace h95 := F.of h95; have R := F.r; clear F
    exact ⟨_, by omega, i + 1, rfl, R, h2, h3, h4, h6, h7, h8, h89, h90, K1, KA2, B80, B83, (by omega), HIB⟩
theorem tells_walk {W : World} {t u : Tm} {ta ua : Option Addr} {tc uc : Nat} (hT : TmAt W.heap.size W t ta tc) (hU : TmAt W.heap.size W u ua uc) : Calls Try.prog 3 #[tv t ta tc, tv u ua uc] W fun e w' => e = .returned (.bool true) ∧ Keep (fun g => g < W.heap.size) W w' := by
  refine enter_sx Try.func3 body3 rfl (by show (2 : Nat) ≤ 159; decide) fun f0 R hs => ?_
  cases hr : t.right with
  | false => exact tells_f R (hs 0 _ rfl) (hs 1 _ rfl) (Keep.refl _ W) (Lib.hid hT) (Lib.hid hU) (Lib.hid rfl) (Lib.hid hr)
  | true => exact tells_t R (hs 0 _ rfl) (hs 1 _ rfl) (Keep.refl _ W) (Lib.hid hT) (Lib.hid hU) (Lib.hid rfl) (Lib.hid hr) (Lib.hid (Nat.le_trans (T.vars_len _) (Tm.tree_right (right_of.1 hr)).2.1))
end Go.Proofs.Ythbofkffklejoaa
