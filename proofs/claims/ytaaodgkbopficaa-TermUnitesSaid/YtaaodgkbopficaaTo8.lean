/-
  The law of solutions: walked with letter frames. No condition but where the terms lie.
-/
import Derived.Test.YtaaodgkbopficaaTo7
namespace Go.Proofs.Ytaaodgkbopficaa
open Go.RowKit Go.Maps
set_option linter.unusedVariables false
set_option linter.unusedSimpArgs false

theorem so {a a' : Act} {d k : Nat} {v u : Value} (he : a' = a.put (some d) v) (hk : a.tmps[k]? = some u) (hne : d ≠ k := by decide) : a'.tmps[k]? = some u := slot_on he hk hne
/-- Two steps that meet in what is known between them. -/
theorem join_sx {P : Program} {x y : Code} {Q : Exit → Act → World → Prop} {a : Act} {w : World} (F : Act → World → Prop) (hx : x.wp P (Exit.then F Q) a w) (hy : ∀ a w, F a w → y.wp P Q a w) : (Code.seq x y).wp P Q a w :=
  wp_seq (Code.wp_mono (fun e a w h => by cases e <;> first | exact hy _ _ h | exact h) hx)

def o4_0_0 : Oper := { dst := some 2, op := Go.Op.box 24 (Go.Operand.tmp 0), type := 0, pos := "law.go:92", after := #[], guard := none }
def o4_0_1 : Oper := { dst := some 3, op := Go.Op.box 24 (Go.Operand.tmp 1), type := 0, pos := "law.go:92", after := #[], guard := none }
def o4_0_2 : Oper := { dst := some 4, op := Go.Op.assign (Go.Operand.const (Go.Value.bool false)), type := 4, pos := "law.go:92", after := #[], guard := none }
def O4_0 : Array Oper := List.toArray (o4_0_0 :: o4_0_1 :: o4_0_2 :: [])
theorem g4_0_0 : O4_0[0]? = some o4_0_0 := rfl
theorem g4_0_1 : O4_0[1]? = some o4_0_1 := rfl
theorem g4_0_2 : O4_0[2]? = some o4_0_2 := rfl
def c4_1 : Code := Code.region 0 O4_0 false
def o4_1_0 : Oper := { dst := some 24, op := Go.Op.call { callee := Go.Callee.value (Go.Operand.func 13), args := #[], argTypes := #[] }, type := 4, pos := "law.go:93", after := #[], guard := none }
def o4_1_1 : Oper := { dst := some 25, op := Go.Op.unOp Go.UnOp.not 4 (Go.Operand.tmp 24), type := 4, pos := "law.go:93", after := #[{ on := 0, ground := Go.Ground.data }], guard := none }
def O4_1 : Array Oper := List.toArray (o4_1_0 :: o4_1_1 :: [])
theorem g4_1_0 : O4_1[0]? = some o4_1_0 := rfl
theorem g4_1_1 : O4_1[1]? = some o4_1_1 := rfl
def c4_4 : Code := Code.region 1 O4_1 false
def o4_2_0 : Oper := { dst := some 4, op := Go.Op.assign (Go.Operand.const (Go.Value.bool false)), type := 4, pos := "law.go:94", after := #[], guard := none }
def O4_2 : Array Oper := List.toArray (o4_2_0 :: [])
theorem g4_2_0 : O4_2[0]? = some o4_2_0 := rfl
def c4_7 : Code := Code.region 2 O4_2 false
def c4_6 : Code := Code.seq c4_7 Code.ret
def c4_5 : Code := Code.cond (Go.Operand.tmp 25) c4_6 Code.skip
def c4_3 : Code := Code.seq c4_4 c4_5
def o4_3_0 : Oper := { dst := some 27, op := Go.Op.load 24 (Go.Operand.tmp 2), type := 24, pos := "law.go:96", after := #[], guard := none }
def o4_3_1 : Oper := { dst := some 28, op := Go.Op.load 24 (Go.Operand.tmp 3), type := 24, pos := "law.go:96", after := #[], guard := none }
def o4_3_2 : Oper := { dst := some 29, op := Go.Op.call { callee := Go.Callee.value (Go.Operand.func 28), args := #[Go.Operand.tmp 27, Go.Operand.tmp 28], argTypes := #[24, 24] }, type := 37, pos := "law.go:96", after := #[{ on := 0, ground := Go.Ground.data }, { on := 1, ground := Go.Ground.data }], guard := none }
def o4_3_3 : Oper := { dst := some 26, op := Go.Op.move (Go.Operand.tmp 29), type := 37, pos := "law.go:96", after := #[{ on := 2, ground := Go.Ground.data }], guard := none }
def o4_3_4 : Oper := { dst := some 30, op := Go.Op.extract (Go.Operand.tmp 26) 0, type := 36, pos := "law.go:96", after := #[{ on := 3, ground := Go.Ground.data }], guard := none }
def o4_3_5 : Oper := { dst := some 31, op := Go.Op.extract (Go.Operand.tmp 26) 1, type := 4, pos := "law.go:96", after := #[{ on := 3, ground := Go.Ground.data }, { on := 7, ground := Go.Ground.gcOnly Go.Departure.lateStores }], guard := none }
def o4_3_6 : Oper := { dst := some 32, op := Go.Op.extract (Go.Operand.tmp 26) 2, type := 27, pos := "law.go:96", after := #[{ on := 3, ground := Go.Ground.data }, { on := 8, ground := Go.Ground.gcOnly Go.Departure.lateStores }], guard := none }
def o4_3_7 : Oper := { dst := some 5, op := Go.Op.assign (Go.Operand.tmp 30), type := 36, pos := "law.go:96", after := #[{ on := 4, ground := Go.Ground.data }, { on := 2, ground := Go.Ground.chain }, { on := 0, ground := Go.Ground.phase }, { on := 1, ground := Go.Ground.phase }, { on := 2, ground := Go.Ground.phase }, { on := 3, ground := Go.Ground.phase }, { on := 4, ground := Go.Ground.phase }, { on := 5, ground := Go.Ground.textOnly Go.Departure.lateStores }, { on := 6, ground := Go.Ground.textOnly Go.Departure.lateStores }], guard := none }
def o4_3_8 : Oper := { dst := some 6, op := Go.Op.assign (Go.Operand.tmp 31), type := 4, pos := "law.go:96", after := #[{ on := 5, ground := Go.Ground.data }, { on := 7, ground := Go.Ground.chain }, { on := 0, ground := Go.Ground.phase }, { on := 1, ground := Go.Ground.phase }, { on := 2, ground := Go.Ground.phase }, { on := 3, ground := Go.Ground.phase }, { on := 4, ground := Go.Ground.phase }, { on := 5, ground := Go.Ground.phase }, { on := 6, ground := Go.Ground.textOnly Go.Departure.lateStores }, { on := 7, ground := Go.Ground.phase }], guard := none }
def o4_3_9 : Oper := { dst := some 7, op := Go.Op.assign (Go.Operand.tmp 32), type := 27, pos := "law.go:96", after := #[{ on := 6, ground := Go.Ground.data }, { on := 8, ground := Go.Ground.chain }, { on := 0, ground := Go.Ground.phase }, { on := 1, ground := Go.Ground.phase }, { on := 2, ground := Go.Ground.phase }, { on := 3, ground := Go.Ground.phase }, { on := 4, ground := Go.Ground.phase }, { on := 5, ground := Go.Ground.phase }, { on := 6, ground := Go.Ground.phase }, { on := 7, ground := Go.Ground.phase }, { on := 8, ground := Go.Ground.phase }], guard := none }
def O4_3 : Array Oper := List.toArray (o4_3_0 :: o4_3_1 :: o4_3_2 :: o4_3_3 :: o4_3_4 :: o4_3_5 :: o4_3_6 :: o4_3_7 :: o4_3_8 :: o4_3_9 :: [])
theorem g4_3_0 : O4_3[0]? = some o4_3_0 := rfl
theorem g4_3_1 : O4_3[1]? = some o4_3_1 := rfl
theorem g4_3_2 : O4_3[2]? = some o4_3_2 := rfl
theorem g4_3_3 : O4_3[3]? = some o4_3_3 := rfl
theorem g4_3_4 : O4_3[4]? = some o4_3_4 := rfl
theorem g4_3_5 : O4_3[5]? = some o4_3_5 := rfl
theorem g4_3_6 : O4_3[6]? = some o4_3_6 := rfl
theorem g4_3_7 : O4_3[7]? = some o4_3_7 := rfl
theorem g4_3_8 : O4_3[8]? = some o4_3_8 := rfl
theorem g4_3_9 : O4_3[9]? = some o4_3_9 := rfl
def c4_11 : Code := Code.region 3 O4_3 false
def o4_4_0 : Oper := { dst := some 34, op := Go.Op.load 24 (Go.Operand.tmp 3), type := 24, pos := "law.go:97", after := #[], guard := none }
def o4_4_1 : Oper := { dst := some 35, op := Go.Op.load 24 (Go.Operand.tmp 2), type := 24, pos := "law.go:97", after := #[], guard := none }
def o4_4_2 : Oper := { dst := some 36, op := Go.Op.call { callee := Go.Callee.value (Go.Operand.func 28), args := #[Go.Operand.tmp 34, Go.Operand.tmp 35], argTypes := #[24, 24] }, type := 37, pos := "law.go:97", after := #[{ on := 0, ground := Go.Ground.data }, { on := 1, ground := Go.Ground.data }], guard := none }
def o4_4_3 : Oper := { dst := some 33, op := Go.Op.move (Go.Operand.tmp 36), type := 37, pos := "law.go:97", after := #[{ on := 2, ground := Go.Ground.data }], guard := none }
def o4_4_4 : Oper := { dst := some 37, op := Go.Op.extract (Go.Operand.tmp 33) 0, type := 36, pos := "law.go:97", after := #[{ on := 3, ground := Go.Ground.data }], guard := none }
def o4_4_5 : Oper := { dst := some 38, op := Go.Op.extract (Go.Operand.tmp 33) 1, type := 4, pos := "law.go:97", after := #[{ on := 3, ground := Go.Ground.data }, { on := 7, ground := Go.Ground.gcOnly Go.Departure.lateStores }], guard := none }
def o4_4_6 : Oper := { dst := some 39, op := Go.Op.extract (Go.Operand.tmp 33) 2, type := 27, pos := "law.go:97", after := #[{ on := 3, ground := Go.Ground.data }, { on := 8, ground := Go.Ground.gcOnly Go.Departure.lateStores }], guard := none }
def o4_4_7 : Oper := { dst := some 8, op := Go.Op.assign (Go.Operand.tmp 37), type := 36, pos := "law.go:97", after := #[{ on := 4, ground := Go.Ground.data }, { on := 2, ground := Go.Ground.chain }, { on := 0, ground := Go.Ground.phase }, { on := 1, ground := Go.Ground.phase }, { on := 2, ground := Go.Ground.phase }, { on := 3, ground := Go.Ground.phase }, { on := 4, ground := Go.Ground.phase }, { on := 5, ground := Go.Ground.textOnly Go.Departure.lateStores }, { on := 6, ground := Go.Ground.textOnly Go.Departure.lateStores }], guard := none }
def o4_4_8 : Oper := { dst := some 9, op := Go.Op.assign (Go.Operand.tmp 38), type := 4, pos := "law.go:97", after := #[{ on := 5, ground := Go.Ground.data }, { on := 7, ground := Go.Ground.chain }, { on := 0, ground := Go.Ground.phase }, { on := 1, ground := Go.Ground.phase }, { on := 2, ground := Go.Ground.phase }, { on := 3, ground := Go.Ground.phase }, { on := 4, ground := Go.Ground.phase }, { on := 5, ground := Go.Ground.phase }, { on := 6, ground := Go.Ground.textOnly Go.Departure.lateStores }, { on := 7, ground := Go.Ground.phase }], guard := none }
def o4_4_9 : Oper := { dst := some 10, op := Go.Op.assign (Go.Operand.tmp 39), type := 27, pos := "law.go:97", after := #[{ on := 6, ground := Go.Ground.data }, { on := 8, ground := Go.Ground.chain }, { on := 0, ground := Go.Ground.phase }, { on := 1, ground := Go.Ground.phase }, { on := 2, ground := Go.Ground.phase }, { on := 3, ground := Go.Ground.phase }, { on := 4, ground := Go.Ground.phase }, { on := 5, ground := Go.Ground.phase }, { on := 6, ground := Go.Ground.phase }, { on := 7, ground := Go.Ground.phase }, { on := 8, ground := Go.Ground.phase }], guard := none }
def O4_4 : Array Oper := List.toArray (o4_4_0 :: o4_4_1 :: o4_4_2 :: o4_4_3 :: o4_4_4 :: o4_4_5 :: o4_4_6 :: o4_4_7 :: o4_4_8 :: o4_4_9 :: [])
theorem g4_4_0 : O4_4[0]? = some o4_4_0 := rfl
theorem g4_4_1 : O4_4[1]? = some o4_4_1 := rfl
theorem g4_4_2 : O4_4[2]? = some o4_4_2 := rfl
theorem g4_4_3 : O4_4[3]? = some o4_4_3 := rfl
theorem g4_4_4 : O4_4[4]? = some o4_4_4 := rfl
theorem g4_4_5 : O4_4[5]? = some o4_4_5 := rfl
theorem g4_4_6 : O4_4[6]? = some o4_4_6 := rfl
theorem g4_4_7 : O4_4[7]? = some o4_4_7 := rfl
theorem g4_4_8 : O4_4[8]? = some o4_4_8 := rfl
theorem g4_4_9 : O4_4[9]? = some o4_4_9 := rfl
def c4_13 : Code := Code.region 4 O4_4 false
def o4_5_0 : Oper := { dst := some 40, op := Go.Op.move (Go.Operand.tmp 6), type := 4, pos := "law.go:98", after := #[], guard := none }
def o4_5_1 : Oper := { dst := some 41, op := Go.Op.move (Go.Operand.tmp 9), type := 4, pos := "law.go:98", after := #[], guard := none }
def o4_5_2 : Oper := { dst := some 42, op := Go.Op.binOp Go.BinOp.neq 4 (Go.Operand.tmp 40) (Go.Operand.tmp 41) 4, type := 4, pos := "law.go:98", after := #[{ on := 0, ground := Go.Ground.data }, { on := 1, ground := Go.Ground.data }], guard := none }
def o4_5_3 : Oper := { dst := some 43, op := Go.Op.move (Go.Operand.tmp 42), type := 4, pos := "law.go:98", after := #[{ on := 2, ground := Go.Ground.data }], guard := none }
def o4_5_4 : Oper := { dst := some 44, op := Go.Op.move (Go.Operand.tmp 7), type := 27, pos := "law.go:98", after := #[{ on := 3, ground := Go.Ground.guard }], guard := some (3, false) }
def o4_5_5 : Oper := { dst := some 45, op := Go.Op.move (Go.Operand.tmp 10), type := 27, pos := "law.go:98", after := #[{ on := 3, ground := Go.Ground.guard }], guard := some (3, false) }
def o4_5_6 : Oper := { dst := some 46, op := Go.Op.binOp Go.BinOp.neq 27 (Go.Operand.tmp 44) (Go.Operand.tmp 45) 27, type := 4, pos := "law.go:98", after := #[{ on := 4, ground := Go.Ground.data }, { on := 5, ground := Go.Ground.data }, { on := 3, ground := Go.Ground.guard }], guard := some (3, false) }
def o4_5_7 : Oper := { dst := some 47, op := Go.Op.pick (Go.Operand.tmp 43) (Go.Operand.const (Go.Value.bool true)) (Go.Operand.tmp 46), type := 4, pos := "law.go:98", after := #[{ on := 3, ground := Go.Ground.data }, { on := 6, ground := Go.Ground.data }], guard := none }
def O4_5 : Array Oper := List.toArray (o4_5_0 :: o4_5_1 :: o4_5_2 :: o4_5_3 :: o4_5_4 :: o4_5_5 :: o4_5_6 :: o4_5_7 :: [])
theorem g4_5_0 : O4_5[0]? = some o4_5_0 := rfl
theorem g4_5_1 : O4_5[1]? = some o4_5_1 := rfl
theorem g4_5_2 : O4_5[2]? = some o4_5_2 := rfl
theorem g4_5_3 : O4_5[3]? = some o4_5_3 := rfl
theorem g4_5_4 : O4_5[4]? = some o4_5_4 := rfl
theorem g4_5_5 : O4_5[5]? = some o4_5_5 := rfl
theorem g4_5_6 : O4_5[6]? = some o4_5_6 := rfl
theorem g4_5_7 : O4_5[7]? = some o4_5_7 := rfl
def c4_16 : Code := Code.region 5 O4_5 false
def o4_6_0 : Oper := { dst := some 4, op := Go.Op.assign (Go.Operand.const (Go.Value.bool false)), type := 4, pos := "law.go:99", after := #[], guard := none }
def O4_6 : Array Oper := List.toArray (o4_6_0 :: [])
theorem g4_6_0 : O4_6[0]? = some o4_6_0 := rfl
def c4_19 : Code := Code.region 6 O4_6 false
def c4_18 : Code := Code.seq c4_19 Code.ret
def c4_17 : Code := Code.cond (Go.Operand.tmp 47) c4_18 Code.skip
def c4_15 : Code := Code.seq c4_16 c4_17
def o4_7_0 : Oper := { dst := some 48, op := Go.Op.move (Go.Operand.tmp 6), type := 4, pos := "law.go:101", after := #[], guard := none }
def o4_7_1 : Oper := { dst := some 49, op := Go.Op.unOp Go.UnOp.not 4 (Go.Operand.tmp 48), type := 4, pos := "law.go:101", after := #[{ on := 0, ground := Go.Ground.data }], guard := none }
def O4_7 : Array Oper := List.toArray (o4_7_0 :: o4_7_1 :: [])
theorem g4_7_0 : O4_7[0]? = some o4_7_0 := rfl
theorem g4_7_1 : O4_7[1]? = some o4_7_1 := rfl
def c4_24 : Code := Code.region 7 O4_7 false
def o4_8_0 : Oper := { dst := some 50, op := Go.Op.move (Go.Operand.tmp 5), type := 36, pos := "law.go:102", after := #[], guard := none }
def o4_8_1 : Oper := { dst := some 51, op := Go.Op.call { callee := Go.Callee.builtin Go.Builtin.len, args := #[Go.Operand.tmp 50], argTypes := #[36] }, type := 3, pos := "law.go:102", after := #[{ on := 0, ground := Go.Ground.data }], guard := none }
def o4_8_2 : Oper := { dst := some 52, op := Go.Op.binOp Go.BinOp.eql 3 (Go.Operand.tmp 51) (Go.Operand.const (Go.Value.int Go.IntKind.i64 0)) 3, type := 4, pos := "law.go:102", after := #[{ on := 1, ground := Go.Ground.data }], guard := none }
def o4_8_3 : Oper := { dst := some 53, op := Go.Op.move (Go.Operand.tmp 52), type := 4, pos := "law.go:102", after := #[{ on := 2, ground := Go.Ground.data }], guard := none }
def o4_8_4 : Oper := { dst := some 54, op := Go.Op.move (Go.Operand.tmp 8), type := 36, pos := "law.go:102", after := #[{ on := 3, ground := Go.Ground.guard }], guard := some (3, true) }
def o4_8_5 : Oper := { dst := some 55, op := Go.Op.call { callee := Go.Callee.builtin Go.Builtin.len, args := #[Go.Operand.tmp 54], argTypes := #[36] }, type := 3, pos := "law.go:102", after := #[{ on := 4, ground := Go.Ground.data }, { on := 3, ground := Go.Ground.guard }], guard := some (3, true) }
def o4_8_6 : Oper := { dst := some 56, op := Go.Op.binOp Go.BinOp.eql 3 (Go.Operand.tmp 55) (Go.Operand.const (Go.Value.int Go.IntKind.i64 0)) 3, type := 4, pos := "law.go:102", after := #[{ on := 5, ground := Go.Ground.data }, { on := 3, ground := Go.Ground.guard }], guard := some (3, true) }
def o4_8_7 : Oper := { dst := some 57, op := Go.Op.pick (Go.Operand.tmp 53) (Go.Operand.tmp 56) (Go.Operand.const (Go.Value.bool false)), type := 4, pos := "law.go:102", after := #[{ on := 3, ground := Go.Ground.data }, { on := 6, ground := Go.Ground.data }], guard := none }
def o4_8_8 : Oper := { dst := some 4, op := Go.Op.assign (Go.Operand.tmp 57), type := 4, pos := "law.go:102", after := #[{ on := 7, ground := Go.Ground.data }, { on := 3, ground := Go.Ground.chain }, { on := 0, ground := Go.Ground.phase }, { on := 1, ground := Go.Ground.phase }, { on := 2, ground := Go.Ground.phase }, { on := 3, ground := Go.Ground.phase }, { on := 4, ground := Go.Ground.phase }, { on := 5, ground := Go.Ground.phase }, { on := 6, ground := Go.Ground.phase }, { on := 7, ground := Go.Ground.phase }], guard := none }
def O4_8 : Array Oper := List.toArray (o4_8_0 :: o4_8_1 :: o4_8_2 :: o4_8_3 :: o4_8_4 :: o4_8_5 :: o4_8_6 :: o4_8_7 :: o4_8_8 :: [])
theorem g4_8_0 : O4_8[0]? = some o4_8_0 := rfl
theorem g4_8_1 : O4_8[1]? = some o4_8_1 := rfl
theorem g4_8_2 : O4_8[2]? = some o4_8_2 := rfl
theorem g4_8_3 : O4_8[3]? = some o4_8_3 := rfl
theorem g4_8_4 : O4_8[4]? = some o4_8_4 := rfl
theorem g4_8_5 : O4_8[5]? = some o4_8_5 := rfl
theorem g4_8_6 : O4_8[6]? = some o4_8_6 := rfl
theorem g4_8_7 : O4_8[7]? = some o4_8_7 := rfl
theorem g4_8_8 : O4_8[8]? = some o4_8_8 := rfl
def c4_27 : Code := Code.region 8 O4_8 false
def c4_26 : Code := Code.seq c4_27 Code.ret
def c4_25 : Code := Code.cond (Go.Operand.tmp 49) c4_26 Code.skip
def c4_23 : Code := Code.seq c4_24 c4_25
def o4_9_0 : Oper := { dst := some 58, op := Go.Op.move (Go.Operand.tmp 5), type := 36, pos := "law.go:104", after := #[], guard := none }
def o4_9_1 : Oper := { dst := some 59, op := Go.Op.move (Go.Operand.tmp 8), type := 36, pos := "law.go:104", after := #[], guard := none }
def o4_9_2 : Oper := { dst := some 60, op := Go.Op.call { callee := Go.Callee.value (Go.Operand.func 29), args := #[Go.Operand.tmp 58, Go.Operand.tmp 59], argTypes := #[36, 36] }, type := 4, pos := "law.go:104", after := #[{ on := 0, ground := Go.Ground.data }, { on := 1, ground := Go.Ground.data }], guard := none }
def o4_9_3 : Oper := { dst := some 61, op := Go.Op.unOp Go.UnOp.not 4 (Go.Operand.tmp 60), type := 4, pos := "law.go:104", after := #[{ on := 2, ground := Go.Ground.data }], guard := none }
def O4_9 : Array Oper := List.toArray (o4_9_0 :: o4_9_1 :: o4_9_2 :: o4_9_3 :: [])
theorem g4_9_0 : O4_9[0]? = some o4_9_0 := rfl
theorem g4_9_1 : O4_9[1]? = some o4_9_1 := rfl
theorem g4_9_2 : O4_9[2]? = some o4_9_2 := rfl
theorem g4_9_3 : O4_9[3]? = some o4_9_3 := rfl
def c4_32 : Code := Code.region 9 O4_9 false
def o4_10_0 : Oper := { dst := some 4, op := Go.Op.assign (Go.Operand.const (Go.Value.bool false)), type := 4, pos := "law.go:105", after := #[], guard := none }
def O4_10 : Array Oper := List.toArray (o4_10_0 :: [])
theorem g4_10_0 : O4_10[0]? = some o4_10_0 := rfl
def c4_35 : Code := Code.region 10 O4_10 false
def c4_34 : Code := Code.seq c4_35 Code.ret
def c4_33 : Code := Code.cond (Go.Operand.tmp 61) c4_34 Code.skip
def c4_31 : Code := Code.seq c4_32 c4_33
def o4_11_0 : Oper := { dst := some 62, op := Go.Op.move (Go.Operand.tmp 5), type := 36, pos := "law.go:107", after := #[], guard := none }
def o4_11_1 : Oper := { dst := some 63, op := Go.Op.call { callee := Go.Callee.builtin Go.Builtin.len, args := #[Go.Operand.tmp 62], argTypes := #[36] }, type := 3, pos := "law.go:107", after := #[{ on := 0, ground := Go.Ground.data }], guard := none }
def o4_11_2 : Oper := { dst := some 64, op := Go.Op.move (Go.Operand.const (Go.Value.int Go.IntKind.i64 0)), type := 3, pos := "law.go:107", after := #[], guard := none }
def O4_11 : Array Oper := List.toArray (o4_11_0 :: o4_11_1 :: o4_11_2 :: [])
theorem g4_11_0 : O4_11[0]? = some o4_11_0 := rfl
theorem g4_11_1 : O4_11[1]? = some o4_11_1 := rfl
theorem g4_11_2 : O4_11[2]? = some o4_11_2 := rfl
def c4_40 : Code := Code.region 11 O4_11 false
def o4_12_0 : Oper := { dst := some 65, op := Go.Op.binOp Go.BinOp.lss 3 (Go.Operand.tmp 64) (Go.Operand.tmp 63) 3, type := 0, pos := "law.go:107", after := #[], guard := none }
def O4_12 : Array Oper := List.toArray (o4_12_0 :: [])
theorem g4_12_0 : O4_12[0]? = some o4_12_0 := rfl
def c4_44 : Code := Code.region 12 O4_12 false
def c4_48 : Code := Code.exit 0
def c4_46 : Code := Code.cond (Go.Operand.tmp 65) Code.skip c4_48
def o4_13_0 : Oper := { dst := some 66, op := Go.Op.move (Go.Operand.tmp 64), type := 3, pos := "law.go:107", after := #[], guard := none }
def o4_13_1 : Oper := { dst := some 67, op := Go.Op.indexAddr 36 (Go.Operand.tmp 62) (Go.Operand.tmp 64), type := 0, pos := "law.go:107", after := #[], guard := none }
def o4_13_2 : Oper := { dst := some 68, op := Go.Op.load 41 (Go.Operand.tmp 67), type := 41, pos := "law.go:107", after := #[{ on := 1, ground := Go.Ground.data }], guard := none }
def o4_13_3 : Oper := { dst := some 12, op := Go.Op.alloc 41, type := 0, pos := "law.go:107", after := #[], guard := none }
def o4_13_4 : Oper := { dst := some 11, op := Go.Op.assign (Go.Operand.tmp 66), type := 3, pos := "law.go:107", after := #[{ on := 0, ground := Go.Ground.data }, { on := 0, ground := Go.Ground.phase }, { on := 1, ground := Go.Ground.phase }, { on := 2, ground := Go.Ground.phase }, { on := 3, ground := Go.Ground.phase }], guard := none }
def o4_13_5 : Oper := { dst := none, op := Go.Op.store 41 (Go.Operand.tmp 12) (Go.Operand.tmp 68), type := 0, pos := "law.go:107", after := #[{ on := 3, ground := Go.Ground.data }, { on := 2, ground := Go.Ground.data }, { on := 4, ground := Go.Ground.chain }, { on := 0, ground := Go.Ground.phase }, { on := 1, ground := Go.Ground.phase }, { on := 2, ground := Go.Ground.phase }, { on := 3, ground := Go.Ground.phase }, { on := 4, ground := Go.Ground.phase }], guard := none }
def O4_13 : Array Oper := List.toArray (o4_13_0 :: o4_13_1 :: o4_13_2 :: o4_13_3 :: o4_13_4 :: o4_13_5 :: [])
theorem g4_13_0 : O4_13[0]? = some o4_13_0 := rfl
theorem g4_13_1 : O4_13[1]? = some o4_13_1 := rfl
theorem g4_13_2 : O4_13[2]? = some o4_13_2 := rfl
theorem g4_13_3 : O4_13[3]? = some o4_13_3 := rfl
theorem g4_13_4 : O4_13[4]? = some o4_13_4 := rfl
theorem g4_13_5 : O4_13[5]? = some o4_13_5 := rfl
def c4_52 : Code := Code.region 13 O4_13 false
def o4_14_0 : Oper := { dst := some 69, op := Go.Op.move (Go.Operand.tmp 11), type := 3, pos := "law.go:108", after := #[], guard := none }
def o4_14_1 : Oper := { dst := some 70, op := Go.Op.binOp Go.BinOp.gtr 3 (Go.Operand.tmp 69) (Go.Operand.const (Go.Value.int Go.IntKind.i64 0)) 3, type := 4, pos := "law.go:108", after := #[{ on := 0, ground := Go.Ground.data }], guard := none }
def o4_14_2 : Oper := { dst := some 71, op := Go.Op.move (Go.Operand.tmp 70), type := 4, pos := "law.go:108", after := #[{ on := 1, ground := Go.Ground.data }], guard := none }
def o4_14_3 : Oper := { dst := some 72, op := Go.Op.move (Go.Operand.tmp 5), type := 36, pos := "law.go:108", after := #[{ on := 2, ground := Go.Ground.guard }], guard := some (2, true) }
def o4_14_4 : Oper := { dst := some 73, op := Go.Op.move (Go.Operand.tmp 11), type := 3, pos := "law.go:108", after := #[{ on := 2, ground := Go.Ground.guard }], guard := some (2, true) }
def o4_14_5 : Oper := { dst := some 74, op := Go.Op.binOp Go.BinOp.sub 3 (Go.Operand.tmp 73) (Go.Operand.const (Go.Value.int Go.IntKind.i64 1)) 3, type := 3, pos := "law.go:108", after := #[{ on := 4, ground := Go.Ground.data }, { on := 2, ground := Go.Ground.guard }], guard := some (2, true) }
def o4_14_6 : Oper := { dst := some 75, op := Go.Op.indexAddr 36 (Go.Operand.tmp 72) (Go.Operand.tmp 74), type := 0, pos := "law.go:108", after := #[{ on := 3, ground := Go.Ground.data }, { on := 5, ground := Go.Ground.data }, { on := 2, ground := Go.Ground.guard }], guard := some (2, true) }
def o4_14_7 : Oper := { dst := some 76, op := Go.Op.fieldAddr 41 (Go.Operand.tmp 75) 0, type := 0, pos := "law.go:108", after := #[{ on := 6, ground := Go.Ground.data }, { on := 2, ground := Go.Ground.guard }], guard := some (2, true) }
def o4_14_8 : Oper := { dst := some 77, op := Go.Op.load 2 (Go.Operand.tmp 76), type := 2, pos := "law.go:108", after := #[{ on := 7, ground := Go.Ground.data }, { on := 2, ground := Go.Ground.guard }], guard := some (2, true) }
def o4_14_9 : Oper := { dst := some 78, op := Go.Op.fieldAddr 41 (Go.Operand.tmp 12) 0, type := 0, pos := "law.go:108", after := #[{ on := 2, ground := Go.Ground.guard }], guard := some (2, true) }
def o4_14_10 : Oper := { dst := some 79, op := Go.Op.load 2 (Go.Operand.tmp 78), type := 2, pos := "law.go:108", after := #[{ on := 9, ground := Go.Ground.data }, { on := 2, ground := Go.Ground.guard }], guard := some (2, true) }
def o4_14_11 : Oper := { dst := some 80, op := Go.Op.binOp Go.BinOp.geq 2 (Go.Operand.tmp 77) (Go.Operand.tmp 79) 2, type := 4, pos := "law.go:108", after := #[{ on := 8, ground := Go.Ground.data }, { on := 10, ground := Go.Ground.data }, { on := 2, ground := Go.Ground.guard }], guard := some (2, true) }
def o4_14_12 : Oper := { dst := some 81, op := Go.Op.pick (Go.Operand.tmp 71) (Go.Operand.tmp 80) (Go.Operand.const (Go.Value.bool false)), type := 4, pos := "law.go:108", after := #[{ on := 2, ground := Go.Ground.data }, { on := 11, ground := Go.Ground.data }], guard := none }
def O4_14 : Array Oper := List.toArray (o4_14_0 :: o4_14_1 :: o4_14_2 :: o4_14_3 :: o4_14_4 :: o4_14_5 :: o4_14_6 :: o4_14_7 :: o4_14_8 :: o4_14_9 :: o4_14_10 :: o4_14_11 :: o4_14_12 :: [])
theorem g4_14_0 : O4_14[0]? = some o4_14_0 := rfl
theorem g4_14_1 : O4_14[1]? = some o4_14_1 := rfl
theorem g4_14_2 : O4_14[2]? = some o4_14_2 := rfl
theorem g4_14_3 : O4_14[3]? = some o4_14_3 := rfl
theorem g4_14_4 : O4_14[4]? = some o4_14_4 := rfl
theorem g4_14_5 : O4_14[5]? = some o4_14_5 := rfl
theorem g4_14_6 : O4_14[6]? = some o4_14_6 := rfl
theorem g4_14_7 : O4_14[7]? = some o4_14_7 := rfl
theorem g4_14_8 : O4_14[8]? = some o4_14_8 := rfl
theorem g4_14_9 : O4_14[9]? = some o4_14_9 := rfl
theorem g4_14_10 : O4_14[10]? = some o4_14_10 := rfl
theorem g4_14_11 : O4_14[11]? = some o4_14_11 := rfl
theorem g4_14_12 : O4_14[12]? = some o4_14_12 := rfl
theorem ns4_14 : Region.noSelect O4_14 = true := by kernel_rfl
def c4_55 : Code := Code.region 14 O4_14 true
def o4_15_0 : Oper := { dst := some 4, op := Go.Op.assign (Go.Operand.const (Go.Value.bool false)), type := 4, pos := "law.go:109", after := #[], guard := none }
def O4_15 : Array Oper := List.toArray (o4_15_0 :: [])
theorem g4_15_0 : O4_15[0]? = some o4_15_0 := rfl
def c4_58 : Code := Code.region 15 O4_15 false
def c4_57 : Code := Code.seq c4_58 Code.ret
def c4_56 : Code := Code.cond (Go.Operand.tmp 81) c4_57 Code.skip
def c4_54 : Code := Code.seq c4_55 c4_56
def o4_16_0 : Oper := { dst := some 82, op := Go.Op.fieldAddr 41 (Go.Operand.tmp 12) 1, type := 0, pos := "law.go:111", after := #[], guard := none }
def o4_16_1 : Oper := { dst := some 83, op := Go.Op.load 24 (Go.Operand.tmp 82), type := 24, pos := "law.go:111", after := #[{ on := 0, ground := Go.Ground.data }], guard := none }
def o4_16_2 : Oper := { dst := some 84, op := Go.Op.call { callee := Go.Callee.value (Go.Operand.func 18), args := #[Go.Operand.tmp 83], argTypes := #[24] }, type := 30, pos := "law.go:111", after := #[{ on := 1, ground := Go.Ground.data }], guard := none }
def o4_16_3 : Oper := { dst := some 85, op := Go.Op.call { callee := Go.Callee.builtin Go.Builtin.len, args := #[Go.Operand.tmp 84], argTypes := #[30] }, type := 3, pos := "law.go:111", after := #[{ on := 2, ground := Go.Ground.data }], guard := none }
def o4_16_4 : Oper := { dst := some 86, op := Go.Op.move (Go.Operand.const (Go.Value.int Go.IntKind.i64 0)), type := 3, pos := "law.go:111", after := #[], guard := none }
def O4_16 : Array Oper := List.toArray (o4_16_0 :: o4_16_1 :: o4_16_2 :: o4_16_3 :: o4_16_4 :: [])
theorem g4_16_0 : O4_16[0]? = some o4_16_0 := rfl
theorem g4_16_1 : O4_16[1]? = some o4_16_1 := rfl
theorem g4_16_2 : O4_16[2]? = some o4_16_2 := rfl
theorem g4_16_3 : O4_16[3]? = some o4_16_3 := rfl
theorem g4_16_4 : O4_16[4]? = some o4_16_4 := rfl
def c4_62 : Code := Code.region 16 O4_16 false
def o4_17_0 : Oper := { dst := some 87, op := Go.Op.binOp Go.BinOp.lss 3 (Go.Operand.tmp 86) (Go.Operand.tmp 85) 3, type := 0, pos := "law.go:111", after := #[], guard := none }
def O4_17 : Array Oper := List.toArray (o4_17_0 :: [])
theorem g4_17_0 : O4_17[0]? = some o4_17_0 := rfl
def c4_66 : Code := Code.region 17 O4_17 false
def c4_70 : Code := Code.exit 2
def c4_68 : Code := Code.cond (Go.Operand.tmp 87) Code.skip c4_70
def o4_18_0 : Oper := { dst := some 88, op := Go.Op.indexAddr 30 (Go.Operand.tmp 84) (Go.Operand.tmp 86), type := 0, pos := "law.go:111", after := #[], guard := none }
def o4_18_1 : Oper := { dst := some 89, op := Go.Op.load 2 (Go.Operand.tmp 88), type := 2, pos := "law.go:111", after := #[{ on := 0, ground := Go.Ground.data }], guard := none }
def o4_18_2 : Oper := { dst := some 14, op := Go.Op.assign (Go.Operand.tmp 89), type := 2, pos := "law.go:111", after := #[{ on := 1, ground := Go.Ground.data }, { on := 0, ground := Go.Ground.phase }, { on := 1, ground := Go.Ground.phase }], guard := none }
def O4_18 : Array Oper := List.toArray (o4_18_0 :: o4_18_1 :: o4_18_2 :: [])
theorem g4_18_0 : O4_18[0]? = some o4_18_0 := rfl
theorem g4_18_1 : O4_18[1]? = some o4_18_1 := rfl
theorem g4_18_2 : O4_18[2]? = some o4_18_2 := rfl
def c4_74 : Code := Code.region 18 O4_18 false
def o4_19_0 : Oper := { dst := some 90, op := Go.Op.move (Go.Operand.tmp 5), type := 36, pos := "law.go:112", after := #[], guard := none }
def o4_19_1 : Oper := { dst := some 91, op := Go.Op.call { callee := Go.Callee.builtin Go.Builtin.len, args := #[Go.Operand.tmp 90], argTypes := #[36] }, type := 3, pos := "law.go:112", after := #[{ on := 0, ground := Go.Ground.data }], guard := none }
def o4_19_2 : Oper := { dst := some 92, op := Go.Op.move (Go.Operand.const (Go.Value.int Go.IntKind.i64 0)), type := 3, pos := "law.go:112", after := #[], guard := none }
def O4_19 : Array Oper := List.toArray (o4_19_0 :: o4_19_1 :: o4_19_2 :: [])
theorem g4_19_0 : O4_19[0]? = some o4_19_0 := rfl
theorem g4_19_1 : O4_19[1]? = some o4_19_1 := rfl
theorem g4_19_2 : O4_19[2]? = some o4_19_2 := rfl
def c4_76 : Code := Code.region 19 O4_19 false
def o4_20_0 : Oper := { dst := some 93, op := Go.Op.binOp Go.BinOp.lss 3 (Go.Operand.tmp 92) (Go.Operand.tmp 91) 3, type := 0, pos := "law.go:112", after := #[], guard := none }
def O4_20 : Array Oper := List.toArray (o4_20_0 :: [])
theorem g4_20_0 : O4_20[0]? = some o4_20_0 := rfl
def c4_80 : Code := Code.region 20 O4_20 false
def c4_84 : Code := Code.exit 4
def c4_82 : Code := Code.cond (Go.Operand.tmp 93) Code.skip c4_84
def o4_21_0 : Oper := { dst := some 94, op := Go.Op.indexAddr 36 (Go.Operand.tmp 90) (Go.Operand.tmp 92), type := 0, pos := "law.go:112", after := #[], guard := none }
def o4_21_1 : Oper := { dst := some 95, op := Go.Op.load 41 (Go.Operand.tmp 94), type := 41, pos := "law.go:112", after := #[{ on := 0, ground := Go.Ground.data }], guard := none }
def o4_21_2 : Oper := { dst := some 16, op := Go.Op.alloc 41, type := 0, pos := "law.go:112", after := #[], guard := none }
def o4_21_3 : Oper := { dst := none, op := Go.Op.store 41 (Go.Operand.tmp 16) (Go.Operand.tmp 95), type := 0, pos := "law.go:112", after := #[{ on := 2, ground := Go.Ground.data }, { on := 1, ground := Go.Ground.data }, { on := 0, ground := Go.Ground.phase }, { on := 1, ground := Go.Ground.phase }, { on := 2, ground := Go.Ground.phase }], guard := none }
def O4_21 : Array Oper := List.toArray (o4_21_0 :: o4_21_1 :: o4_21_2 :: o4_21_3 :: [])
theorem g4_21_0 : O4_21[0]? = some o4_21_0 := rfl
theorem g4_21_1 : O4_21[1]? = some o4_21_1 := rfl
theorem g4_21_2 : O4_21[2]? = some o4_21_2 := rfl
theorem g4_21_3 : O4_21[3]? = some o4_21_3 := rfl
def c4_88 : Code := Code.region 21 O4_21 false
def o4_22_0 : Oper := { dst := some 96, op := Go.Op.fieldAddr 41 (Go.Operand.tmp 16) 0, type := 0, pos := "law.go:113", after := #[], guard := none }
def o4_22_1 : Oper := { dst := some 97, op := Go.Op.load 2 (Go.Operand.tmp 96), type := 2, pos := "law.go:113", after := #[{ on := 0, ground := Go.Ground.data }], guard := none }
def o4_22_2 : Oper := { dst := some 98, op := Go.Op.move (Go.Operand.tmp 14), type := 2, pos := "law.go:113", after := #[], guard := none }
def o4_22_3 : Oper := { dst := some 99, op := Go.Op.binOp Go.BinOp.eql 2 (Go.Operand.tmp 97) (Go.Operand.tmp 98) 2, type := 4, pos := "law.go:113", after := #[{ on := 1, ground := Go.Ground.data }, { on := 2, ground := Go.Ground.data }], guard := none }
def O4_22 : Array Oper := List.toArray (o4_22_0 :: o4_22_1 :: o4_22_2 :: o4_22_3 :: [])
theorem g4_22_0 : O4_22[0]? = some o4_22_0 := rfl
theorem g4_22_1 : O4_22[1]? = some o4_22_1 := rfl
theorem g4_22_2 : O4_22[2]? = some o4_22_2 := rfl
theorem g4_22_3 : O4_22[3]? = some o4_22_3 := rfl
def c4_90 : Code := Code.region 22 O4_22 false
def o4_23_0 : Oper := { dst := some 4, op := Go.Op.assign (Go.Operand.const (Go.Value.bool false)), type := 4, pos := "law.go:114", after := #[], guard := none }
def O4_23 : Array Oper := List.toArray (o4_23_0 :: [])
theorem g4_23_0 : O4_23[0]? = some o4_23_0 := rfl
def c4_93 : Code := Code.region 23 O4_23 false
def c4_92 : Code := Code.seq c4_93 Code.ret
def c4_91 : Code := Code.cond (Go.Operand.tmp 99) c4_92 Code.skip
def c4_89 : Code := Code.seq c4_90 c4_91
def c4_87 : Code := Code.seq c4_88 c4_89
def c4_86 : Code := Code.block 5 c4_87
def o4_24_0 : Oper := { dst := some 100, op := Go.Op.binOp Go.BinOp.add 3 (Go.Operand.tmp 92) (Go.Operand.const (Go.Value.int Go.IntKind.i64 1)) 3, type := 3, pos := "law.go:112", after := #[], guard := none }
def o4_24_1 : Oper := { dst := some 92, op := Go.Op.move (Go.Operand.tmp 100), type := 3, pos := "law.go:112", after := #[{ on := 0, ground := Go.Ground.data }], guard := none }
def O4_24 : Array Oper := List.toArray (o4_24_0 :: o4_24_1 :: [])
theorem g4_24_0 : O4_24[0]? = some o4_24_0 := rfl
theorem g4_24_1 : O4_24[1]? = some o4_24_1 := rfl
def c4_96 : Code := Code.region 24 O4_24 false
def c4_85 : Code := Code.seq c4_86 c4_96
def c4_81 : Code := Code.seq c4_82 c4_85
def c4_79 : Code := Code.seq c4_80 c4_81
def c4_78 : Code := Code.loop c4_79
def c4_77 : Code := Code.block 4 c4_78
def c4_75 : Code := Code.seq c4_76 c4_77
def c4_73 : Code := Code.seq c4_74 c4_75
def c4_72 : Code := Code.block 3 c4_73
def o4_25_0 : Oper := { dst := some 101, op := Go.Op.binOp Go.BinOp.add 3 (Go.Operand.tmp 86) (Go.Operand.const (Go.Value.int Go.IntKind.i64 1)) 3, type := 3, pos := "law.go:111", after := #[], guard := none }
def o4_25_1 : Oper := { dst := some 86, op := Go.Op.move (Go.Operand.tmp 101), type := 3, pos := "law.go:111", after := #[{ on := 0, ground := Go.Ground.data }], guard := none }
def O4_25 : Array Oper := List.toArray (o4_25_0 :: o4_25_1 :: [])
theorem g4_25_0 : O4_25[0]? = some o4_25_0 := rfl
theorem g4_25_1 : O4_25[1]? = some o4_25_1 := rfl
def c4_97 : Code := Code.region 25 O4_25 false
def c4_71 : Code := Code.seq c4_72 c4_97
def c4_67 : Code := Code.seq c4_68 c4_71
def c4_65 : Code := Code.seq c4_66 c4_67
def c4_64 : Code := Code.loop c4_65
def c4_63 : Code := Code.block 2 c4_64
def c4_61 : Code := Code.seq c4_62 c4_63
def c4_53 : Code := Code.seq c4_54 c4_61
def c4_51 : Code := Code.seq c4_52 c4_53
def c4_50 : Code := Code.block 1 c4_51
def o4_26_0 : Oper := { dst := some 102, op := Go.Op.binOp Go.BinOp.add 3 (Go.Operand.tmp 64) (Go.Operand.const (Go.Value.int Go.IntKind.i64 1)) 3, type := 3, pos := "law.go:107", after := #[], guard := none }
def o4_26_1 : Oper := { dst := some 64, op := Go.Op.move (Go.Operand.tmp 102), type := 3, pos := "law.go:107", after := #[{ on := 0, ground := Go.Ground.data }], guard := none }
def O4_26 : Array Oper := List.toArray (o4_26_0 :: o4_26_1 :: [])
theorem g4_26_0 : O4_26[0]? = some o4_26_0 := rfl
theorem g4_26_1 : O4_26[1]? = some o4_26_1 := rfl
def c4_98 : Code := Code.region 26 O4_26 false
def c4_49 : Code := Code.seq c4_50 c4_98
def c4_45 : Code := Code.seq c4_46 c4_49
def c4_43 : Code := Code.seq c4_44 c4_45
def c4_42 : Code := Code.loop c4_43
def c4_41 : Code := Code.block 0 c4_42
def c4_39 : Code := Code.seq c4_40 c4_41
def o4_27_0 : Oper := { dst := some 104, op := Go.Op.load 24 (Go.Operand.tmp 2), type := 24, pos := "law.go:119", after := #[], guard := none }
def o4_27_1 : Oper := { dst := some 105, op := Go.Op.move (Go.Operand.tmp 5), type := 36, pos := "law.go:119", after := #[], guard := none }
def o4_27_2 : Oper := { dst := some 106, op := Go.Op.call { callee := Go.Callee.value (Go.Operand.func 30), args := #[Go.Operand.tmp 104, Go.Operand.tmp 105], argTypes := #[24, 36] }, type := 42, pos := "law.go:119", after := #[{ on := 0, ground := Go.Ground.data }, { on := 1, ground := Go.Ground.data }], guard := none }
def o4_27_3 : Oper := { dst := some 103, op := Go.Op.move (Go.Operand.tmp 106), type := 42, pos := "law.go:119", after := #[{ on := 2, ground := Go.Ground.data }], guard := none }
def o4_27_4 : Oper := { dst := some 107, op := Go.Op.extract (Go.Operand.tmp 103) 0, type := 24, pos := "law.go:119", after := #[{ on := 3, ground := Go.Ground.data }], guard := none }
def o4_27_5 : Oper := { dst := some 108, op := Go.Op.extract (Go.Operand.tmp 103) 1, type := 27, pos := "law.go:119", after := #[{ on := 3, ground := Go.Ground.data }, { on := 7, ground := Go.Ground.gcOnly Go.Departure.lateStores }], guard := none }
def o4_27_6 : Oper := { dst := some 17, op := Go.Op.alloc 24, type := 0, pos := "law.go:119", after := #[], guard := none }
def o4_27_7 : Oper := { dst := none, op := Go.Op.store 24 (Go.Operand.tmp 17) (Go.Operand.tmp 107), type := 0, pos := "law.go:119", after := #[{ on := 6, ground := Go.Ground.data }, { on := 4, ground := Go.Ground.data }, { on := 2, ground := Go.Ground.chain }, { on := 0, ground := Go.Ground.phase }, { on := 1, ground := Go.Ground.phase }, { on := 2, ground := Go.Ground.phase }, { on := 3, ground := Go.Ground.phase }, { on := 4, ground := Go.Ground.phase }, { on := 5, ground := Go.Ground.textOnly Go.Departure.lateStores }, { on := 6, ground := Go.Ground.phase }], guard := none }
def o4_27_8 : Oper := { dst := some 18, op := Go.Op.assign (Go.Operand.tmp 108), type := 27, pos := "law.go:119", after := #[{ on := 5, ground := Go.Ground.data }, { on := 7, ground := Go.Ground.chain }, { on := 0, ground := Go.Ground.phase }, { on := 1, ground := Go.Ground.phase }, { on := 2, ground := Go.Ground.phase }, { on := 3, ground := Go.Ground.phase }, { on := 4, ground := Go.Ground.phase }, { on := 5, ground := Go.Ground.phase }, { on := 6, ground := Go.Ground.phase }, { on := 7, ground := Go.Ground.phase }], guard := none }
def O4_27 : Array Oper := List.toArray (o4_27_0 :: o4_27_1 :: o4_27_2 :: o4_27_3 :: o4_27_4 :: o4_27_5 :: o4_27_6 :: o4_27_7 :: o4_27_8 :: [])
theorem g4_27_0 : O4_27[0]? = some o4_27_0 := rfl
theorem g4_27_1 : O4_27[1]? = some o4_27_1 := rfl
theorem g4_27_2 : O4_27[2]? = some o4_27_2 := rfl
theorem g4_27_3 : O4_27[3]? = some o4_27_3 := rfl
theorem g4_27_4 : O4_27[4]? = some o4_27_4 := rfl
theorem g4_27_5 : O4_27[5]? = some o4_27_5 := rfl
theorem g4_27_6 : O4_27[6]? = some o4_27_6 := rfl
theorem g4_27_7 : O4_27[7]? = some o4_27_7 := rfl
theorem g4_27_8 : O4_27[8]? = some o4_27_8 := rfl
def c4_100 : Code := Code.region 27 O4_27 false
def o4_28_0 : Oper := { dst := some 110, op := Go.Op.load 24 (Go.Operand.tmp 3), type := 24, pos := "law.go:120", after := #[], guard := none }
def o4_28_1 : Oper := { dst := some 111, op := Go.Op.move (Go.Operand.tmp 5), type := 36, pos := "law.go:120", after := #[], guard := none }
def o4_28_2 : Oper := { dst := some 112, op := Go.Op.call { callee := Go.Callee.value (Go.Operand.func 30), args := #[Go.Operand.tmp 110, Go.Operand.tmp 111], argTypes := #[24, 36] }, type := 42, pos := "law.go:120", after := #[{ on := 0, ground := Go.Ground.data }, { on := 1, ground := Go.Ground.data }], guard := none }
def o4_28_3 : Oper := { dst := some 109, op := Go.Op.move (Go.Operand.tmp 112), type := 42, pos := "law.go:120", after := #[{ on := 2, ground := Go.Ground.data }], guard := none }
def o4_28_4 : Oper := { dst := some 113, op := Go.Op.extract (Go.Operand.tmp 109) 0, type := 24, pos := "law.go:120", after := #[{ on := 3, ground := Go.Ground.data }], guard := none }
def o4_28_5 : Oper := { dst := some 114, op := Go.Op.extract (Go.Operand.tmp 109) 1, type := 27, pos := "law.go:120", after := #[{ on := 3, ground := Go.Ground.data }, { on := 7, ground := Go.Ground.gcOnly Go.Departure.lateStores }], guard := none }
def o4_28_6 : Oper := { dst := some 19, op := Go.Op.alloc 24, type := 0, pos := "law.go:120", after := #[], guard := none }
def o4_28_7 : Oper := { dst := none, op := Go.Op.store 24 (Go.Operand.tmp 19) (Go.Operand.tmp 113), type := 0, pos := "law.go:120", after := #[{ on := 6, ground := Go.Ground.data }, { on := 4, ground := Go.Ground.data }, { on := 2, ground := Go.Ground.chain }, { on := 0, ground := Go.Ground.phase }, { on := 1, ground := Go.Ground.phase }, { on := 2, ground := Go.Ground.phase }, { on := 3, ground := Go.Ground.phase }, { on := 4, ground := Go.Ground.phase }, { on := 5, ground := Go.Ground.textOnly Go.Departure.lateStores }, { on := 6, ground := Go.Ground.phase }], guard := none }
def o4_28_8 : Oper := { dst := some 20, op := Go.Op.assign (Go.Operand.tmp 114), type := 27, pos := "law.go:120", after := #[{ on := 5, ground := Go.Ground.data }, { on := 7, ground := Go.Ground.chain }, { on := 0, ground := Go.Ground.phase }, { on := 1, ground := Go.Ground.phase }, { on := 2, ground := Go.Ground.phase }, { on := 3, ground := Go.Ground.phase }, { on := 4, ground := Go.Ground.phase }, { on := 5, ground := Go.Ground.phase }, { on := 6, ground := Go.Ground.phase }, { on := 7, ground := Go.Ground.phase }], guard := none }
def O4_28 : Array Oper := List.toArray (o4_28_0 :: o4_28_1 :: o4_28_2 :: o4_28_3 :: o4_28_4 :: o4_28_5 :: o4_28_6 :: o4_28_7 :: o4_28_8 :: [])
theorem g4_28_0 : O4_28[0]? = some o4_28_0 := rfl
theorem g4_28_1 : O4_28[1]? = some o4_28_1 := rfl
theorem g4_28_2 : O4_28[2]? = some o4_28_2 := rfl
theorem g4_28_3 : O4_28[3]? = some o4_28_3 := rfl
theorem g4_28_4 : O4_28[4]? = some o4_28_4 := rfl
theorem g4_28_5 : O4_28[5]? = some o4_28_5 := rfl
theorem g4_28_6 : O4_28[6]? = some o4_28_6 := rfl
theorem g4_28_7 : O4_28[7]? = some o4_28_7 := rfl
theorem g4_28_8 : O4_28[8]? = some o4_28_8 := rfl
def c4_102 : Code := Code.region 28 O4_28 false
def o4_29_0 : Oper := { dst := some 115, op := Go.Op.move (Go.Operand.tmp 18), type := 27, pos := "law.go:121", after := #[], guard := none }
def o4_29_1 : Oper := { dst := some 116, op := Go.Op.binOp Go.BinOp.neq 27 (Go.Operand.tmp 115) (Go.Operand.const (Go.Value.int Go.IntKind.i64 0)) 27, type := 4, pos := "law.go:121", after := #[{ on := 0, ground := Go.Ground.data }], guard := none }
def o4_29_2 : Oper := { dst := some 117, op := Go.Op.move (Go.Operand.tmp 116), type := 4, pos := "law.go:121", after := #[{ on := 1, ground := Go.Ground.data }], guard := none }
def o4_29_3 : Oper := { dst := some 118, op := Go.Op.move (Go.Operand.tmp 20), type := 27, pos := "law.go:121", after := #[{ on := 2, ground := Go.Ground.guard }], guard := some (2, false) }
def o4_29_4 : Oper := { dst := some 119, op := Go.Op.binOp Go.BinOp.neq 27 (Go.Operand.tmp 118) (Go.Operand.const (Go.Value.int Go.IntKind.i64 0)) 27, type := 4, pos := "law.go:121", after := #[{ on := 3, ground := Go.Ground.data }, { on := 2, ground := Go.Ground.guard }], guard := some (2, false) }
def o4_29_5 : Oper := { dst := some 120, op := Go.Op.pick (Go.Operand.tmp 117) (Go.Operand.const (Go.Value.bool true)) (Go.Operand.tmp 119), type := 4, pos := "law.go:121", after := #[{ on := 2, ground := Go.Ground.data }, { on := 4, ground := Go.Ground.data }], guard := none }
def O4_29 : Array Oper := List.toArray (o4_29_0 :: o4_29_1 :: o4_29_2 :: o4_29_3 :: o4_29_4 :: o4_29_5 :: [])
theorem g4_29_0 : O4_29[0]? = some o4_29_0 := rfl
theorem g4_29_1 : O4_29[1]? = some o4_29_1 := rfl
theorem g4_29_2 : O4_29[2]? = some o4_29_2 := rfl
theorem g4_29_3 : O4_29[3]? = some o4_29_3 := rfl
theorem g4_29_4 : O4_29[4]? = some o4_29_4 := rfl
theorem g4_29_5 : O4_29[5]? = some o4_29_5 := rfl
def c4_105 : Code := Code.region 29 O4_29 false
def o4_30_0 : Oper := { dst := some 121, op := Go.Op.move (Go.Operand.tmp 18), type := 27, pos := "law.go:122", after := #[], guard := none }
def o4_30_1 : Oper := { dst := some 122, op := Go.Op.binOp Go.BinOp.eql 27 (Go.Operand.tmp 121) (Go.Operand.const (Go.Value.int Go.IntKind.i64 2)) 27, type := 4, pos := "law.go:122", after := #[{ on := 0, ground := Go.Ground.data }], guard := none }
def o4_30_2 : Oper := { dst := some 123, op := Go.Op.move (Go.Operand.tmp 122), type := 4, pos := "law.go:122", after := #[{ on := 1, ground := Go.Ground.data }], guard := none }
def o4_30_3 : Oper := { dst := some 124, op := Go.Op.move (Go.Operand.tmp 20), type := 27, pos := "law.go:122", after := #[{ on := 2, ground := Go.Ground.guard }], guard := some (2, false) }
def o4_30_4 : Oper := { dst := some 125, op := Go.Op.binOp Go.BinOp.eql 27 (Go.Operand.tmp 124) (Go.Operand.const (Go.Value.int Go.IntKind.i64 2)) 27, type := 4, pos := "law.go:122", after := #[{ on := 3, ground := Go.Ground.data }, { on := 2, ground := Go.Ground.guard }], guard := some (2, false) }
def o4_30_5 : Oper := { dst := some 126, op := Go.Op.pick (Go.Operand.tmp 123) (Go.Operand.const (Go.Value.bool true)) (Go.Operand.tmp 125), type := 4, pos := "law.go:122", after := #[{ on := 2, ground := Go.Ground.data }, { on := 4, ground := Go.Ground.data }], guard := none }
def o4_30_6 : Oper := { dst := some 4, op := Go.Op.assign (Go.Operand.tmp 126), type := 4, pos := "law.go:122", after := #[{ on := 5, ground := Go.Ground.data }, { on := 2, ground := Go.Ground.chain }, { on := 0, ground := Go.Ground.phase }, { on := 1, ground := Go.Ground.phase }, { on := 2, ground := Go.Ground.phase }, { on := 3, ground := Go.Ground.phase }, { on := 4, ground := Go.Ground.phase }, { on := 5, ground := Go.Ground.phase }], guard := none }
def O4_30 : Array Oper := List.toArray (o4_30_0 :: o4_30_1 :: o4_30_2 :: o4_30_3 :: o4_30_4 :: o4_30_5 :: o4_30_6 :: [])
theorem g4_30_0 : O4_30[0]? = some o4_30_0 := rfl
theorem g4_30_1 : O4_30[1]? = some o4_30_1 := rfl
theorem g4_30_2 : O4_30[2]? = some o4_30_2 := rfl
theorem g4_30_3 : O4_30[3]? = some o4_30_3 := rfl
theorem g4_30_4 : O4_30[4]? = some o4_30_4 := rfl
theorem g4_30_5 : O4_30[5]? = some o4_30_5 := rfl
theorem g4_30_6 : O4_30[6]? = some o4_30_6 := rfl
def c4_108 : Code := Code.region 30 O4_30 false
def c4_107 : Code := Code.seq c4_108 Code.ret
def c4_106 : Code := Code.cond (Go.Operand.tmp 120) c4_107 Code.skip
def c4_104 : Code := Code.seq c4_105 c4_106
def o4_31_0 : Oper := { dst := some 128, op := Go.Op.load 24 (Go.Operand.tmp 17), type := 24, pos := "law.go:124", after := #[], guard := none }
def o4_31_1 : Oper := { dst := some 129, op := Go.Op.load 24 (Go.Operand.tmp 19), type := 24, pos := "law.go:124", after := #[], guard := none }
def o4_31_2 : Oper := { dst := some 130, op := Go.Op.call { callee := Go.Callee.value (Go.Operand.func 28), args := #[Go.Operand.tmp 128, Go.Operand.tmp 129], argTypes := #[24, 24] }, type := 37, pos := "law.go:124", after := #[{ on := 0, ground := Go.Ground.data }, { on := 1, ground := Go.Ground.data }], guard := none }
def o4_31_3 : Oper := { dst := some 127, op := Go.Op.move (Go.Operand.tmp 130), type := 37, pos := "law.go:124", after := #[{ on := 2, ground := Go.Ground.data }], guard := none }
def o4_31_4 : Oper := { dst := some 131, op := Go.Op.extract (Go.Operand.tmp 127) 0, type := 36, pos := "law.go:124", after := #[{ on := 3, ground := Go.Ground.data }], guard := none }
def o4_31_5 : Oper := { dst := some 132, op := Go.Op.extract (Go.Operand.tmp 127) 1, type := 4, pos := "law.go:124", after := #[{ on := 3, ground := Go.Ground.data }, { on := 7, ground := Go.Ground.gcOnly Go.Departure.lateStores }], guard := none }
def o4_31_6 : Oper := { dst := some 133, op := Go.Op.extract (Go.Operand.tmp 127) 2, type := 27, pos := "law.go:124", after := #[{ on := 3, ground := Go.Ground.data }, { on := 8, ground := Go.Ground.gcOnly Go.Departure.lateStores }], guard := none }
def o4_31_7 : Oper := { dst := some 21, op := Go.Op.assign (Go.Operand.tmp 131), type := 36, pos := "law.go:124", after := #[{ on := 4, ground := Go.Ground.data }, { on := 2, ground := Go.Ground.chain }, { on := 0, ground := Go.Ground.phase }, { on := 1, ground := Go.Ground.phase }, { on := 2, ground := Go.Ground.phase }, { on := 3, ground := Go.Ground.phase }, { on := 4, ground := Go.Ground.phase }, { on := 5, ground := Go.Ground.textOnly Go.Departure.lateStores }, { on := 6, ground := Go.Ground.textOnly Go.Departure.lateStores }], guard := none }
def o4_31_8 : Oper := { dst := some 22, op := Go.Op.assign (Go.Operand.tmp 132), type := 4, pos := "law.go:124", after := #[{ on := 5, ground := Go.Ground.data }, { on := 7, ground := Go.Ground.chain }, { on := 0, ground := Go.Ground.phase }, { on := 1, ground := Go.Ground.phase }, { on := 2, ground := Go.Ground.phase }, { on := 3, ground := Go.Ground.phase }, { on := 4, ground := Go.Ground.phase }, { on := 5, ground := Go.Ground.phase }, { on := 6, ground := Go.Ground.textOnly Go.Departure.lateStores }, { on := 7, ground := Go.Ground.phase }], guard := none }
def o4_31_9 : Oper := { dst := some 23, op := Go.Op.assign (Go.Operand.tmp 133), type := 27, pos := "law.go:124", after := #[{ on := 6, ground := Go.Ground.data }, { on := 8, ground := Go.Ground.chain }, { on := 0, ground := Go.Ground.phase }, { on := 1, ground := Go.Ground.phase }, { on := 2, ground := Go.Ground.phase }, { on := 3, ground := Go.Ground.phase }, { on := 4, ground := Go.Ground.phase }, { on := 5, ground := Go.Ground.phase }, { on := 6, ground := Go.Ground.phase }, { on := 7, ground := Go.Ground.phase }, { on := 8, ground := Go.Ground.phase }], guard := none }
def O4_31 : Array Oper := List.toArray (o4_31_0 :: o4_31_1 :: o4_31_2 :: o4_31_3 :: o4_31_4 :: o4_31_5 :: o4_31_6 :: o4_31_7 :: o4_31_8 :: o4_31_9 :: [])
theorem g4_31_0 : O4_31[0]? = some o4_31_0 := rfl
theorem g4_31_1 : O4_31[1]? = some o4_31_1 := rfl
theorem g4_31_2 : O4_31[2]? = some o4_31_2 := rfl
theorem g4_31_3 : O4_31[3]? = some o4_31_3 := rfl
theorem g4_31_4 : O4_31[4]? = some o4_31_4 := rfl
theorem g4_31_5 : O4_31[5]? = some o4_31_5 := rfl
theorem g4_31_6 : O4_31[6]? = some o4_31_6 := rfl
theorem g4_31_7 : O4_31[7]? = some o4_31_7 := rfl
theorem g4_31_8 : O4_31[8]? = some o4_31_8 := rfl
theorem g4_31_9 : O4_31[9]? = some o4_31_9 := rfl
def c4_112 : Code := Code.region 31 O4_31 false
def o4_32_0 : Oper := { dst := some 134, op := Go.Op.load 24 (Go.Operand.tmp 17), type := 24, pos := "law.go:125", after := #[], guard := none }
def o4_32_1 : Oper := { dst := some 135, op := Go.Op.load 24 (Go.Operand.tmp 19), type := 24, pos := "law.go:125", after := #[], guard := none }
def o4_32_2 : Oper := { dst := some 136, op := Go.Op.call { callee := Go.Callee.value (Go.Operand.func 19), args := #[Go.Operand.tmp 134, Go.Operand.tmp 135], argTypes := #[24, 24] }, type := 4, pos := "law.go:125", after := #[{ on := 0, ground := Go.Ground.data }, { on := 1, ground := Go.Ground.data }], guard := none }
def o4_32_3 : Oper := { dst := some 137, op := Go.Op.move (Go.Operand.tmp 136), type := 4, pos := "law.go:125", after := #[{ on := 2, ground := Go.Ground.data }, { on := 2, ground := Go.Ground.chain }], guard := none }
def o4_32_4 : Oper := { dst := some 138, op := Go.Op.move (Go.Operand.tmp 22), type := 4, pos := "law.go:125", after := #[{ on := 3, ground := Go.Ground.guard }], guard := some (3, true) }
def o4_32_5 : Oper := { dst := some 139, op := Go.Op.pick (Go.Operand.tmp 137) (Go.Operand.tmp 138) (Go.Operand.const (Go.Value.bool false)), type := 4, pos := "law.go:125", after := #[{ on := 3, ground := Go.Ground.data }, { on := 4, ground := Go.Ground.data }], guard := none }
def o4_32_6 : Oper := { dst := some 140, op := Go.Op.move (Go.Operand.tmp 139), type := 4, pos := "law.go:125", after := #[{ on := 5, ground := Go.Ground.data }, { on := 3, ground := Go.Ground.chain }], guard := none }
def o4_32_7 : Oper := { dst := some 141, op := Go.Op.move (Go.Operand.tmp 23), type := 27, pos := "law.go:125", after := #[{ on := 6, ground := Go.Ground.guard }], guard := some (6, true) }
def o4_32_8 : Oper := { dst := some 142, op := Go.Op.binOp Go.BinOp.eql 27 (Go.Operand.tmp 141) (Go.Operand.const (Go.Value.int Go.IntKind.i64 0)) 27, type := 4, pos := "law.go:125", after := #[{ on := 7, ground := Go.Ground.data }, { on := 6, ground := Go.Ground.guard }], guard := some (6, true) }
def o4_32_9 : Oper := { dst := some 143, op := Go.Op.pick (Go.Operand.tmp 140) (Go.Operand.tmp 142) (Go.Operand.const (Go.Value.bool false)), type := 4, pos := "law.go:125", after := #[{ on := 6, ground := Go.Ground.data }, { on := 8, ground := Go.Ground.data }], guard := none }
def o4_32_10 : Oper := { dst := some 144, op := Go.Op.move (Go.Operand.tmp 143), type := 4, pos := "law.go:125", after := #[{ on := 9, ground := Go.Ground.data }, { on := 6, ground := Go.Ground.chain }], guard := none }
def o4_32_11 : Oper := { dst := some 145, op := Go.Op.move (Go.Operand.tmp 21), type := 36, pos := "law.go:125", after := #[{ on := 10, ground := Go.Ground.guard }], guard := some (10, true) }
def o4_32_12 : Oper := { dst := some 146, op := Go.Op.call { callee := Go.Callee.builtin Go.Builtin.len, args := #[Go.Operand.tmp 145], argTypes := #[36] }, type := 3, pos := "law.go:125", after := #[{ on := 11, ground := Go.Ground.data }, { on := 10, ground := Go.Ground.guard }], guard := some (10, true) }
def o4_32_13 : Oper := { dst := some 147, op := Go.Op.binOp Go.BinOp.eql 3 (Go.Operand.tmp 146) (Go.Operand.const (Go.Value.int Go.IntKind.i64 0)) 3, type := 4, pos := "law.go:125", after := #[{ on := 12, ground := Go.Ground.data }, { on := 10, ground := Go.Ground.guard }], guard := some (10, true) }
def o4_32_14 : Oper := { dst := some 148, op := Go.Op.pick (Go.Operand.tmp 144) (Go.Operand.tmp 147) (Go.Operand.const (Go.Value.bool false)), type := 4, pos := "law.go:125", after := #[{ on := 10, ground := Go.Ground.data }, { on := 13, ground := Go.Ground.data }], guard := none }
def o4_32_15 : Oper := { dst := some 4, op := Go.Op.assign (Go.Operand.tmp 148), type := 4, pos := "law.go:125", after := #[{ on := 14, ground := Go.Ground.data }, { on := 10, ground := Go.Ground.chain }, { on := 0, ground := Go.Ground.phase }, { on := 1, ground := Go.Ground.phase }, { on := 2, ground := Go.Ground.phase }, { on := 3, ground := Go.Ground.phase }, { on := 4, ground := Go.Ground.phase }, { on := 5, ground := Go.Ground.phase }, { on := 6, ground := Go.Ground.phase }, { on := 7, ground := Go.Ground.phase }, { on := 8, ground := Go.Ground.phase }, { on := 9, ground := Go.Ground.phase }, { on := 10, ground := Go.Ground.phase }, { on := 11, ground := Go.Ground.phase }, { on := 12, ground := Go.Ground.phase }, { on := 13, ground := Go.Ground.phase }, { on := 14, ground := Go.Ground.phase }], guard := none }
def O4_32 : Array Oper := List.toArray (o4_32_0 :: o4_32_1 :: o4_32_2 :: o4_32_3 :: o4_32_4 :: o4_32_5 :: o4_32_6 :: o4_32_7 :: o4_32_8 :: o4_32_9 :: o4_32_10 :: o4_32_11 :: o4_32_12 :: o4_32_13 :: o4_32_14 :: o4_32_15 :: [])
theorem g4_32_0 : O4_32[0]? = some o4_32_0 := rfl
theorem g4_32_1 : O4_32[1]? = some o4_32_1 := rfl
theorem g4_32_2 : O4_32[2]? = some o4_32_2 := rfl
theorem g4_32_3 : O4_32[3]? = some o4_32_3 := rfl
theorem g4_32_4 : O4_32[4]? = some o4_32_4 := rfl
theorem g4_32_5 : O4_32[5]? = some o4_32_5 := rfl
theorem g4_32_6 : O4_32[6]? = some o4_32_6 := rfl
theorem g4_32_7 : O4_32[7]? = some o4_32_7 := rfl
theorem g4_32_8 : O4_32[8]? = some o4_32_8 := rfl
theorem g4_32_9 : O4_32[9]? = some o4_32_9 := rfl
theorem g4_32_10 : O4_32[10]? = some o4_32_10 := rfl
theorem g4_32_11 : O4_32[11]? = some o4_32_11 := rfl
theorem g4_32_12 : O4_32[12]? = some o4_32_12 := rfl
theorem g4_32_13 : O4_32[13]? = some o4_32_13 := rfl
theorem g4_32_14 : O4_32[14]? = some o4_32_14 := rfl
theorem g4_32_15 : O4_32[15]? = some o4_32_15 := rfl
def c4_114 : Code := Code.region 32 O4_32 false
def c4_113 : Code := Code.seq c4_114 Code.ret
def c4_111 : Code := Code.seq c4_112 c4_113
def c4_103 : Code := Code.seq c4_104 c4_111
def c4_101 : Code := Code.seq c4_102 c4_103
def c4_99 : Code := Code.seq c4_100 c4_101
def c4_38 : Code := Code.seq c4_39 c4_99
def c4_30 : Code := Code.seq c4_31 c4_38
def c4_22 : Code := Code.seq c4_23 c4_30
def c4_14 : Code := Code.seq c4_15 c4_22
def c4_12 : Code := Code.seq c4_13 c4_14
def c4_10 : Code := Code.seq c4_11 c4_12
def c4_2 : Code := Code.seq c4_3 c4_10
def c4_0 : Code := Code.seq c4_1 c4_2
theorem body4 : Try.f4.body = some c4_0 := by kernel_rfl

set_option maxRecDepth 100000 in
set_option maxHeartbeats 4000000 in
theorem uw {W : World} {t u : Tm} {ta ua : Option Addr} {tc uc : Nat} {f0 : Act} {w0 : World} (R : FrS 149 f0) (h0 : f0.tmps[0]? = some (.agg #[.int .i64 t.k, .string (str t.nm), .int .i64 t.i, .slice ta t.args.length tc])) (h1 : f0.tmps[1]? = some (.agg #[.int .i64 u.k, .string (str u.nm), .int .i64 u.i, .slice ua u.args.length uc])) (K1 : Keep (fun g => g < W.heap.size) W w0)  (HT : Hid (TmAt W.heap.size W t ta tc)) (HU : Hid (TmAt W.heap.size W u ua uc)) : c4_0.wp Try.prog (bodyPost Try.prog Try.f4 (fun e w' => e = .returned (.bool true) ∧ Keep (fun g => g < W.heap.size) W w')) f0 w0 := by
  refine wp_seq (x := c4_1) (y := c4_2) ?_
  change (Code.region 0 O4_0 false).wp _ _ _ _
  refine reg_in (l := [0, 1, 2]) rfl ?_
  have MK1 := K1
  have Y : (execOp f0.eval o4_0_0).run Try.prog w0 = .ok (.value (.pointer (some ⟨w0.heap.size, 0, none⟩))) (w0.alloc (.cells #[.int .i64 t.k, .string (str t.nm), .int .i64 t.i, .slice ta t.args.length tc] 24)) := by unfold o4_0_0; go_simp
  have B1 := Blk.new w0 24 #[.int .i64 t.k, .string (str t.nm), .int .i64 t.i, .slice ta t.args.length tc]
  replace K1 := K1.alloc (.cells #[.int .i64 t.k, .string (str t.nm), .int .i64 t.i, .slice ta t.args.length tc] 24)
  obtain ⟨w2, hw2⟩ : ∃ x, x = w0.alloc (.cells #[.int .i64 t.k, .string (str t.nm), .int .i64 t.i, .slice ta t.args.length tc] 24) := ⟨_, rfl⟩
  rw [← hw2] at Y B1 K1
  obtain ⟨b1, hb1⟩ : ∃ x, x = w0.heap.size := ⟨_, rfl⟩
  rw [← hb1] at Y B1
  have LK1_b1 : W.heap.size ≤ b1 := by rw [hb1]; first | exact Nat.le_refl _ | exact MK1.size
  clear hw2 hb1 MK1
  refine st_val g4_0_0 rfl (wanted_free rfl) Y fun a3 e => ?_; clear Y
  have g2 := R.at_ e (by decide); replace R := R.put e; replace h1 := so e h1; clear h0; have h2 := g2; clear g2; clear e
  have MK1 := K1
  have Y : (execOp a3.eval o4_0_1).run Try.prog w2 = .ok (.value (.pointer (some ⟨w2.heap.size, 0, none⟩))) (w2.alloc (.cells #[.int .i64 u.k, .string (str u.nm), .int .i64 u.i, .slice ua u.args.length uc] 24)) := by unfold o4_0_1; go_simp
  have B5 := Blk.new w2 24 #[.int .i64 u.k, .string (str u.nm), .int .i64 u.i, .slice ua u.args.length uc]
  replace K1 := K1.alloc (.cells #[.int .i64 u.k, .string (str u.nm), .int .i64 u.i, .slice ua u.args.length uc] 24)
  have Nb1_b5 := Nat.ne_of_lt B1.lt; replace B1 := B1.alloc (.cells #[.int .i64 u.k, .string (str u.nm), .int .i64 u.i, .slice ua u.args.length uc] 24)
  obtain ⟨w6, hw6⟩ : ∃ x, x = w2.alloc (.cells #[.int .i64 u.k, .string (str u.nm), .int .i64 u.i, .slice ua u.args.length uc] 24) := ⟨_, rfl⟩
  rw [← hw6] at Y B5 K1 B1
  obtain ⟨b5, hb5⟩ : ∃ x, x = w2.heap.size := ⟨_, rfl⟩
  rw [← hb5] at Y B5 Nb1_b5
  have LK1_b5 : W.heap.size ≤ b5 := by rw [hb5]; first | exact Nat.le_refl _ | exact MK1.size
  clear hw6 hb5 MK1
  refine st_val g4_0_1 rfl (wanted_free rfl) Y fun a7 e => ?_; clear Y
  have g3 := R.at_ e (by decide); replace R := R.put e; replace h2 := so e h2; clear h1; have h3 := g3; clear g3; clear e
  have Y : (execOp a7.eval o4_0_2).run Try.prog w6 = .ok (.value (.bool false)) w6 := by unfold o4_0_2; go_simp
  refine st_val g4_0_2 rfl (wanted_free rfl) Y fun a9 e => ?_; clear Y
  have g4 := R.at_ e (by decide); replace R := R.put e; replace h2 := so e h2; replace h3 := so e h3; have h4 := g4; clear g4; clear e
  refine st_end ?_
  change (c4_2).wp _ _ _ _
  refine wp_seq (x := c4_3) (y := c4_10) ?_
  refine wp_seq (x := c4_4) (y := c4_5) ?_
  change (Code.region 1 O4_1 false).wp _ _ _ _
  refine reg_in (l := [0, 1]) rfl ?_
  have Y : (execOp a9.eval o4_1_0).run Try.prog w6 = .ok (.enter 13 #[]) w6 := by unfold o4_1_0; go_simp
  refine st_call g4_1_0 rfl (wanted_free rfl) Y ((alive_any (w := w6)).mono ?_); clear Y
  rintro e9 w11 ⟨rfl, kk⟩
  replace K1 := keep_onto K1 kk
  replace B1 := blk_on B1 kk
  replace B5 := blk_on B5 kk
  clear kk
  refine ⟨_, rfl, fun a12 e => ?_⟩
  have g24 := R.at_ e (by decide); replace R := R.put e; replace h2 := so e h2; replace h3 := so e h3; replace h4 := so e h4; have h24 := g24; clear g24; clear e
  have Y : (execOp a12.eval o4_1_1).run Try.prog w11 = .ok (.value (.bool false)) w11 := by unfold o4_1_1; go_simp
  refine st_val g4_1_1 rfl (wanted_free rfl) Y fun a14 e => ?_; clear Y
  have g25 := R.at_ e (by decide); replace R := R.put e; replace h2 := so e h2; replace h3 := so e h3; replace h4 := so e h4; clear h24; have h25 := g25; clear g25; clear e
  refine st_end ?_
  change (c4_5).wp _ _ _ _
  refine wp_cond_false (x := c4_6) (y := Code.skip) (eval_slot h25) ?_
  refine wp_skip ?_
  change (c4_10).wp _ _ _ _
  refine wp_seq (x := c4_11) (y := c4_12) ?_
  change (Code.region 3 O4_3 false).wp _ _ _ _
  refine reg_in (l := [0, 1, 2, 3, 4, 5, 6, 7, 8, 9]) rfl ?_
  have Y : (execOp a14.eval o4_3_0).run Try.prog w11 = .ok (.value (.agg #[.int .i64 t.k, .string (str t.nm), .int .i64 t.i, .slice ta t.args.length tc])) w11 := by have qq0 : w11.cell? ⟨b1, 0, none⟩ = some (.int .i64 t.k) := B1.cell 0; have qq1 : w11.cell? ⟨b1, 1, none⟩ = some (.string (str t.nm)) := B1.cell 1; have qq2 : w11.cell? ⟨b1, 2, none⟩ = some (.int .i64 t.i) := B1.cell 2; have qq3 : w11.cell? ⟨b1, 3, none⟩ = some (.slice ta t.args.length tc) := B1.cell 3; unfold o4_3_0; go_simp
  refine st_val g4_3_0 rfl (wanted_free rfl) Y fun a16 e => ?_; clear Y
  have g27 := R.at_ e (by decide); replace R := R.put e; replace h2 := so e h2; replace h3 := so e h3; replace h4 := so e h4; clear h25; have h27 := g27; clear g27; clear e
  have Y : (execOp a16.eval o4_3_1).run Try.prog w11 = .ok (.value (.agg #[.int .i64 u.k, .string (str u.nm), .int .i64 u.i, .slice ua u.args.length uc])) w11 := by have qq0 : w11.cell? ⟨b5, 0, none⟩ = some (.int .i64 u.k) := B5.cell 0; have qq1 : w11.cell? ⟨b5, 1, none⟩ = some (.string (str u.nm)) := B5.cell 1; have qq2 : w11.cell? ⟨b5, 2, none⟩ = some (.int .i64 u.i) := B5.cell 2; have qq3 : w11.cell? ⟨b5, 3, none⟩ = some (.slice ua u.args.length uc) := B5.cell 3; unfold o4_3_1; go_simp
  refine st_val g4_3_1 rfl (wanted_free rfl) Y fun a18 e => ?_; clear Y
  have g28 := R.at_ e (by decide); replace R := R.put e; replace h2 := so e h2; replace h3 := so e h3; replace h4 := so e h4; replace h27 := so e h27; have h28 := g28; clear g28; clear e
  have Y : (execOp a18.eval o4_3_2).run Try.prog w11 = .ok (.enter 28 #[.agg #[.int .i64 t.k, .string (str t.nm), .int .i64 t.i, .slice ta t.args.length tc], .agg #[.int .i64 u.k, .string (str u.nm), .int .i64 u.i, .slice ua u.args.length uc]]) w11 := by unfold o4_3_2; go_simp
  refine st_call g4_3_2 rfl (wanted_free rfl) Y ((solve_sx (HT.out.on K1) (HU.out.on K1)).mono ?_); clear Y
  rintro e9 w20 ⟨va, vc, bs, ok, er, rfl, hs, kk⟩
  replace K1 := keep_onto K1 kk
  replace B1 := blk_on B1 kk
  replace B5 := blk_on B5 kk
  clear kk
  have HS1 := Lib.hid hs; clear hs
  have K2 := Keep.refl (fun g => g < w20.heap.size) w20
  refine ⟨_, rfl, fun a21 e => ?_⟩
  have g29 := R.at_ e (by decide); replace R := R.put e; replace h2 := so e h2; replace h3 := so e h3; replace h4 := so e h4; clear h27 h28; have h29 := g29; clear g29; clear e
  have Y : (execOp a21.eval o4_3_3).run Try.prog w20 = .ok (.value (.tuple #[.slice va bs.length vc, .bool ok, .int .i64 er])) w20 := by unfold o4_3_3; go_simp
  refine st_val g4_3_3 rfl (wanted_free rfl) Y fun a23 e => ?_; clear Y
  have g26 := R.at_ e (by decide); replace R := R.put e; replace h2 := so e h2; replace h3 := so e h3; replace h4 := so e h4; clear h29; have h26 := g26; clear g26; clear e
  have Y : (execOp a23.eval o4_3_4).run Try.prog w20 = .ok (.value (.slice va bs.length vc)) w20 := by unfold o4_3_4; go_simp
  refine st_val g4_3_4 rfl (wanted_free rfl) Y fun a25 e => ?_; clear Y
  have g30 := R.at_ e (by decide); replace R := R.put e; replace h2 := so e h2; replace h3 := so e h3; replace h4 := so e h4; replace h26 := so e h26; have h30 := g30; clear g30; clear e
  have Y : (execOp a25.eval o4_3_5).run Try.prog w20 = .ok (.value (.bool ok)) w20 := by unfold o4_3_5; go_simp
  refine st_val g4_3_5 rfl (wanted_free rfl) Y fun a27 e => ?_; clear Y
  have g31 := R.at_ e (by decide); replace R := R.put e; replace h2 := so e h2; replace h3 := so e h3; replace h4 := so e h4; replace h26 := so e h26; replace h30 := so e h30; have h31 := g31; clear g31; clear e
  have Y : (execOp a27.eval o4_3_6).run Try.prog w20 = .ok (.value (.int .i64 er)) w20 := by unfold o4_3_6; go_simp
  refine st_val g4_3_6 rfl (wanted_free rfl) Y fun a29 e => ?_; clear Y
  have g32 := R.at_ e (by decide); replace R := R.put e; replace h2 := so e h2; replace h3 := so e h3; replace h4 := so e h4; replace h30 := so e h30; replace h31 := so e h31; clear h26; have h32 := g32; clear g32; clear e
  have Y : (execOp a29.eval o4_3_7).run Try.prog w20 = .ok (.value (.slice va bs.length vc)) w20 := by unfold o4_3_7; go_simp
  refine st_val g4_3_7 rfl (wanted_free rfl) Y fun a31 e => ?_; clear Y
  have g5 := R.at_ e (by decide); replace R := R.put e; replace h2 := so e h2; replace h3 := so e h3; replace h4 := so e h4; replace h31 := so e h31; replace h32 := so e h32; clear h30; have h5 := g5; clear g5; clear e
  have Y : (execOp a31.eval o4_3_8).run Try.prog w20 = .ok (.value (.bool ok)) w20 := by unfold o4_3_8; go_simp
  refine st_val g4_3_8 rfl (wanted_free rfl) Y fun a33 e => ?_; clear Y
  have g6 := R.at_ e (by decide); replace R := R.put e; replace h2 := so e h2; replace h3 := so e h3; replace h4 := so e h4; replace h5 := so e h5; replace h32 := so e h32; clear h31; have h6 := g6; clear g6; clear e
  have Y : (execOp a33.eval o4_3_9).run Try.prog w20 = .ok (.value (.int .i64 er)) w20 := by unfold o4_3_9; go_simp
  refine st_val g4_3_9 rfl (wanted_free rfl) Y fun a35 e => ?_; clear Y
  have g7 := R.at_ e (by decide); replace R := R.put e; replace h2 := so e h2; replace h3 := so e h3; replace h4 := so e h4; replace h5 := so e h5; replace h6 := so e h6; clear h32; have h7 := g7; clear g7; clear e
  refine st_end ?_
  change (c4_12).wp _ _ _ _
  refine wp_seq (x := c4_13) (y := c4_14) ?_
  change (Code.region 4 O4_4 false).wp _ _ _ _
  refine reg_in (l := [0, 1, 2, 3, 4, 5, 6, 7, 8, 9]) rfl ?_
  have Y : (execOp a35.eval o4_4_0).run Try.prog w20 = .ok (.value (.agg #[.int .i64 u.k, .string (str u.nm), .int .i64 u.i, .slice ua u.args.length uc])) w20 := by have qq0 : w20.cell? ⟨b5, 0, none⟩ = some (.int .i64 u.k) := B5.cell 0; have qq1 : w20.cell? ⟨b5, 1, none⟩ = some (.string (str u.nm)) := B5.cell 1; have qq2 : w20.cell? ⟨b5, 2, none⟩ = some (.int .i64 u.i) := B5.cell 2; have qq3 : w20.cell? ⟨b5, 3, none⟩ = some (.slice ua u.args.length uc) := B5.cell 3; unfold o4_4_0; go_simp
  refine st_val g4_4_0 rfl (wanted_free rfl) Y fun a37 e => ?_; clear Y
  have g34 := R.at_ e (by decide); replace R := R.put e; replace h2 := so e h2; replace h3 := so e h3; replace h4 := so e h4; replace h5 := so e h5; replace h6 := so e h6; replace h7 := so e h7; have h34 := g34; clear g34; clear e
  have Y : (execOp a37.eval o4_4_1).run Try.prog w20 = .ok (.value (.agg #[.int .i64 t.k, .string (str t.nm), .int .i64 t.i, .slice ta t.args.length tc])) w20 := by have qq0 : w20.cell? ⟨b1, 0, none⟩ = some (.int .i64 t.k) := B1.cell 0; have qq1 : w20.cell? ⟨b1, 1, none⟩ = some (.string (str t.nm)) := B1.cell 1; have qq2 : w20.cell? ⟨b1, 2, none⟩ = some (.int .i64 t.i) := B1.cell 2; have qq3 : w20.cell? ⟨b1, 3, none⟩ = some (.slice ta t.args.length tc) := B1.cell 3; unfold o4_4_1; go_simp
  refine st_val g4_4_1 rfl (wanted_free rfl) Y fun a39 e => ?_; clear Y
  have g35 := R.at_ e (by decide); replace R := R.put e; replace h2 := so e h2; replace h3 := so e h3; replace h4 := so e h4; replace h5 := so e h5; replace h6 := so e h6; replace h7 := so e h7; replace h34 := so e h34; have h35 := g35; clear g35; clear e
  have Y : (execOp a39.eval o4_4_2).run Try.prog w20 = .ok (.enter 28 #[.agg #[.int .i64 u.k, .string (str u.nm), .int .i64 u.i, .slice ua u.args.length uc], .agg #[.int .i64 t.k, .string (str t.nm), .int .i64 t.i, .slice ta t.args.length tc]]) w20 := by unfold o4_4_2; go_simp
  refine st_call g4_4_2 rfl (wanted_free rfl) Y ((solve_sx (HU.out.on K1) (HT.out.on K1)).mono ?_); clear Y
  rintro e9 w41 ⟨vb, vd, cs, ok2, er2, rfl, hs2, kk⟩
  replace K1 := keep_onto K1 kk
  replace K2 := keep_onto K2 kk
  replace B1 := blk_on B1 kk
  replace B5 := blk_on B5 kk
  clear kk
  obtain ⟨e1, e2, e3⟩ := sol_swap HS1.out.1 hs2.1
  replace e1 := e1.symm; subst e1; replace e2 := e2.symm; subst e2
  have HS2 := Lib.hid hs2; have HE3 := Lib.hid e3; clear hs2 e3
  have K3 := Keep.refl (fun g => g < w41.heap.size) w41
  refine ⟨_, rfl, fun a42 e => ?_⟩
  have g36 := R.at_ e (by decide); replace R := R.put e; replace h2 := so e h2; replace h3 := so e h3; replace h4 := so e h4; replace h5 := so e h5; replace h6 := so e h6; replace h7 := so e h7; clear h34 h35; have h36 := g36; clear g36; clear e
  have Y : (execOp a42.eval o4_4_3).run Try.prog w41 = .ok (.value (.tuple #[.slice vb cs.length vd, .bool ok, .int .i64 er])) w41 := by unfold o4_4_3; go_simp
  refine st_val g4_4_3 rfl (wanted_free rfl) Y fun a44 e => ?_; clear Y
  have g33 := R.at_ e (by decide); replace R := R.put e; replace h2 := so e h2; replace h3 := so e h3; replace h4 := so e h4; replace h5 := so e h5; replace h6 := so e h6; replace h7 := so e h7; clear h36; have h33 := g33; clear g33; clear e
  have Y : (execOp a44.eval o4_4_4).run Try.prog w41 = .ok (.value (.slice vb cs.length vd)) w41 := by unfold o4_4_4; go_simp
  refine st_val g4_4_4 rfl (wanted_free rfl) Y fun a46 e => ?_; clear Y
  have g37 := R.at_ e (by decide); replace R := R.put e; replace h2 := so e h2; replace h3 := so e h3; replace h4 := so e h4; replace h5 := so e h5; replace h6 := so e h6; replace h7 := so e h7; replace h33 := so e h33; have h37 := g37; clear g37; clear e
  have Y : (execOp a46.eval o4_4_5).run Try.prog w41 = .ok (.value (.bool ok)) w41 := by unfold o4_4_5; go_simp
  refine st_val g4_4_5 rfl (wanted_free rfl) Y fun a48 e => ?_; clear Y
  have g38 := R.at_ e (by decide); replace R := R.put e; replace h2 := so e h2; replace h3 := so e h3; replace h4 := so e h4; replace h5 := so e h5; replace h6 := so e h6; replace h7 := so e h7; replace h33 := so e h33; replace h37 := so e h37; have h38 := g38; clear g38; clear e
  have Y : (execOp a48.eval o4_4_6).run Try.prog w41 = .ok (.value (.int .i64 er)) w41 := by unfold o4_4_6; go_simp
  refine st_val g4_4_6 rfl (wanted_free rfl) Y fun a50 e => ?_; clear Y
  have g39 := R.at_ e (by decide); replace R := R.put e; replace h2 := so e h2; replace h3 := so e h3; replace h4 := so e h4; replace h5 := so e h5; replace h6 := so e h6; replace h7 := so e h7; replace h37 := so e h37; replace h38 := so e h38; clear h33; have h39 := g39; clear g39; clear e
  have Y : (execOp a50.eval o4_4_7).run Try.prog w41 = .ok (.value (.slice vb cs.length vd)) w41 := by unfold o4_4_7; go_simp
  refine st_val g4_4_7 rfl (wanted_free rfl) Y fun a52 e => ?_; clear Y
  have g8 := R.at_ e (by decide); replace R := R.put e; replace h2 := so e h2; replace h3 := so e h3; replace h4 := so e h4; replace h5 := so e h5; replace h6 := so e h6; replace h7 := so e h7; replace h38 := so e h38; replace h39 := so e h39; clear h37; have h8 := g8; clear g8; clear e
  have Y : (execOp a52.eval o4_4_8).run Try.prog w41 = .ok (.value (.bool ok)) w41 := by unfold o4_4_8; go_simp
  refine st_val g4_4_8 rfl (wanted_free rfl) Y fun a54 e => ?_; clear Y
  have g9 := R.at_ e (by decide); replace R := R.put e; replace h2 := so e h2; replace h3 := so e h3; replace h4 := so e h4; replace h5 := so e h5; replace h6 := so e h6; replace h7 := so e h7; replace h8 := so e h8; replace h39 := so e h39; clear h38; have h9 := g9; clear g9; clear e
  have Y : (execOp a54.eval o4_4_9).run Try.prog w41 = .ok (.value (.int .i64 er)) w41 := by unfold o4_4_9; go_simp
  refine st_val g4_4_9 rfl (wanted_free rfl) Y fun a56 e => ?_; clear Y
  have g10 := R.at_ e (by decide); replace R := R.put e; replace h2 := so e h2; replace h3 := so e h3; replace h4 := so e h4; replace h5 := so e h5; replace h6 := so e h6; replace h7 := so e h7; replace h8 := so e h8; replace h9 := so e h9; clear h39; have h10 := g10; clear g10; clear e
  refine st_end ?_
  change (c4_14).wp _ _ _ _
  refine wp_seq (x := c4_15) (y := c4_22) ?_
  refine wp_seq (x := c4_16) (y := c4_17) ?_
  change (Code.region 5 O4_5 false).wp _ _ _ _
  refine reg_in (l := [0, 1, 2, 3, 4, 5, 6, 7]) rfl ?_
  have Y : (execOp a56.eval o4_5_0).run Try.prog w41 = .ok (.value (.bool ok)) w41 := by unfold o4_5_0; go_simp
  refine st_val g4_5_0 rfl (wanted_free rfl) Y fun a58 e => ?_; clear Y
  have g40 := R.at_ e (by decide); replace R := R.put e; replace h2 := so e h2; replace h3 := so e h3; replace h4 := so e h4; replace h5 := so e h5; replace h6 := so e h6; replace h7 := so e h7; replace h8 := so e h8; replace h9 := so e h9; replace h10 := so e h10; have h40 := g40; clear g40; clear e
  have Y : (execOp a58.eval o4_5_1).run Try.prog w41 = .ok (.value (.bool ok)) w41 := by unfold o4_5_1; go_simp
  refine st_val g4_5_1 rfl (wanted_free rfl) Y fun a60 e => ?_; clear Y
  have g41 := R.at_ e (by decide); replace R := R.put e; replace h2 := so e h2; replace h3 := so e h3; replace h4 := so e h4; replace h5 := so e h5; replace h6 := so e h6; replace h7 := so e h7; replace h8 := so e h8; replace h10 := so e h10; replace h40 := so e h40; clear h9; have h41 := g41; clear g41; clear e
  cases ok with
  | false =>
    have Y : (execOp a60.eval o4_5_2).run Try.prog w41 = .ok (.value (.bool false)) w41 := by unfold o4_5_2; go_simp
    refine st_val g4_5_2 rfl (wanted_free rfl) Y fun a62 e => ?_; clear Y
    have g42 := R.at_ e (by decide); replace R := R.put e; replace h2 := so e h2; replace h3 := so e h3; replace h4 := so e h4; replace h5 := so e h5; replace h6 := so e h6; replace h7 := so e h7; replace h8 := so e h8; replace h10 := so e h10; clear h40 h41; have h42 := g42; clear g42; clear e
    have Y : (execOp a62.eval o4_5_3).run Try.prog w41 = .ok (.value (.bool false)) w41 := by unfold o4_5_3; go_simp
    refine st_val g4_5_3 rfl (wanted_free rfl) Y fun a64 e => ?_; clear Y
    have g43 := R.at_ e (by decide); replace R := R.put e; replace h2 := so e h2; replace h3 := so e h3; replace h4 := so e h4; replace h5 := so e h5; replace h6 := so e h6; replace h7 := so e h7; replace h8 := so e h8; replace h10 := so e h10; clear h42; have h43 := g43; clear g43; clear e
    have Y : (execOp a64.eval o4_5_4).run Try.prog w41 = .ok (.value (.int .i64 er)) w41 := by unfold o4_5_4; go_simp
    refine st_val g4_5_4 rfl (wanted_is (j := 3) (d := 43) rfl rfl h43 rfl) Y fun a66 e => ?_; clear Y
    have g44 := R.at_ e (by decide); replace R := R.put e; replace h2 := so e h2; replace h3 := so e h3; replace h4 := so e h4; replace h5 := so e h5; replace h6 := so e h6; replace h8 := so e h8; replace h10 := so e h10; replace h43 := so e h43; clear h7; have h44 := g44; clear g44; clear e
    have Y : (execOp a66.eval o4_5_5).run Try.prog w41 = .ok (.value (.int .i64 er)) w41 := by unfold o4_5_5; go_simp
    refine st_val g4_5_5 rfl (wanted_is (j := 3) (d := 43) rfl rfl h43 rfl) Y fun a68 e => ?_; clear Y
    have g45 := R.at_ e (by decide); replace R := R.put e; replace h2 := so e h2; replace h3 := so e h3; replace h4 := so e h4; replace h5 := so e h5; replace h6 := so e h6; replace h8 := so e h8; replace h43 := so e h43; replace h44 := so e h44; clear h10; have h45 := g45; clear g45; clear e
    have Y : (execOp a68.eval o4_5_6).run Try.prog w41 = .ok (.value (.bool false)) w41 := by unfold o4_5_6; go_simp
    refine st_val g4_5_6 rfl (wanted_is (j := 3) (d := 43) rfl rfl h43 rfl) Y fun a70 e => ?_; clear Y
    have g46 := R.at_ e (by decide); replace R := R.put e; replace h2 := so e h2; replace h3 := so e h3; replace h4 := so e h4; replace h5 := so e h5; replace h6 := so e h6; replace h8 := so e h8; replace h43 := so e h43; clear h44 h45; have h46 := g46; clear g46; clear e
    have Y : (execOp a70.eval o4_5_7).run Try.prog w41 = .ok (.value (.bool false)) w41 := by unfold o4_5_7; go_simp
    refine st_val g4_5_7 rfl (wanted_free rfl) Y fun a72 e => ?_; clear Y
    have g47 := R.at_ e (by decide); replace R := R.put e; replace h2 := so e h2; replace h3 := so e h3; replace h4 := so e h4; replace h5 := so e h5; replace h6 := so e h6; replace h8 := so e h8; clear h43 h46; have h47 := g47; clear g47; clear e
    refine st_end ?_
    change (c4_17).wp _ _ _ _
    refine wp_cond_false (x := c4_18) (y := Code.skip) (eval_slot h47) ?_
    refine wp_skip ?_
    change (c4_22).wp _ _ _ _
    refine wp_seq (x := c4_23) (y := c4_30) ?_
    refine wp_seq (x := c4_24) (y := c4_25) ?_
    change (Code.region 7 O4_7 false).wp _ _ _ _
    refine reg_in (l := [0, 1]) rfl ?_
    have Y : (execOp a72.eval o4_7_0).run Try.prog w41 = .ok (.value (.bool false)) w41 := by unfold o4_7_0; go_simp
    refine st_val g4_7_0 rfl (wanted_free rfl) Y fun a74 e => ?_; clear Y
    have g48 := R.at_ e (by decide); replace R := R.put e; replace h2 := so e h2; replace h3 := so e h3; replace h4 := so e h4; replace h5 := so e h5; replace h8 := so e h8; clear h6 h47; have h48 := g48; clear g48; clear e
    have Y : (execOp a74.eval o4_7_1).run Try.prog w41 = .ok (.value (.bool true)) w41 := by unfold o4_7_1; go_simp
    refine st_val g4_7_1 rfl (wanted_free rfl) Y fun a76 e => ?_; clear Y
    have g49 := R.at_ e (by decide); replace R := R.put e; replace h2 := so e h2; replace h3 := so e h3; replace h4 := so e h4; replace h5 := so e h5; replace h8 := so e h8; clear h48; have h49 := g49; clear g49; clear e
    refine st_end ?_
    change (c4_25).wp _ _ _ _
    refine wp_cond_true (x := c4_26) (y := Code.skip) (eval_slot h49) ?_
    refine wp_seq (x := c4_27) (y := Code.ret) ?_
    change (Code.region 8 O4_8 false).wp _ _ _ _
    refine reg_in (l := [0, 1, 2, 3, 4, 5, 6, 7, 8]) rfl ?_
    have Y : (execOp a76.eval o4_8_0).run Try.prog w41 = .ok (.value (.slice va bs.length vc)) w41 := by unfold o4_8_0; go_simp
    refine st_val g4_8_0 rfl (wanted_free rfl) Y fun a78 e => ?_; clear Y
    have g50 := R.at_ e (by decide); replace R := R.put e; replace h2 := so e h2; replace h3 := so e h3; replace h4 := so e h4; replace h5 := so e h5; replace h8 := so e h8; clear h49; have h50 := g50; clear g50; clear e
    have Y : (execOp a78.eval o4_8_1).run Try.prog w41 = .ok (.value (.int .i64 bs.length)) w41 := by unfold o4_8_1; go_simp
    refine st_val g4_8_1 rfl (wanted_free rfl) Y fun a80 e => ?_; clear Y
    have g51 := R.at_ e (by decide); replace R := R.put e; replace h2 := so e h2; replace h3 := so e h3; replace h4 := so e h4; replace h5 := so e h5; replace h8 := so e h8; clear h50; have h51 := g51; clear g51; clear e
    have Y : (execOp a80.eval o4_8_2).run Try.prog w41 = .ok (.value (.bool true)) w41 := by have hb0 : bs.length = 0 := (by rcases sol_sols HS1.out.1 with ⟨h, _⟩ | ⟨_, h⟩; exact absurd h (by decide); rw [h]; rfl); have hc0 : cs.length = 0 := (by rcases sol_sols HS2.out.1 with ⟨h, _⟩ | ⟨_, h⟩; exact absurd h (by decide); rw [h]; rfl); unfold o4_8_2; go_simp
    refine st_val g4_8_2 rfl (wanted_free rfl) Y fun a82 e => ?_; clear Y
    have g52 := R.at_ e (by decide); replace R := R.put e; replace h2 := so e h2; replace h3 := so e h3; replace h4 := so e h4; replace h5 := so e h5; replace h8 := so e h8; clear h51; have h52 := g52; clear g52; clear e
    have Y : (execOp a82.eval o4_8_3).run Try.prog w41 = .ok (.value (.bool true)) w41 := by unfold o4_8_3; go_simp
    refine st_val g4_8_3 rfl (wanted_free rfl) Y fun a84 e => ?_; clear Y
    have g53 := R.at_ e (by decide); replace R := R.put e; replace h2 := so e h2; replace h3 := so e h3; replace h4 := so e h4; replace h5 := so e h5; replace h8 := so e h8; clear h52; have h53 := g53; clear g53; clear e
    have Y : (execOp a84.eval o4_8_4).run Try.prog w41 = .ok (.value (.slice vb cs.length vd)) w41 := by unfold o4_8_4; go_simp
    refine st_val g4_8_4 rfl (wanted_is (j := 3) (d := 53) rfl rfl h53 rfl) Y fun a86 e => ?_; clear Y
    have g54 := R.at_ e (by decide); replace R := R.put e; replace h2 := so e h2; replace h3 := so e h3; replace h4 := so e h4; replace h5 := so e h5; replace h8 := so e h8; replace h53 := so e h53; have h54 := g54; clear g54; clear e
    have Y : (execOp a86.eval o4_8_5).run Try.prog w41 = .ok (.value (.int .i64 cs.length)) w41 := by unfold o4_8_5; go_simp
    refine st_val g4_8_5 rfl (wanted_is (j := 3) (d := 53) rfl rfl h53 rfl) Y fun a88 e => ?_; clear Y
    have g55 := R.at_ e (by decide); replace R := R.put e; replace h2 := so e h2; replace h3 := so e h3; replace h4 := so e h4; replace h5 := so e h5; replace h8 := so e h8; replace h53 := so e h53; clear h54; have h55 := g55; clear g55; clear e
    have Y : (execOp a88.eval o4_8_6).run Try.prog w41 = .ok (.value (.bool true)) w41 := by have hb0 : bs.length = 0 := (by rcases sol_sols HS1.out.1 with ⟨h, _⟩ | ⟨_, h⟩; exact absurd h (by decide); rw [h]; rfl); have hc0 : cs.length = 0 := (by rcases sol_sols HS2.out.1 with ⟨h, _⟩ | ⟨_, h⟩; exact absurd h (by decide); rw [h]; rfl); unfold o4_8_6; go_simp
    refine st_val g4_8_6 rfl (wanted_is (j := 3) (d := 53) rfl rfl h53 rfl) Y fun a90 e => ?_; clear Y
    have g56 := R.at_ e (by decide); replace R := R.put e; replace h2 := so e h2; replace h3 := so e h3; replace h4 := so e h4; replace h5 := so e h5; replace h8 := so e h8; replace h53 := so e h53; clear h55; have h56 := g56; clear g56; clear e
    have Y : (execOp a90.eval o4_8_7).run Try.prog w41 = .ok (.value (.bool true)) w41 := by unfold o4_8_7; go_simp
    refine st_val g4_8_7 rfl (wanted_free rfl) Y fun a92 e => ?_; clear Y
    have g57 := R.at_ e (by decide); replace R := R.put e; replace h2 := so e h2; replace h3 := so e h3; replace h4 := so e h4; replace h5 := so e h5; replace h8 := so e h8; clear h53 h56; have h57 := g57; clear g57; clear e
    have Y : (execOp a92.eval o4_8_8).run Try.prog w41 = .ok (.value (.bool true)) w41 := by unfold o4_8_8; go_simp
    refine st_val g4_8_8 rfl (wanted_free rfl) Y fun a94 e => ?_; clear Y
    have g4 := R.at_ e (by decide); replace R := R.put e; replace h2 := so e h2; replace h3 := so e h3; replace h5 := so e h5; replace h8 := so e h8; clear h4 h57; have h4 := g4; clear g4; clear e
    refine st_end ?_
    change (Code.ret).wp _ _ _ _
    refine wp_ret ?_
    change bodyPost Try.prog Try.f4 (fun e w' => e = .returned (.bool true) ∧ Keep (fun g => g < W.heap.size) W w') .ret a94 w41
    refine ret_one rfl R h4 ?_
    exact ⟨rfl, K1⟩
  | true =>
    have Y : (execOp a60.eval o4_5_2).run Try.prog w41 = .ok (.value (.bool false)) w41 := by unfold o4_5_2; go_simp
    refine st_val g4_5_2 rfl (wanted_free rfl) Y fun a96 e => ?_; clear Y
    have g42 := R.at_ e (by decide); replace R := R.put e; replace h2 := so e h2; replace h3 := so e h3; replace h4 := so e h4; replace h5 := so e h5; replace h6 := so e h6; replace h7 := so e h7; replace h8 := so e h8; replace h10 := so e h10; clear h40 h41; have h42 := g42; clear g42; clear e
    have Y : (execOp a96.eval o4_5_3).run Try.prog w41 = .ok (.value (.bool false)) w41 := by unfold o4_5_3; go_simp
    refine st_val g4_5_3 rfl (wanted_free rfl) Y fun a98 e => ?_; clear Y
    have g43 := R.at_ e (by decide); replace R := R.put e; replace h2 := so e h2; replace h3 := so e h3; replace h4 := so e h4; replace h5 := so e h5; replace h6 := so e h6; replace h7 := so e h7; replace h8 := so e h8; replace h10 := so e h10; clear h42; have h43 := g43; clear g43; clear e
    have Y : (execOp a98.eval o4_5_4).run Try.prog w41 = .ok (.value (.int .i64 er)) w41 := by unfold o4_5_4; go_simp
    refine st_val g4_5_4 rfl (wanted_is (j := 3) (d := 43) rfl rfl h43 rfl) Y fun a100 e => ?_; clear Y
    have g44 := R.at_ e (by decide); replace R := R.put e; replace h2 := so e h2; replace h3 := so e h3; replace h4 := so e h4; replace h5 := so e h5; replace h6 := so e h6; replace h8 := so e h8; replace h10 := so e h10; replace h43 := so e h43; clear h7; have h44 := g44; clear g44; clear e
    have Y : (execOp a100.eval o4_5_5).run Try.prog w41 = .ok (.value (.int .i64 er)) w41 := by unfold o4_5_5; go_simp
    refine st_val g4_5_5 rfl (wanted_is (j := 3) (d := 43) rfl rfl h43 rfl) Y fun a102 e => ?_; clear Y
    have g45 := R.at_ e (by decide); replace R := R.put e; replace h2 := so e h2; replace h3 := so e h3; replace h4 := so e h4; replace h5 := so e h5; replace h6 := so e h6; replace h8 := so e h8; replace h43 := so e h43; replace h44 := so e h44; clear h10; have h45 := g45; clear g45; clear e
    have Y : (execOp a102.eval o4_5_6).run Try.prog w41 = .ok (.value (.bool false)) w41 := by unfold o4_5_6; go_simp
    refine st_val g4_5_6 rfl (wanted_is (j := 3) (d := 43) rfl rfl h43 rfl) Y fun a104 e => ?_; clear Y
    have g46 := R.at_ e (by decide); replace R := R.put e; replace h2 := so e h2; replace h3 := so e h3; replace h4 := so e h4; replace h5 := so e h5; replace h6 := so e h6; replace h8 := so e h8; replace h43 := so e h43; clear h44 h45; have h46 := g46; clear g46; clear e
    have Y : (execOp a104.eval o4_5_7).run Try.prog w41 = .ok (.value (.bool false)) w41 := by unfold o4_5_7; go_simp
    refine st_val g4_5_7 rfl (wanted_free rfl) Y fun a106 e => ?_; clear Y
    have g47 := R.at_ e (by decide); replace R := R.put e; replace h2 := so e h2; replace h3 := so e h3; replace h4 := so e h4; replace h5 := so e h5; replace h6 := so e h6; replace h8 := so e h8; clear h43 h46; have h47 := g47; clear g47; clear e
    refine st_end ?_
    change (c4_17).wp _ _ _ _
    refine wp_cond_false (x := c4_18) (y := Code.skip) (eval_slot h47) ?_
    refine wp_skip ?_
    change (c4_22).wp _ _ _ _
    refine wp_seq (x := c4_23) (y := c4_30) ?_
    refine wp_seq (x := c4_24) (y := c4_25) ?_
    change (Code.region 7 O4_7 false).wp _ _ _ _
    refine reg_in (l := [0, 1]) rfl ?_
    have Y : (execOp a106.eval o4_7_0).run Try.prog w41 = .ok (.value (.bool true)) w41 := by unfold o4_7_0; go_simp
    refine st_val g4_7_0 rfl (wanted_free rfl) Y fun a108 e => ?_; clear Y
    have g48 := R.at_ e (by decide); replace R := R.put e; replace h2 := so e h2; replace h3 := so e h3; replace h4 := so e h4; replace h5 := so e h5; replace h8 := so e h8; clear h6 h47; have h48 := g48; clear g48; clear e
    have Y : (execOp a108.eval o4_7_1).run Try.prog w41 = .ok (.value (.bool false)) w41 := by unfold o4_7_1; go_simp
    refine st_val g4_7_1 rfl (wanted_free rfl) Y fun a110 e => ?_; clear Y
    have g49 := R.at_ e (by decide); replace R := R.put e; replace h2 := so e h2; replace h3 := so e h3; replace h4 := so e h4; replace h5 := so e h5; replace h8 := so e h8; clear h48; have h49 := g49; clear g49; clear e
    refine st_end ?_
    change (c4_25).wp _ _ _ _
    refine wp_cond_false (x := c4_26) (y := Code.skip) (eval_slot h49) ?_
    refine wp_skip ?_
    change (c4_30).wp _ _ _ _
    refine wp_seq (x := c4_31) (y := c4_38) ?_
    refine wp_seq (x := c4_32) (y := c4_33) ?_
    change (Code.region 9 O4_9 false).wp _ _ _ _
    refine reg_in (l := [0, 1, 2, 3]) rfl ?_
    have Y : (execOp a110.eval o4_9_0).run Try.prog w41 = .ok (.value (.slice va bs.length vc)) w41 := by unfold o4_9_0; go_simp
    refine st_val g4_9_0 rfl (wanted_free rfl) Y fun a112 e => ?_; clear Y
    have g58 := R.at_ e (by decide); replace R := R.put e; replace h2 := so e h2; replace h3 := so e h3; replace h4 := so e h4; replace h5 := so e h5; replace h8 := so e h8; clear h49; have h58 := g58; clear g58; clear e
    have Y : (execOp a112.eval o4_9_1).run Try.prog w41 = .ok (.value (.slice vb cs.length vd)) w41 := by unfold o4_9_1; go_simp
    refine st_val g4_9_1 rfl (wanted_free rfl) Y fun a114 e => ?_; clear Y
    have g59 := R.at_ e (by decide); replace R := R.put e; replace h2 := so e h2; replace h3 := so e h3; replace h4 := so e h4; replace h5 := so e h5; replace h58 := so e h58; clear h8; have h59 := g59; clear g59; clear e
    have Y : (execOp a114.eval o4_9_2).run Try.prog w41 = .ok (.enter 29 #[.slice va bs.length vc, .slice vb cs.length vd]) w41 := by unfold o4_9_2; go_simp
    obtain ⟨f, hf⟩ : ∃ f, Sols t u bs f := by rcases sol_sols HS1.out.1 with ⟨_, _, h⟩ | ⟨h, _⟩; exact h; exact absurd h (by decide)
    obtain ⟨f2, hf2⟩ : ∃ f, Sols u t cs f := by rcases sol_sols HS2.out.1 with ⟨_, _, h⟩ | ⟨h, _⟩; exact h; exact absurd h (by decide)
    have HB := Lib.hid (sol_bsl HS1.out.2.1 HS1.out.2.2 hf HT.out HU.out)
    have HB2 := Lib.hid (sol_bsl HS2.out.2.1 HS2.out.2.2 hf2 HU.out HT.out)
    have HBA := Lib.hid (bo_lt HS1.out.2.1)
    have hll : bs.length = cs.length := by have h := congrArg List.length HE3.out; simpa using h
    have hal := alike_sx (sc := vc) (sd := vd) (bsl_on HB.out K2) (bsl_on HB2.out K3) hll (Nat.le_trans hf.len (by decide)) (fun j p q hp hq => by
      have h := congrArg (fun l => l[j]?) HE3.out
      simp only [List.getElem?_map, hp, hq, Option.map_some, Option.some.injEq, Prod.mk.injEq] at h
      obtain ⟨h1, _, h2, _⟩ := hf.part (List.mem_of_getElem? hp)
      refine ⟨h.1.symm, h1, ?_, by rw [h.2]⟩
      rw [← h.2]; exact h1)
    have HF := Lib.hid hf; have HLN : Hid (bs.length ≤ 4000) := Lib.hid hf.len; clear hf hf2 hll
    refine st_call g4_9_2 rfl (wanted_free rfl) Y ((hal).mono ?_); clear Y
    rintro e9 w116 ⟨rfl, kk⟩
    replace K1 := keep_onto K1 kk
    replace K2 := keep_onto K2 kk
    replace K3 := keep_onto K3 kk
    replace B1 := blk_on B1 kk
    replace B5 := blk_on B5 kk
    clear kk
    clear hal
    refine ⟨_, rfl, fun a117 e => ?_⟩
    have g60 := R.at_ e (by decide); replace R := R.put e; replace h2 := so e h2; replace h3 := so e h3; replace h4 := so e h4; replace h5 := so e h5; clear h58 h59; have h60 := g60; clear g60; clear e
    have Y : (execOp a117.eval o4_9_3).run Try.prog w116 = .ok (.value (.bool false)) w116 := by unfold o4_9_3; go_simp
    refine st_val g4_9_3 rfl (wanted_free rfl) Y fun a119 e => ?_; clear Y
    have g61 := R.at_ e (by decide); replace R := R.put e; replace h2 := so e h2; replace h3 := so e h3; replace h4 := so e h4; replace h5 := so e h5; clear h60; have h61 := g61; clear g61; clear e
    refine st_end ?_
    change (c4_33).wp _ _ _ _
    refine wp_cond_false (x := c4_34) (y := Code.skip) (eval_slot h61) ?_
    refine wp_skip ?_
    change (c4_38).wp _ _ _ _
    refine wp_seq (x := c4_39) (y := c4_99) ?_
    refine wp_seq (x := c4_40) (y := c4_41) ?_
    change (Code.region 11 O4_11 false).wp _ _ _ _
    refine reg_in (l := [0, 1, 2]) rfl ?_
    have Y : (execOp a119.eval o4_11_0).run Try.prog w116 = .ok (.value (.slice va bs.length vc)) w116 := by unfold o4_11_0; go_simp
    refine st_val g4_11_0 rfl (wanted_free rfl) Y fun a121 e => ?_; clear Y
    have g62 := R.at_ e (by decide); replace R := R.put e; replace h2 := so e h2; replace h3 := so e h3; replace h4 := so e h4; replace h5 := so e h5; clear h61; have h62 := g62; clear g62; clear e
    have Y : (execOp a121.eval o4_11_1).run Try.prog w116 = .ok (.value (.int .i64 bs.length)) w116 := by unfold o4_11_1; go_simp
    refine st_val g4_11_1 rfl (wanted_free rfl) Y fun a123 e => ?_; clear Y
    have g63 := R.at_ e (by decide); replace R := R.put e; replace h2 := so e h2; replace h3 := so e h3; replace h4 := so e h4; replace h5 := so e h5; replace h62 := so e h62; have h63 := g63; clear g63; clear e
    have Y : (execOp a123.eval o4_11_2).run Try.prog w116 = .ok (.value (.int .i64 0)) w116 := by unfold o4_11_2; go_simp
    refine st_val g4_11_2 rfl (wanted_free rfl) Y fun a125 e => ?_; clear Y
    have g64 := R.at_ e (by decide); replace R := R.put e; replace h2 := so e h2; replace h3 := so e h3; replace h4 := so e h4; replace h5 := so e h5; replace h62 := so e h62; replace h63 := so e h63; have h64 := g64; clear g64; clear e
    refine st_end ?_
    change (c4_41).wp _ _ _ _
    refine wp_block (id := 0) (c := c4_42) ?_
    refine wp_loop_ghost (c := c4_43) (fun n f9 w9 => ∃ i : Nat, n = bs.length - i ∧ FrS 149 f9 ∧ f9.tmps[2]? = some (.pointer (some ⟨b1, 0, none⟩)) ∧ f9.tmps[3]? = some (.pointer (some ⟨b5, 0, none⟩)) ∧ f9.tmps[4]? = some (.bool false) ∧ f9.tmps[5]? = some (.slice va bs.length vc) ∧ f9.tmps[62]? = some (.slice va bs.length vc) ∧ f9.tmps[63]? = some (.int .i64 bs.length) ∧ f9.tmps[64]? = some (.int .i64 (i : Int)) ∧ Keep (fun g => g < W.heap.size) W w9 ∧ Keep (fun g => g < w20.heap.size) w20 w9 ∧ Keep (fun g => g < w41.heap.size) w41 w9 ∧ Blk w9 b1 24 #[.int .i64 t.k, .string (str t.nm), .int .i64 t.i, .slice ta t.args.length tc] ∧ Blk w9 b5 24 #[.int .i64 u.k, .string (str u.nm), .int .i64 u.i, .slice ua u.args.length uc] ∧ i ≤ bs.length) (bs.length - 0) ⟨0, rfl, R, h2, h3, h4, h5, h62, h63, h64, K1, K2, K3, B1, B5, Nat.zero_le _⟩ ?_
    clear R h2 h3 h4 h5 h62 h63 h64 K1 K2 K3 B1 B5
    rintro n129 a127 w128 ⟨i, rfl, R, h2, h3, h4, h5, h62, h63, h64, K1, K2, K3, B1, B5, hi⟩
    have hbi := HLN.out
    have hwi : IntKind.i64.wrap ((i : Int) + 1) = (i : Int) + 1 := by rw [IntKind.wrap_i64]; omega
    refine wp_seq (x := c4_44) (y := c4_45) ?_
    change (Code.region 12 O4_12 false).wp _ _ _ _
    refine reg_in (l := [0]) rfl ?_
    obtain ⟨b130, hb130⟩ : ∃ x, (decide ((i : Int) < (bs.length : Int))) = x := ⟨_, rfl⟩
    have Y : (execOp a127.eval o4_12_0).run Try.prog w128 = .ok (.value (.bool b130)) w128 := by rw [← hb130]; unfold o4_12_0; go_simp
    refine st_val g4_12_0 rfl (wanted_free rfl) Y fun a131 e => ?_; clear Y
    have g65 := R.at_ e (by decide); replace R := R.put e; replace h2 := so e h2; replace h3 := so e h3; replace h4 := so e h4; replace h5 := so e h5; replace h62 := so e h62; replace h63 := so e h63; replace h64 := so e h64; have h65 := g65; clear g65; clear e
    refine st_end ?_
    change (c4_45).wp _ _ _ _
    refine wp_seq (x := c4_46) (y := c4_49) ?_
    cases b130 with
    | false =>
      have fb130 := hb130; clear hb130
      simp only [decide_eq_true_eq, decide_eq_false_iff_not, bne_iff_ne, bne_eq_false_iff_eq, beq_iff_eq, beq_eq_false_iff_ne, ne_eq, Bool.not_eq_true', Bool.not_eq_false', Bool.not_eq_eq_eq_not, Bool.not_true, Bool.not_false] at fb130
      refine wp_cond_false (x := Code.skip) (y := c4_48) (eval_slot h65) ?_
      refine wp_exit ?_
      change (c4_99).wp _ _ _ _
      refine wp_seq (x := c4_100) (y := c4_101) ?_
      change (Code.region 27 O4_27 false).wp _ _ _ _
      refine reg_in (l := [0, 1, 2, 3, 4, 5, 6, 7, 8]) rfl ?_
      have Y : (execOp a131.eval o4_27_0).run Try.prog w128 = .ok (.value (.agg #[.int .i64 t.k, .string (str t.nm), .int .i64 t.i, .slice ta t.args.length tc])) w128 := by have qq0 : w128.cell? ⟨b1, 0, none⟩ = some (.int .i64 t.k) := B1.cell 0; have qq1 : w128.cell? ⟨b1, 1, none⟩ = some (.string (str t.nm)) := B1.cell 1; have qq2 : w128.cell? ⟨b1, 2, none⟩ = some (.int .i64 t.i) := B1.cell 2; have qq3 : w128.cell? ⟨b1, 3, none⟩ = some (.slice ta t.args.length tc) := B1.cell 3; unfold o4_27_0; go_simp
      refine st_val g4_27_0 rfl (wanted_free rfl) Y fun a133 e => ?_; clear Y
      have g104 := R.at_ e (by decide); replace R := R.put e; replace h3 := so e h3; replace h4 := so e h4; replace h5 := so e h5; replace h62 := so e h62; replace h63 := so e h63; replace h64 := so e h64; replace h65 := so e h65; clear h2; have h104 := g104; clear g104; clear e
      have Y : (execOp a133.eval o4_27_1).run Try.prog w128 = .ok (.value (.slice va bs.length vc)) w128 := by unfold o4_27_1; go_simp
      refine st_val g4_27_1 rfl (wanted_free rfl) Y fun a135 e => ?_; clear Y
      have g105 := R.at_ e (by decide); replace R := R.put e; replace h3 := so e h3; replace h4 := so e h4; replace h5 := so e h5; replace h62 := so e h62; replace h63 := so e h63; replace h64 := so e h64; replace h65 := so e h65; replace h104 := so e h104; have h105 := g105; clear g105; clear e
      have Y : (execOp a135.eval o4_27_2).run Try.prog w128 = .ok (.enter 30 #[.agg #[.int .i64 t.k, .string (str t.nm), .int .i64 t.i, .slice ta t.args.length tc], .slice va bs.length vc]) w128 := by unfold o4_27_2; go_simp
      obtain ⟨xr, e1, hap⟩ : ∃ q e, apV t bs = (q, e) := ⟨_, _, rfl⟩
      have HAP1 := Lib.hid (HF.out.ap (right_of.2 HF.out.rt) hap)
      have hca := apply_sx (cap := vc) (bsl_on HB.out K2) (HT.out.on K1) (Nat.le_trans HLN.out (by decide)) (fun g off h => Nat.lt_of_lt_of_le (HBA.out g off h) K2.size) hap; clear hap
      refine st_call g4_27_2 rfl (wanted_free rfl) Y ((hca).mono ?_); clear Y
      rintro e9 w137 ⟨ax, cx, rfl, hx, kk⟩
      replace K1 := keep_onto K1 kk
      replace K2 := keep_onto K2 kk
      replace K3 := keep_onto K3 kk
      replace B1 := blk_on B1 kk
      replace B5 := blk_on B5 kk
      clear kk
      clear hca
      have HX := Lib.hid hx; clear hx
      have K5 := Keep.refl (fun g => g < w137.heap.size) w137
      refine ⟨_, rfl, fun a138 e => ?_⟩
      have g106 := R.at_ e (by decide); replace R := R.put e; replace h3 := so e h3; replace h4 := so e h4; replace h5 := so e h5; replace h62 := so e h62; replace h63 := so e h63; replace h64 := so e h64; replace h65 := so e h65; clear h104 h105; have h106 := g106; clear g106; clear e
      have Y : (execOp a138.eval o4_27_3).run Try.prog w137 = .ok (.value (.tuple #[.agg #[.int .i64 xr.k, .string (str xr.nm), .int .i64 xr.i, .slice ax xr.args.length cx], .int .i64 e1])) w137 := by unfold o4_27_3; go_simp
      refine st_val g4_27_3 rfl (wanted_free rfl) Y fun a140 e => ?_; clear Y
      have g103 := R.at_ e (by decide); replace R := R.put e; replace h3 := so e h3; replace h4 := so e h4; replace h5 := so e h5; replace h62 := so e h62; replace h63 := so e h63; replace h64 := so e h64; replace h65 := so e h65; clear h106; have h103 := g103; clear g103; clear e
      have Y : (execOp a140.eval o4_27_4).run Try.prog w137 = .ok (.value (.agg #[.int .i64 xr.k, .string (str xr.nm), .int .i64 xr.i, .slice ax xr.args.length cx])) w137 := by unfold o4_27_4; go_simp
      refine st_val g4_27_4 rfl (wanted_free rfl) Y fun a142 e => ?_; clear Y
      have g107 := R.at_ e (by decide); replace R := R.put e; replace h3 := so e h3; replace h4 := so e h4; replace h5 := so e h5; replace h62 := so e h62; replace h63 := so e h63; replace h64 := so e h64; replace h65 := so e h65; replace h103 := so e h103; have h107 := g107; clear g107; clear e
      have Y : (execOp a142.eval o4_27_5).run Try.prog w137 = .ok (.value (.int .i64 e1)) w137 := by unfold o4_27_5; go_simp
      refine st_val g4_27_5 rfl (wanted_free rfl) Y fun a144 e => ?_; clear Y
      have g108 := R.at_ e (by decide); replace R := R.put e; replace h3 := so e h3; replace h4 := so e h4; replace h5 := so e h5; replace h62 := so e h62; replace h63 := so e h63; replace h64 := so e h64; replace h65 := so e h65; replace h107 := so e h107; clear h103; have h108 := g108; clear g108; clear e
      have MK1 := K1
      have MK2 := K2
      have MK3 := K3
      have MK5 := K5
      have Y : (execOp a144.eval o4_27_6).run Try.prog w137 = .ok (.value (.pointer (some ⟨w137.heap.size, 0, none⟩))) (w137.alloc (.cells #[.int .i64 0, .string (⟨#[]⟩), .int .i64 0, .slice none 0 0] 24)) := by unfold o4_27_6; go_simp
      have B146 := Blk.new w137 24 #[.int .i64 0, .string (⟨#[]⟩), .int .i64 0, .slice none 0 0]
      replace K1 := K1.alloc (.cells #[.int .i64 0, .string (⟨#[]⟩), .int .i64 0, .slice none 0 0] 24)
      replace K2 := K2.alloc (.cells #[.int .i64 0, .string (⟨#[]⟩), .int .i64 0, .slice none 0 0] 24)
      replace K3 := K3.alloc (.cells #[.int .i64 0, .string (⟨#[]⟩), .int .i64 0, .slice none 0 0] 24)
      replace K5 := K5.alloc (.cells #[.int .i64 0, .string (⟨#[]⟩), .int .i64 0, .slice none 0 0] 24)
      have Nb1_b146 := Nat.ne_of_lt B1.lt; replace B1 := B1.alloc (.cells #[.int .i64 0, .string (⟨#[]⟩), .int .i64 0, .slice none 0 0] 24)
      have Nb5_b146 := Nat.ne_of_lt B5.lt; replace B5 := B5.alloc (.cells #[.int .i64 0, .string (⟨#[]⟩), .int .i64 0, .slice none 0 0] 24)
      obtain ⟨w147, hw147⟩ : ∃ x, x = w137.alloc (.cells #[.int .i64 0, .string (⟨#[]⟩), .int .i64 0, .slice none 0 0] 24) := ⟨_, rfl⟩
      rw [← hw147] at Y B146 K1 K2 K3 K5 B1 B5
      obtain ⟨b146, hb146⟩ : ∃ x, x = w137.heap.size := ⟨_, rfl⟩
      rw [← hb146] at Y B146 Nb1_b146 Nb5_b146
      have LK1_b146 : W.heap.size ≤ b146 := by rw [hb146]; first | exact Nat.le_refl _ | exact MK1.size
      have LK2_b146 : w20.heap.size ≤ b146 := by rw [hb146]; first | exact Nat.le_refl _ | exact MK2.size
      have LK3_b146 : w41.heap.size ≤ b146 := by rw [hb146]; first | exact Nat.le_refl _ | exact MK3.size
      have LK5_b146 : w137.heap.size ≤ b146 := by rw [hb146]; first | exact Nat.le_refl _ | exact MK5.size
      clear hw147 hb146 MK1 MK2 MK3 MK5
      refine st_val g4_27_6 rfl (wanted_free rfl) Y fun a148 e => ?_; clear Y
      have g17 := R.at_ e (by decide); replace R := R.put e; replace h3 := so e h3; replace h4 := so e h4; replace h5 := so e h5; replace h62 := so e h62; replace h63 := so e h63; replace h64 := so e h64; replace h65 := so e h65; replace h107 := so e h107; replace h108 := so e h108; have h17 := g17; clear g17; clear e
      have Y : (execOp a148.eval o4_27_7).run Try.prog w147 = .ok .skip ((((w147.setCell ⟨b146, 0, none⟩ (.int .i64 xr.k)).setCell ⟨b146, 1, none⟩ (.string (str xr.nm))).setCell ⟨b146, 2, none⟩ (.int .i64 xr.i)).setCell ⟨b146, 3, none⟩ (.slice ax xr.args.length cx)) := by have qq0 : w147.cell? ⟨b146, 0, none⟩ = some (.int .i64 0) := B146.cell 0; have qq1 : w147.cell? ⟨b146, 1, none⟩ = some (.string (⟨#[]⟩)) := B146.cell 1; have qq2 : w147.cell? ⟨b146, 2, none⟩ = some (.int .i64 0) := B146.cell 2; have qq3 : w147.cell? ⟨b146, 3, none⟩ = some (.slice none 0 0) := B146.cell 3; have z0 := B146.frozen 0; have z1 := B146.frozen 1; have z2 := B146.frozen 2; have z3 := B146.frozen 3; unfold o4_27_7; go_simp
      replace K1 := ((((K1.setCell (p := ⟨b146, 0, none⟩) (Nat.not_lt.2 LK1_b146) (.int .i64 xr.k)).setCell (p := ⟨b146, 1, none⟩) (Nat.not_lt.2 LK1_b146) (.string (str xr.nm))).setCell (p := ⟨b146, 2, none⟩) (Nat.not_lt.2 LK1_b146) (.int .i64 xr.i)).setCell (p := ⟨b146, 3, none⟩) (Nat.not_lt.2 LK1_b146) (.slice ax xr.args.length cx))
      replace K2 := ((((K2.setCell (p := ⟨b146, 0, none⟩) (Nat.not_lt.2 LK2_b146) (.int .i64 xr.k)).setCell (p := ⟨b146, 1, none⟩) (Nat.not_lt.2 LK2_b146) (.string (str xr.nm))).setCell (p := ⟨b146, 2, none⟩) (Nat.not_lt.2 LK2_b146) (.int .i64 xr.i)).setCell (p := ⟨b146, 3, none⟩) (Nat.not_lt.2 LK2_b146) (.slice ax xr.args.length cx))
      replace K3 := ((((K3.setCell (p := ⟨b146, 0, none⟩) (Nat.not_lt.2 LK3_b146) (.int .i64 xr.k)).setCell (p := ⟨b146, 1, none⟩) (Nat.not_lt.2 LK3_b146) (.string (str xr.nm))).setCell (p := ⟨b146, 2, none⟩) (Nat.not_lt.2 LK3_b146) (.int .i64 xr.i)).setCell (p := ⟨b146, 3, none⟩) (Nat.not_lt.2 LK3_b146) (.slice ax xr.args.length cx))
      replace K5 := ((((K5.setCell (p := ⟨b146, 0, none⟩) (Nat.not_lt.2 LK5_b146) (.int .i64 xr.k)).setCell (p := ⟨b146, 1, none⟩) (Nat.not_lt.2 LK5_b146) (.string (str xr.nm))).setCell (p := ⟨b146, 2, none⟩) (Nat.not_lt.2 LK5_b146) (.int .i64 xr.i)).setCell (p := ⟨b146, 3, none⟩) (Nat.not_lt.2 LK5_b146) (.slice ax xr.args.length cx))
      replace B1 := ((((B1.far (p := ⟨b146, 0, none⟩) Nb1_b146 (.int .i64 xr.k)).far (p := ⟨b146, 1, none⟩) Nb1_b146 (.string (str xr.nm))).far (p := ⟨b146, 2, none⟩) Nb1_b146 (.int .i64 xr.i)).far (p := ⟨b146, 3, none⟩) Nb1_b146 (.slice ax xr.args.length cx))
      replace B5 := ((((B5.far (p := ⟨b146, 0, none⟩) Nb5_b146 (.int .i64 xr.k)).far (p := ⟨b146, 1, none⟩) Nb5_b146 (.string (str xr.nm))).far (p := ⟨b146, 2, none⟩) Nb5_b146 (.int .i64 xr.i)).far (p := ⟨b146, 3, none⟩) Nb5_b146 (.slice ax xr.args.length cx))
      replace B146 : Blk ((((w147.setCell ⟨b146, 0, none⟩ (.int .i64 xr.k)).setCell ⟨b146, 1, none⟩ (.string (str xr.nm))).setCell ⟨b146, 2, none⟩ (.int .i64 xr.i)).setCell ⟨b146, 3, none⟩ (.slice ax xr.args.length cx)) b146 24 #[.int .i64 xr.k, .string (str xr.nm), .int .i64 xr.i, .slice ax xr.args.length cx] := ((((B146.set_ 0 (.int .i64 xr.k)).set_ 1 (.string (str xr.nm))).set_ 2 (.int .i64 xr.i)).set_ 3 (.slice ax xr.args.length cx))
      generalize ((((w147.setCell ⟨b146, 0, none⟩ (.int .i64 xr.k)).setCell ⟨b146, 1, none⟩ (.string (str xr.nm))).setCell ⟨b146, 2, none⟩ (.int .i64 xr.i)).setCell ⟨b146, 3, none⟩ (.slice ax xr.args.length cx)) = w150 at Y K1 K2 K3 K5 B1 B5 B146
      refine st_skip g4_27_7 rfl (wanted_free rfl) Y ?_; clear Y
      have Y : (execOp a148.eval o4_27_8).run Try.prog w150 = .ok (.value (.int .i64 e1)) w150 := by unfold o4_27_8; go_simp
      refine st_val g4_27_8 rfl (wanted_free rfl) Y fun a151 e => ?_; clear Y
      have g18 := R.at_ e (by decide); replace R := R.put e; replace h3 := so e h3; replace h4 := so e h4; replace h5 := so e h5; replace h17 := so e h17; replace h62 := so e h62; replace h63 := so e h63; replace h64 := so e h64; replace h65 := so e h65; clear h107 h108; have h18 := g18; clear g18; clear e
      refine st_end ?_
      change (c4_101).wp _ _ _ _
      refine wp_seq (x := c4_102) (y := c4_103) ?_
      change (Code.region 28 O4_28 false).wp _ _ _ _
      refine reg_in (l := [0, 1, 2, 3, 4, 5, 6, 7, 8]) rfl ?_
      have Y : (execOp a151.eval o4_28_0).run Try.prog w150 = .ok (.value (.agg #[.int .i64 u.k, .string (str u.nm), .int .i64 u.i, .slice ua u.args.length uc])) w150 := by have qq0 : w150.cell? ⟨b5, 0, none⟩ = some (.int .i64 u.k) := B5.cell 0; have qq1 : w150.cell? ⟨b5, 1, none⟩ = some (.string (str u.nm)) := B5.cell 1; have qq2 : w150.cell? ⟨b5, 2, none⟩ = some (.int .i64 u.i) := B5.cell 2; have qq3 : w150.cell? ⟨b5, 3, none⟩ = some (.slice ua u.args.length uc) := B5.cell 3; unfold o4_28_0; go_simp
      refine st_val g4_28_0 rfl (wanted_free rfl) Y fun a153 e => ?_; clear Y
      have g110 := R.at_ e (by decide); replace R := R.put e; replace h4 := so e h4; replace h5 := so e h5; replace h17 := so e h17; replace h18 := so e h18; replace h62 := so e h62; replace h63 := so e h63; replace h64 := so e h64; replace h65 := so e h65; clear h3; have h110 := g110; clear g110; clear e
      have Y : (execOp a153.eval o4_28_1).run Try.prog w150 = .ok (.value (.slice va bs.length vc)) w150 := by unfold o4_28_1; go_simp
      refine st_val g4_28_1 rfl (wanted_free rfl) Y fun a155 e => ?_; clear Y
      have g111 := R.at_ e (by decide); replace R := R.put e; replace h4 := so e h4; replace h5 := so e h5; replace h17 := so e h17; replace h18 := so e h18; replace h62 := so e h62; replace h63 := so e h63; replace h64 := so e h64; replace h65 := so e h65; replace h110 := so e h110; have h111 := g111; clear g111; clear e
      have Y : (execOp a155.eval o4_28_2).run Try.prog w150 = .ok (.enter 30 #[.agg #[.int .i64 u.k, .string (str u.nm), .int .i64 u.i, .slice ua u.args.length uc], .slice va bs.length vc]) w150 := by unfold o4_28_2; go_simp
      obtain ⟨yr, e2, hap⟩ : ∃ q e, apV u bs = (q, e) := ⟨_, _, rfl⟩
      have HAP2 := Lib.hid (HF.out.ap (right_of.2 HF.out.ru) hap)
      have hca := apply_sx (cap := vc) (bsl_on HB.out K2) (HU.out.on K1) (Nat.le_trans HLN.out (by decide)) (fun g off h => Nat.lt_of_lt_of_le (HBA.out g off h) K2.size) hap; clear hap
      refine st_call g4_28_2 rfl (wanted_free rfl) Y ((hca).mono ?_); clear Y
      rintro e9 w157 ⟨ay, cy, rfl, hx, kk⟩
      replace K1 := keep_onto K1 kk
      replace K2 := keep_onto K2 kk
      replace K3 := keep_onto K3 kk
      replace K5 := keep_onto K5 kk
      replace B1 := blk_on B1 kk
      replace B5 := blk_on B5 kk
      replace B146 := blk_on B146 kk
      clear kk
      clear hca
      have HY := Lib.hid hx; clear hx
      have K6 := Keep.refl (fun g => g < w157.heap.size) w157
      refine ⟨_, rfl, fun a158 e => ?_⟩
      have g112 := R.at_ e (by decide); replace R := R.put e; replace h4 := so e h4; replace h5 := so e h5; replace h17 := so e h17; replace h18 := so e h18; replace h62 := so e h62; replace h63 := so e h63; replace h64 := so e h64; replace h65 := so e h65; clear h110 h111; have h112 := g112; clear g112; clear e
      have Y : (execOp a158.eval o4_28_3).run Try.prog w157 = .ok (.value (.tuple #[.agg #[.int .i64 yr.k, .string (str yr.nm), .int .i64 yr.i, .slice ay yr.args.length cy], .int .i64 e2])) w157 := by unfold o4_28_3; go_simp
      refine st_val g4_28_3 rfl (wanted_free rfl) Y fun a160 e => ?_; clear Y
      have g109 := R.at_ e (by decide); replace R := R.put e; replace h4 := so e h4; replace h5 := so e h5; replace h17 := so e h17; replace h18 := so e h18; replace h62 := so e h62; replace h63 := so e h63; replace h64 := so e h64; replace h65 := so e h65; clear h112; have h109 := g109; clear g109; clear e
      have Y : (execOp a160.eval o4_28_4).run Try.prog w157 = .ok (.value (.agg #[.int .i64 yr.k, .string (str yr.nm), .int .i64 yr.i, .slice ay yr.args.length cy])) w157 := by unfold o4_28_4; go_simp
      refine st_val g4_28_4 rfl (wanted_free rfl) Y fun a162 e => ?_; clear Y
      have g113 := R.at_ e (by decide); replace R := R.put e; replace h4 := so e h4; replace h5 := so e h5; replace h17 := so e h17; replace h18 := so e h18; replace h62 := so e h62; replace h63 := so e h63; replace h64 := so e h64; replace h65 := so e h65; replace h109 := so e h109; have h113 := g113; clear g113; clear e
      have Y : (execOp a162.eval o4_28_5).run Try.prog w157 = .ok (.value (.int .i64 e2)) w157 := by unfold o4_28_5; go_simp
      refine st_val g4_28_5 rfl (wanted_free rfl) Y fun a164 e => ?_; clear Y
      have g114 := R.at_ e (by decide); replace R := R.put e; replace h4 := so e h4; replace h5 := so e h5; replace h17 := so e h17; replace h18 := so e h18; replace h62 := so e h62; replace h63 := so e h63; replace h64 := so e h64; replace h65 := so e h65; replace h113 := so e h113; clear h109; have h114 := g114; clear g114; clear e
      have MK1 := K1
      have MK2 := K2
      have MK3 := K3
      have MK5 := K5
      have MK6 := K6
      have Y : (execOp a164.eval o4_28_6).run Try.prog w157 = .ok (.value (.pointer (some ⟨w157.heap.size, 0, none⟩))) (w157.alloc (.cells #[.int .i64 0, .string (⟨#[]⟩), .int .i64 0, .slice none 0 0] 24)) := by unfold o4_28_6; go_simp
      have B166 := Blk.new w157 24 #[.int .i64 0, .string (⟨#[]⟩), .int .i64 0, .slice none 0 0]
      replace K1 := K1.alloc (.cells #[.int .i64 0, .string (⟨#[]⟩), .int .i64 0, .slice none 0 0] 24)
      replace K2 := K2.alloc (.cells #[.int .i64 0, .string (⟨#[]⟩), .int .i64 0, .slice none 0 0] 24)
      replace K3 := K3.alloc (.cells #[.int .i64 0, .string (⟨#[]⟩), .int .i64 0, .slice none 0 0] 24)
      replace K5 := K5.alloc (.cells #[.int .i64 0, .string (⟨#[]⟩), .int .i64 0, .slice none 0 0] 24)
      replace K6 := K6.alloc (.cells #[.int .i64 0, .string (⟨#[]⟩), .int .i64 0, .slice none 0 0] 24)
      have Nb1_b166 := Nat.ne_of_lt B1.lt; replace B1 := B1.alloc (.cells #[.int .i64 0, .string (⟨#[]⟩), .int .i64 0, .slice none 0 0] 24)
      have Nb5_b166 := Nat.ne_of_lt B5.lt; replace B5 := B5.alloc (.cells #[.int .i64 0, .string (⟨#[]⟩), .int .i64 0, .slice none 0 0] 24)
      have Nb146_b166 := Nat.ne_of_lt B146.lt; replace B146 := B146.alloc (.cells #[.int .i64 0, .string (⟨#[]⟩), .int .i64 0, .slice none 0 0] 24)
      obtain ⟨w167, hw167⟩ : ∃ x, x = w157.alloc (.cells #[.int .i64 0, .string (⟨#[]⟩), .int .i64 0, .slice none 0 0] 24) := ⟨_, rfl⟩
      rw [← hw167] at Y B166 K1 K2 K3 K5 K6 B1 B5 B146
      obtain ⟨b166, hb166⟩ : ∃ x, x = w157.heap.size := ⟨_, rfl⟩
      rw [← hb166] at Y B166 Nb1_b166 Nb5_b166 Nb146_b166
      have LK1_b166 : W.heap.size ≤ b166 := by rw [hb166]; first | exact Nat.le_refl _ | exact MK1.size
      have LK2_b166 : w20.heap.size ≤ b166 := by rw [hb166]; first | exact Nat.le_refl _ | exact MK2.size
      have LK3_b166 : w41.heap.size ≤ b166 := by rw [hb166]; first | exact Nat.le_refl _ | exact MK3.size
      have LK5_b166 : w137.heap.size ≤ b166 := by rw [hb166]; first | exact Nat.le_refl _ | exact MK5.size
      have LK6_b166 : w157.heap.size ≤ b166 := by rw [hb166]; first | exact Nat.le_refl _ | exact MK6.size
      clear hw167 hb166 MK1 MK2 MK3 MK5 MK6
      refine st_val g4_28_6 rfl (wanted_free rfl) Y fun a168 e => ?_; clear Y
      have g19 := R.at_ e (by decide); replace R := R.put e; replace h4 := so e h4; replace h5 := so e h5; replace h17 := so e h17; replace h18 := so e h18; replace h62 := so e h62; replace h63 := so e h63; replace h64 := so e h64; replace h65 := so e h65; replace h113 := so e h113; replace h114 := so e h114; have h19 := g19; clear g19; clear e
      have Y : (execOp a168.eval o4_28_7).run Try.prog w167 = .ok .skip ((((w167.setCell ⟨b166, 0, none⟩ (.int .i64 yr.k)).setCell ⟨b166, 1, none⟩ (.string (str yr.nm))).setCell ⟨b166, 2, none⟩ (.int .i64 yr.i)).setCell ⟨b166, 3, none⟩ (.slice ay yr.args.length cy)) := by have qq0 : w167.cell? ⟨b166, 0, none⟩ = some (.int .i64 0) := B166.cell 0; have qq1 : w167.cell? ⟨b166, 1, none⟩ = some (.string (⟨#[]⟩)) := B166.cell 1; have qq2 : w167.cell? ⟨b166, 2, none⟩ = some (.int .i64 0) := B166.cell 2; have qq3 : w167.cell? ⟨b166, 3, none⟩ = some (.slice none 0 0) := B166.cell 3; have z0 := B166.frozen 0; have z1 := B166.frozen 1; have z2 := B166.frozen 2; have z3 := B166.frozen 3; unfold o4_28_7; go_simp
      replace K1 := ((((K1.setCell (p := ⟨b166, 0, none⟩) (Nat.not_lt.2 LK1_b166) (.int .i64 yr.k)).setCell (p := ⟨b166, 1, none⟩) (Nat.not_lt.2 LK1_b166) (.string (str yr.nm))).setCell (p := ⟨b166, 2, none⟩) (Nat.not_lt.2 LK1_b166) (.int .i64 yr.i)).setCell (p := ⟨b166, 3, none⟩) (Nat.not_lt.2 LK1_b166) (.slice ay yr.args.length cy))
      replace K2 := ((((K2.setCell (p := ⟨b166, 0, none⟩) (Nat.not_lt.2 LK2_b166) (.int .i64 yr.k)).setCell (p := ⟨b166, 1, none⟩) (Nat.not_lt.2 LK2_b166) (.string (str yr.nm))).setCell (p := ⟨b166, 2, none⟩) (Nat.not_lt.2 LK2_b166) (.int .i64 yr.i)).setCell (p := ⟨b166, 3, none⟩) (Nat.not_lt.2 LK2_b166) (.slice ay yr.args.length cy))
      replace K3 := ((((K3.setCell (p := ⟨b166, 0, none⟩) (Nat.not_lt.2 LK3_b166) (.int .i64 yr.k)).setCell (p := ⟨b166, 1, none⟩) (Nat.not_lt.2 LK3_b166) (.string (str yr.nm))).setCell (p := ⟨b166, 2, none⟩) (Nat.not_lt.2 LK3_b166) (.int .i64 yr.i)).setCell (p := ⟨b166, 3, none⟩) (Nat.not_lt.2 LK3_b166) (.slice ay yr.args.length cy))
      replace K5 := ((((K5.setCell (p := ⟨b166, 0, none⟩) (Nat.not_lt.2 LK5_b166) (.int .i64 yr.k)).setCell (p := ⟨b166, 1, none⟩) (Nat.not_lt.2 LK5_b166) (.string (str yr.nm))).setCell (p := ⟨b166, 2, none⟩) (Nat.not_lt.2 LK5_b166) (.int .i64 yr.i)).setCell (p := ⟨b166, 3, none⟩) (Nat.not_lt.2 LK5_b166) (.slice ay yr.args.length cy))
      replace K6 := ((((K6.setCell (p := ⟨b166, 0, none⟩) (Nat.not_lt.2 LK6_b166) (.int .i64 yr.k)).setCell (p := ⟨b166, 1, none⟩) (Nat.not_lt.2 LK6_b166) (.string (str yr.nm))).setCell (p := ⟨b166, 2, none⟩) (Nat.not_lt.2 LK6_b166) (.int .i64 yr.i)).setCell (p := ⟨b166, 3, none⟩) (Nat.not_lt.2 LK6_b166) (.slice ay yr.args.length cy))
      replace B1 := ((((B1.far (p := ⟨b166, 0, none⟩) Nb1_b166 (.int .i64 yr.k)).far (p := ⟨b166, 1, none⟩) Nb1_b166 (.string (str yr.nm))).far (p := ⟨b166, 2, none⟩) Nb1_b166 (.int .i64 yr.i)).far (p := ⟨b166, 3, none⟩) Nb1_b166 (.slice ay yr.args.length cy))
      replace B5 := ((((B5.far (p := ⟨b166, 0, none⟩) Nb5_b166 (.int .i64 yr.k)).far (p := ⟨b166, 1, none⟩) Nb5_b166 (.string (str yr.nm))).far (p := ⟨b166, 2, none⟩) Nb5_b166 (.int .i64 yr.i)).far (p := ⟨b166, 3, none⟩) Nb5_b166 (.slice ay yr.args.length cy))
      replace B146 := ((((B146.far (p := ⟨b166, 0, none⟩) Nb146_b166 (.int .i64 yr.k)).far (p := ⟨b166, 1, none⟩) Nb146_b166 (.string (str yr.nm))).far (p := ⟨b166, 2, none⟩) Nb146_b166 (.int .i64 yr.i)).far (p := ⟨b166, 3, none⟩) Nb146_b166 (.slice ay yr.args.length cy))
      replace B166 : Blk ((((w167.setCell ⟨b166, 0, none⟩ (.int .i64 yr.k)).setCell ⟨b166, 1, none⟩ (.string (str yr.nm))).setCell ⟨b166, 2, none⟩ (.int .i64 yr.i)).setCell ⟨b166, 3, none⟩ (.slice ay yr.args.length cy)) b166 24 #[.int .i64 yr.k, .string (str yr.nm), .int .i64 yr.i, .slice ay yr.args.length cy] := ((((B166.set_ 0 (.int .i64 yr.k)).set_ 1 (.string (str yr.nm))).set_ 2 (.int .i64 yr.i)).set_ 3 (.slice ay yr.args.length cy))
      generalize ((((w167.setCell ⟨b166, 0, none⟩ (.int .i64 yr.k)).setCell ⟨b166, 1, none⟩ (.string (str yr.nm))).setCell ⟨b166, 2, none⟩ (.int .i64 yr.i)).setCell ⟨b166, 3, none⟩ (.slice ay yr.args.length cy)) = w170 at Y K1 K2 K3 K5 K6 B1 B5 B146 B166
      refine st_skip g4_28_7 rfl (wanted_free rfl) Y ?_; clear Y
      have Y : (execOp a168.eval o4_28_8).run Try.prog w170 = .ok (.value (.int .i64 e2)) w170 := by unfold o4_28_8; go_simp
      refine st_val g4_28_8 rfl (wanted_free rfl) Y fun a171 e => ?_; clear Y
      have g20 := R.at_ e (by decide); replace R := R.put e; replace h4 := so e h4; replace h5 := so e h5; replace h17 := so e h17; replace h18 := so e h18; replace h19 := so e h19; replace h62 := so e h62; replace h63 := so e h63; replace h64 := so e h64; replace h65 := so e h65; clear h113 h114; have h20 := g20; clear g20; clear e
      refine st_end ?_
      change (c4_103).wp _ _ _ _
      refine wp_seq (x := c4_104) (y := c4_111) ?_
      refine wp_seq (x := c4_105) (y := c4_106) ?_
      change (Code.region 29 O4_29 false).wp _ _ _ _
      refine reg_in (l := [0, 1, 2, 3, 4, 5]) rfl ?_
      have Y : (execOp a171.eval o4_29_0).run Try.prog w170 = .ok (.value (.int .i64 e1)) w170 := by unfold o4_29_0; go_simp
      refine st_val g4_29_0 rfl (wanted_free rfl) Y fun a173 e => ?_; clear Y
      have g115 := R.at_ e (by decide); replace R := R.put e; replace h4 := so e h4; replace h5 := so e h5; replace h17 := so e h17; replace h18 := so e h18; replace h19 := so e h19; replace h20 := so e h20; replace h62 := so e h62; replace h63 := so e h63; replace h64 := so e h64; replace h65 := so e h65; have h115 := g115; clear g115; clear e
      obtain ⟨b175, hb175⟩ : ∃ x, (((e1 : Int) != (0 : Int))) = x := ⟨_, rfl⟩
      have Y : (execOp a173.eval o4_29_1).run Try.prog w170 = .ok (.value (.bool b175)) w170 := by rw [← hb175]; unfold o4_29_1; go_simp
      refine st_val g4_29_1 rfl (wanted_free rfl) Y fun a176 e => ?_; clear Y
      have g116 := R.at_ e (by decide); replace R := R.put e; replace h4 := so e h4; replace h5 := so e h5; replace h17 := so e h17; replace h18 := so e h18; replace h19 := so e h19; replace h20 := so e h20; replace h62 := so e h62; replace h63 := so e h63; replace h64 := so e h64; replace h65 := so e h65; clear h115; have h116 := g116; clear g116; clear e
      have Y : (execOp a176.eval o4_29_2).run Try.prog w170 = .ok (.value (.bool b175)) w170 := by unfold o4_29_2; go_simp
      refine st_val g4_29_2 rfl (wanted_free rfl) Y fun a178 e => ?_; clear Y
      have g117 := R.at_ e (by decide); replace R := R.put e; replace h4 := so e h4; replace h5 := so e h5; replace h17 := so e h17; replace h18 := so e h18; replace h19 := so e h19; replace h20 := so e h20; replace h62 := so e h62; replace h63 := so e h63; replace h64 := so e h64; replace h65 := so e h65; clear h116; have h117 := g117; clear g117; clear e
      cases b175 with
      | false =>
        have fb175 := hb175; clear hb175
        simp only [decide_eq_true_eq, decide_eq_false_iff_not, bne_iff_ne, bne_eq_false_iff_eq, beq_iff_eq, beq_eq_false_iff_ne, ne_eq, Bool.not_eq_true', Bool.not_eq_false', Bool.not_eq_eq_eq_not, Bool.not_true, Bool.not_false] at fb175
        have Y : (execOp a178.eval o4_29_3).run Try.prog w170 = .ok (.value (.int .i64 e2)) w170 := by unfold o4_29_3; go_simp
        refine st_val g4_29_3 rfl (wanted_is (j := 2) (d := 117) rfl rfl h117 rfl) Y fun a180 e => ?_; clear Y
        have g118 := R.at_ e (by decide); replace R := R.put e; replace h4 := so e h4; replace h5 := so e h5; replace h17 := so e h17; replace h18 := so e h18; replace h19 := so e h19; replace h20 := so e h20; replace h62 := so e h62; replace h63 := so e h63; replace h64 := so e h64; replace h65 := so e h65; replace h117 := so e h117; have h118 := g118; clear g118; clear e
        obtain ⟨b182, hb182⟩ : ∃ x, (((e2 : Int) != (0 : Int))) = x := ⟨_, rfl⟩
        have Y : (execOp a180.eval o4_29_4).run Try.prog w170 = .ok (.value (.bool b182)) w170 := by rw [← hb182]; unfold o4_29_4; go_simp
        refine st_val g4_29_4 rfl (wanted_is (j := 2) (d := 117) rfl rfl h117 rfl) Y fun a183 e => ?_; clear Y
        have g119 := R.at_ e (by decide); replace R := R.put e; replace h4 := so e h4; replace h5 := so e h5; replace h17 := so e h17; replace h18 := so e h18; replace h19 := so e h19; replace h20 := so e h20; replace h62 := so e h62; replace h63 := so e h63; replace h64 := so e h64; replace h65 := so e h65; replace h117 := so e h117; clear h118; have h119 := g119; clear g119; clear e
        have Y : (execOp a183.eval o4_29_5).run Try.prog w170 = .ok (.value (.bool b182)) w170 := by unfold o4_29_5; go_simp
        refine st_val g4_29_5 rfl (wanted_free rfl) Y fun a185 e => ?_; clear Y
        have g120 := R.at_ e (by decide); replace R := R.put e; replace h4 := so e h4; replace h5 := so e h5; replace h17 := so e h17; replace h18 := so e h18; replace h19 := so e h19; replace h20 := so e h20; replace h62 := so e h62; replace h63 := so e h63; replace h64 := so e h64; replace h65 := so e h65; clear h117 h119; have h120 := g120; clear g120; clear e
        refine st_end ?_
        change (c4_106).wp _ _ _ _
        cases b182 with
        | false =>
          have fb182 := hb182; clear hb182
          simp only [decide_eq_true_eq, decide_eq_false_iff_not, bne_iff_ne, bne_eq_false_iff_eq, beq_iff_eq, beq_eq_false_iff_ne, ne_eq, Bool.not_eq_true', Bool.not_eq_false', Bool.not_eq_eq_eq_not, Bool.not_true, Bool.not_false] at fb182
          refine wp_cond_false (x := c4_107) (y := Code.skip) (eval_slot h120) ?_
          refine wp_skip ?_
          change (c4_111).wp _ _ _ _
          refine wp_seq (x := c4_112) (y := c4_113) ?_
          change (Code.region 31 O4_31 false).wp _ _ _ _
          refine reg_in (l := [0, 1, 2, 3, 4, 5, 6, 7, 8, 9]) rfl ?_
          have Y : (execOp a185.eval o4_31_0).run Try.prog w170 = .ok (.value (.agg #[.int .i64 xr.k, .string (str xr.nm), .int .i64 xr.i, .slice ax xr.args.length cx])) w170 := by have qq0 : w170.cell? ⟨b146, 0, none⟩ = some (.int .i64 xr.k) := B146.cell 0; have qq1 : w170.cell? ⟨b146, 1, none⟩ = some (.string (str xr.nm)) := B146.cell 1; have qq2 : w170.cell? ⟨b146, 2, none⟩ = some (.int .i64 xr.i) := B146.cell 2; have qq3 : w170.cell? ⟨b146, 3, none⟩ = some (.slice ax xr.args.length cx) := B146.cell 3; unfold o4_31_0; go_simp
          refine st_val g4_31_0 rfl (wanted_free rfl) Y fun a187 e => ?_; clear Y
          have g128 := R.at_ e (by decide); replace R := R.put e; replace h4 := so e h4; replace h5 := so e h5; replace h17 := so e h17; replace h19 := so e h19; replace h62 := so e h62; replace h63 := so e h63; replace h64 := so e h64; replace h65 := so e h65; clear h18 h20 h120; have h128 := g128; clear g128; clear e
          have Y : (execOp a187.eval o4_31_1).run Try.prog w170 = .ok (.value (.agg #[.int .i64 yr.k, .string (str yr.nm), .int .i64 yr.i, .slice ay yr.args.length cy])) w170 := by have qq0 : w170.cell? ⟨b166, 0, none⟩ = some (.int .i64 yr.k) := B166.cell 0; have qq1 : w170.cell? ⟨b166, 1, none⟩ = some (.string (str yr.nm)) := B166.cell 1; have qq2 : w170.cell? ⟨b166, 2, none⟩ = some (.int .i64 yr.i) := B166.cell 2; have qq3 : w170.cell? ⟨b166, 3, none⟩ = some (.slice ay yr.args.length cy) := B166.cell 3; unfold o4_31_1; go_simp
          refine st_val g4_31_1 rfl (wanted_free rfl) Y fun a189 e => ?_; clear Y
          have g129 := R.at_ e (by decide); replace R := R.put e; replace h4 := so e h4; replace h5 := so e h5; replace h17 := so e h17; replace h19 := so e h19; replace h62 := so e h62; replace h63 := so e h63; replace h64 := so e h64; replace h65 := so e h65; replace h128 := so e h128; have h129 := g129; clear g129; clear e
          have Y : (execOp a189.eval o4_31_2).run Try.prog w170 = .ok (.enter 28 #[.agg #[.int .i64 xr.k, .string (str xr.nm), .int .i64 xr.i, .slice ax xr.args.length cx], .agg #[.int .i64 yr.k, .string (str yr.nm), .int .i64 yr.i, .slice ay yr.args.length cy]]) w170 := by unfold o4_31_2; go_simp
          refine st_call g4_31_2 rfl (wanted_free rfl) Y ((solve_sx (HX.out.on K5) (HY.out.on K6)).mono ?_); clear Y
          rintro e9 w191 ⟨vx, vy, ds, okz, erz, rfl, hs, kk⟩
          replace K1 := keep_onto K1 kk
          replace K2 := keep_onto K2 kk
          replace K3 := keep_onto K3 kk
          replace K5 := keep_onto K5 kk
          replace K6 := keep_onto K6 kk
          replace B1 := blk_on B1 kk
          replace B5 := blk_on B5 kk
          replace B146 := blk_on B146 kk
          replace B166 := blk_on B166 kk
          clear kk
          obtain ⟨rfl, rfl, hd0, hsm⟩ := one_tree (HAP1.out.2 (by omega)).1 (HAP2.out.2 (by omega)).1 (((HAP1.out.2 (by omega)).2.trans HF.out.sol.uni).trans (HAP2.out.2 (by omega)).2.symm) hs.1
          clear hs; rw [hd0]; clear hd0; have HSM := Lib.hid hsm; clear hsm
          refine ⟨_, rfl, fun a192 e => ?_⟩
          have g130 := R.at_ e (by decide); replace R := R.put e; replace h4 := so e h4; replace h5 := so e h5; replace h17 := so e h17; replace h19 := so e h19; replace h62 := so e h62; replace h63 := so e h63; replace h64 := so e h64; replace h65 := so e h65; clear h128 h129; have h130 := g130; clear g130; clear e
          have Y : (execOp a192.eval o4_31_3).run Try.prog w191 = .ok (.value (.tuple #[.slice vx 0 vy, .bool true, .int .i64 0])) w191 := by unfold o4_31_3; go_simp
          refine st_val g4_31_3 rfl (wanted_free rfl) Y fun a194 e => ?_; clear Y
          have g127 := R.at_ e (by decide); replace R := R.put e; replace h4 := so e h4; replace h5 := so e h5; replace h17 := so e h17; replace h19 := so e h19; replace h62 := so e h62; replace h63 := so e h63; replace h64 := so e h64; replace h65 := so e h65; clear h130; have h127 := g127; clear g127; clear e
          have Y : (execOp a194.eval o4_31_4).run Try.prog w191 = .ok (.value (.slice vx 0 vy)) w191 := by unfold o4_31_4; go_simp
          refine st_val g4_31_4 rfl (wanted_free rfl) Y fun a196 e => ?_; clear Y
          have g131 := R.at_ e (by decide); replace R := R.put e; replace h4 := so e h4; replace h5 := so e h5; replace h17 := so e h17; replace h19 := so e h19; replace h62 := so e h62; replace h63 := so e h63; replace h64 := so e h64; replace h65 := so e h65; replace h127 := so e h127; have h131 := g131; clear g131; clear e
          have Y : (execOp a196.eval o4_31_5).run Try.prog w191 = .ok (.value (.bool true)) w191 := by unfold o4_31_5; go_simp
          refine st_val g4_31_5 rfl (wanted_free rfl) Y fun a198 e => ?_; clear Y
          have g132 := R.at_ e (by decide); replace R := R.put e; replace h4 := so e h4; replace h5 := so e h5; replace h17 := so e h17; replace h19 := so e h19; replace h62 := so e h62; replace h63 := so e h63; replace h64 := so e h64; replace h65 := so e h65; replace h127 := so e h127; replace h131 := so e h131; have h132 := g132; clear g132; clear e
          have Y : (execOp a198.eval o4_31_6).run Try.prog w191 = .ok (.value (.int .i64 0)) w191 := by unfold o4_31_6; go_simp
          refine st_val g4_31_6 rfl (wanted_free rfl) Y fun a200 e => ?_; clear Y
          have g133 := R.at_ e (by decide); replace R := R.put e; replace h4 := so e h4; replace h5 := so e h5; replace h17 := so e h17; replace h19 := so e h19; replace h62 := so e h62; replace h63 := so e h63; replace h64 := so e h64; replace h65 := so e h65; replace h131 := so e h131; replace h132 := so e h132; clear h127; have h133 := g133; clear g133; clear e
          have Y : (execOp a200.eval o4_31_7).run Try.prog w191 = .ok (.value (.slice vx 0 vy)) w191 := by unfold o4_31_7; go_simp
          refine st_val g4_31_7 rfl (wanted_free rfl) Y fun a202 e => ?_; clear Y
          have g21 := R.at_ e (by decide); replace R := R.put e; replace h4 := so e h4; replace h5 := so e h5; replace h17 := so e h17; replace h19 := so e h19; replace h62 := so e h62; replace h63 := so e h63; replace h64 := so e h64; replace h65 := so e h65; replace h132 := so e h132; replace h133 := so e h133; clear h131; have h21 := g21; clear g21; clear e
          have Y : (execOp a202.eval o4_31_8).run Try.prog w191 = .ok (.value (.bool true)) w191 := by unfold o4_31_8; go_simp
          refine st_val g4_31_8 rfl (wanted_free rfl) Y fun a204 e => ?_; clear Y
          have g22 := R.at_ e (by decide); replace R := R.put e; replace h4 := so e h4; replace h5 := so e h5; replace h17 := so e h17; replace h19 := so e h19; replace h21 := so e h21; replace h62 := so e h62; replace h63 := so e h63; replace h64 := so e h64; replace h65 := so e h65; replace h133 := so e h133; clear h132; have h22 := g22; clear g22; clear e
          have Y : (execOp a204.eval o4_31_9).run Try.prog w191 = .ok (.value (.int .i64 0)) w191 := by unfold o4_31_9; go_simp
          refine st_val g4_31_9 rfl (wanted_free rfl) Y fun a206 e => ?_; clear Y
          have g23 := R.at_ e (by decide); replace R := R.put e; replace h4 := so e h4; replace h5 := so e h5; replace h17 := so e h17; replace h19 := so e h19; replace h21 := so e h21; replace h22 := so e h22; replace h62 := so e h62; replace h63 := so e h63; replace h64 := so e h64; replace h65 := so e h65; clear h133; have h23 := g23; clear g23; clear e
          refine st_end ?_
          change (c4_113).wp _ _ _ _
          refine wp_seq (x := c4_114) (y := Code.ret) ?_
          change (Code.region 32 O4_32 false).wp _ _ _ _
          refine reg_in (l := [0, 1, 2, 3, 4, 5, 6, 7, 8, 9, 10, 11, 12, 13, 14, 15]) rfl ?_
          have Y : (execOp a206.eval o4_32_0).run Try.prog w191 = .ok (.value (.agg #[.int .i64 xr.k, .string (str xr.nm), .int .i64 xr.i, .slice ax xr.args.length cx])) w191 := by have qq0 : w191.cell? ⟨b146, 0, none⟩ = some (.int .i64 xr.k) := B146.cell 0; have qq1 : w191.cell? ⟨b146, 1, none⟩ = some (.string (str xr.nm)) := B146.cell 1; have qq2 : w191.cell? ⟨b146, 2, none⟩ = some (.int .i64 xr.i) := B146.cell 2; have qq3 : w191.cell? ⟨b146, 3, none⟩ = some (.slice ax xr.args.length cx) := B146.cell 3; unfold o4_32_0; go_simp
          refine st_val g4_32_0 rfl (wanted_free rfl) Y fun a208 e => ?_; clear Y
          have g134 := R.at_ e (by decide); replace R := R.put e; replace h4 := so e h4; replace h5 := so e h5; replace h19 := so e h19; replace h21 := so e h21; replace h22 := so e h22; replace h23 := so e h23; replace h62 := so e h62; replace h63 := so e h63; replace h64 := so e h64; replace h65 := so e h65; clear h17; have h134 := g134; clear g134; clear e
          have Y : (execOp a208.eval o4_32_1).run Try.prog w191 = .ok (.value (.agg #[.int .i64 yr.k, .string (str yr.nm), .int .i64 yr.i, .slice ay yr.args.length cy])) w191 := by have qq0 : w191.cell? ⟨b166, 0, none⟩ = some (.int .i64 yr.k) := B166.cell 0; have qq1 : w191.cell? ⟨b166, 1, none⟩ = some (.string (str yr.nm)) := B166.cell 1; have qq2 : w191.cell? ⟨b166, 2, none⟩ = some (.int .i64 yr.i) := B166.cell 2; have qq3 : w191.cell? ⟨b166, 3, none⟩ = some (.slice ay yr.args.length cy) := B166.cell 3; unfold o4_32_1; go_simp
          refine st_val g4_32_1 rfl (wanted_free rfl) Y fun a210 e => ?_; clear Y
          have g135 := R.at_ e (by decide); replace R := R.put e; replace h4 := so e h4; replace h5 := so e h5; replace h21 := so e h21; replace h22 := so e h22; replace h23 := so e h23; replace h62 := so e h62; replace h63 := so e h63; replace h64 := so e h64; replace h65 := so e h65; replace h134 := so e h134; clear h19; have h135 := g135; clear g135; clear e
          have Y : (execOp a210.eval o4_32_2).run Try.prog w191 = .ok (.enter 19 #[.agg #[.int .i64 xr.k, .string (str xr.nm), .int .i64 xr.i, .slice ax xr.args.length cx], .agg #[.int .i64 yr.k, .string (str yr.nm), .int .i64 yr.i, .slice ay yr.args.length cy]]) w191 := by unfold o4_32_2; go_simp
          refine st_call g4_32_2 rfl (wanted_free rfl) Y ((same_sx (z := true) (HX.out.on K5) (HY.out.on K6) HSM.out).mono ?_); clear Y
          rintro e9 w212 ⟨rfl, kk⟩
          replace K1 := keep_onto K1 kk
          replace K2 := keep_onto K2 kk
          replace K3 := keep_onto K3 kk
          replace K5 := keep_onto K5 kk
          replace K6 := keep_onto K6 kk
          replace B1 := blk_on B1 kk
          replace B5 := blk_on B5 kk
          replace B146 := blk_on B146 kk
          replace B166 := blk_on B166 kk
          clear kk
          refine ⟨_, rfl, fun a213 e => ?_⟩
          have g136 := R.at_ e (by decide); replace R := R.put e; replace h4 := so e h4; replace h5 := so e h5; replace h21 := so e h21; replace h22 := so e h22; replace h23 := so e h23; replace h62 := so e h62; replace h63 := so e h63; replace h64 := so e h64; replace h65 := so e h65; clear h134 h135; have h136 := g136; clear g136; clear e
          have Y : (execOp a213.eval o4_32_3).run Try.prog w212 = .ok (.value (.bool true)) w212 := by unfold o4_32_3; go_simp
          refine st_val g4_32_3 rfl (wanted_free rfl) Y fun a215 e => ?_; clear Y
          have g137 := R.at_ e (by decide); replace R := R.put e; replace h4 := so e h4; replace h5 := so e h5; replace h21 := so e h21; replace h22 := so e h22; replace h23 := so e h23; replace h62 := so e h62; replace h63 := so e h63; replace h64 := so e h64; replace h65 := so e h65; clear h136; have h137 := g137; clear g137; clear e
          have Y : (execOp a215.eval o4_32_4).run Try.prog w212 = .ok (.value (.bool true)) w212 := by unfold o4_32_4; go_simp
          refine st_val g4_32_4 rfl (wanted_is (j := 3) (d := 137) rfl rfl h137 rfl) Y fun a217 e => ?_; clear Y
          have g138 := R.at_ e (by decide); replace R := R.put e; replace h4 := so e h4; replace h5 := so e h5; replace h21 := so e h21; replace h23 := so e h23; replace h62 := so e h62; replace h63 := so e h63; replace h64 := so e h64; replace h65 := so e h65; replace h137 := so e h137; clear h22; have h138 := g138; clear g138; clear e
          have Y : (execOp a217.eval o4_32_5).run Try.prog w212 = .ok (.value (.bool true)) w212 := by unfold o4_32_5; go_simp
          refine st_val g4_32_5 rfl (wanted_free rfl) Y fun a219 e => ?_; clear Y
          have g139 := R.at_ e (by decide); replace R := R.put e; replace h4 := so e h4; replace h5 := so e h5; replace h21 := so e h21; replace h23 := so e h23; replace h62 := so e h62; replace h63 := so e h63; replace h64 := so e h64; replace h65 := so e h65; clear h137 h138; have h139 := g139; clear g139; clear e
          have Y : (execOp a219.eval o4_32_6).run Try.prog w212 = .ok (.value (.bool true)) w212 := by unfold o4_32_6; go_simp
          refine st_val g4_32_6 rfl (wanted_free rfl) Y fun a221 e => ?_; clear Y
          have g140 := R.at_ e (by decide); replace R := R.put e; replace h4 := so e h4; replace h5 := so e h5; replace h21 := so e h21; replace h23 := so e h23; replace h62 := so e h62; replace h63 := so e h63; replace h64 := so e h64; replace h65 := so e h65; clear h139; have h140 := g140; clear g140; clear e
          have Y : (execOp a221.eval o4_32_7).run Try.prog w212 = .ok (.value (.int .i64 0)) w212 := by unfold o4_32_7; go_simp
          refine st_val g4_32_7 rfl (wanted_is (j := 6) (d := 140) rfl rfl h140 rfl) Y fun a223 e => ?_; clear Y
          have g141 := R.at_ e (by decide); replace R := R.put e; replace h4 := so e h4; replace h5 := so e h5; replace h21 := so e h21; replace h62 := so e h62; replace h63 := so e h63; replace h64 := so e h64; replace h65 := so e h65; replace h140 := so e h140; clear h23; have h141 := g141; clear g141; clear e
          have Y : (execOp a223.eval o4_32_8).run Try.prog w212 = .ok (.value (.bool true)) w212 := by unfold o4_32_8; go_simp
          refine st_val g4_32_8 rfl (wanted_is (j := 6) (d := 140) rfl rfl h140 rfl) Y fun a225 e => ?_; clear Y
          have g142 := R.at_ e (by decide); replace R := R.put e; replace h4 := so e h4; replace h5 := so e h5; replace h21 := so e h21; replace h62 := so e h62; replace h63 := so e h63; replace h64 := so e h64; replace h65 := so e h65; replace h140 := so e h140; clear h141; have h142 := g142; clear g142; clear e
          have Y : (execOp a225.eval o4_32_9).run Try.prog w212 = .ok (.value (.bool true)) w212 := by unfold o4_32_9; go_simp
          refine st_val g4_32_9 rfl (wanted_free rfl) Y fun a227 e => ?_; clear Y
          have g143 := R.at_ e (by decide); replace R := R.put e; replace h4 := so e h4; replace h5 := so e h5; replace h21 := so e h21; replace h62 := so e h62; replace h63 := so e h63; replace h64 := so e h64; replace h65 := so e h65; clear h140 h142; have h143 := g143; clear g143; clear e
          have Y : (execOp a227.eval o4_32_10).run Try.prog w212 = .ok (.value (.bool true)) w212 := by unfold o4_32_10; go_simp
          refine st_val g4_32_10 rfl (wanted_free rfl) Y fun a229 e => ?_; clear Y
          have g144 := R.at_ e (by decide); replace R := R.put e; replace h4 := so e h4; replace h5 := so e h5; replace h21 := so e h21; replace h62 := so e h62; replace h63 := so e h63; replace h64 := so e h64; replace h65 := so e h65; clear h143; have h144 := g144; clear g144; clear e
          have Y : (execOp a229.eval o4_32_11).run Try.prog w212 = .ok (.value (.slice vx 0 vy)) w212 := by unfold o4_32_11; go_simp
          refine st_val g4_32_11 rfl (wanted_is (j := 10) (d := 144) rfl rfl h144 rfl) Y fun a231 e => ?_; clear Y
          have g145 := R.at_ e (by decide); replace R := R.put e; replace h4 := so e h4; replace h5 := so e h5; replace h62 := so e h62; replace h63 := so e h63; replace h64 := so e h64; replace h65 := so e h65; replace h144 := so e h144; clear h21; have h145 := g145; clear g145; clear e
          have Y : (execOp a231.eval o4_32_12).run Try.prog w212 = .ok (.value (.int .i64 0)) w212 := by unfold o4_32_12; go_simp
          refine st_val g4_32_12 rfl (wanted_is (j := 10) (d := 144) rfl rfl h144 rfl) Y fun a233 e => ?_; clear Y
          have g146 := R.at_ e (by decide); replace R := R.put e; replace h4 := so e h4; replace h5 := so e h5; replace h62 := so e h62; replace h63 := so e h63; replace h64 := so e h64; replace h65 := so e h65; replace h144 := so e h144; clear h145; have h146 := g146; clear g146; clear e
          have Y : (execOp a233.eval o4_32_13).run Try.prog w212 = .ok (.value (.bool true)) w212 := by unfold o4_32_13; go_simp
          refine st_val g4_32_13 rfl (wanted_is (j := 10) (d := 144) rfl rfl h144 rfl) Y fun a235 e => ?_; clear Y
          have g147 := R.at_ e (by decide); replace R := R.put e; replace h4 := so e h4; replace h5 := so e h5; replace h62 := so e h62; replace h63 := so e h63; replace h64 := so e h64; replace h65 := so e h65; replace h144 := so e h144; clear h146; have h147 := g147; clear g147; clear e
          have Y : (execOp a235.eval o4_32_14).run Try.prog w212 = .ok (.value (.bool true)) w212 := by unfold o4_32_14; go_simp
          refine st_val g4_32_14 rfl (wanted_free rfl) Y fun a237 e => ?_; clear Y
          have g148 := R.at_ e (by decide); replace R := R.put e; replace h4 := so e h4; replace h5 := so e h5; replace h62 := so e h62; replace h63 := so e h63; replace h64 := so e h64; replace h65 := so e h65; clear h144 h147; have h148 := g148; clear g148; clear e
          have Y : (execOp a237.eval o4_32_15).run Try.prog w212 = .ok (.value (.bool true)) w212 := by unfold o4_32_15; go_simp
          refine st_val g4_32_15 rfl (wanted_free rfl) Y fun a239 e => ?_; clear Y
          have g4 := R.at_ e (by decide); replace R := R.put e; replace h5 := so e h5; replace h62 := so e h62; replace h63 := so e h63; replace h64 := so e h64; replace h65 := so e h65; clear h4 h148; have h4 := g4; clear g4; clear e
          refine st_end ?_
          change (Code.ret).wp _ _ _ _
          refine wp_ret ?_
          change bodyPost Try.prog Try.f4 (fun e w' => e = .returned (.bool true) ∧ Keep (fun g => g < W.heap.size) W w') .ret a239 w212
          refine ret_one rfl R h4 ?_
          exact ⟨rfl, K1⟩
        | true =>
          have fb182 := hb182; clear hb182
          simp only [decide_eq_true_eq, decide_eq_false_iff_not, bne_iff_ne, bne_eq_false_iff_eq, beq_iff_eq, beq_eq_false_iff_ne, ne_eq, Bool.not_eq_true', Bool.not_eq_false', Bool.not_eq_eq_eq_not, Bool.not_true, Bool.not_false] at fb182
          refine wp_cond_true (x := c4_107) (y := Code.skip) (eval_slot h120) ?_
          refine wp_seq (x := c4_108) (y := Code.ret) ?_
          change (Code.region 30 O4_30 false).wp _ _ _ _
          refine reg_in (l := [0, 1, 2, 3, 4, 5, 6]) rfl ?_
          have Y : (execOp a185.eval o4_30_0).run Try.prog w170 = .ok (.value (.int .i64 e1)) w170 := by unfold o4_30_0; go_simp
          refine st_val g4_30_0 rfl (wanted_free rfl) Y fun a241 e => ?_; clear Y
          have g121 := R.at_ e (by decide); replace R := R.put e; replace h4 := so e h4; replace h5 := so e h5; replace h17 := so e h17; replace h19 := so e h19; replace h20 := so e h20; replace h62 := so e h62; replace h63 := so e h63; replace h64 := so e h64; replace h65 := so e h65; clear h18 h120; have h121 := g121; clear g121; clear e
          obtain ⟨b243, hb243⟩ : ∃ x, (((e1 : Int) == (2 : Int))) = x := ⟨_, rfl⟩
          have Y : (execOp a241.eval o4_30_1).run Try.prog w170 = .ok (.value (.bool b243)) w170 := by rw [← hb243]; unfold o4_30_1; go_simp
          refine st_val g4_30_1 rfl (wanted_free rfl) Y fun a244 e => ?_; clear Y
          have g122 := R.at_ e (by decide); replace R := R.put e; replace h4 := so e h4; replace h5 := so e h5; replace h17 := so e h17; replace h19 := so e h19; replace h20 := so e h20; replace h62 := so e h62; replace h63 := so e h63; replace h64 := so e h64; replace h65 := so e h65; clear h121; have h122 := g122; clear g122; clear e
          have Y : (execOp a244.eval o4_30_2).run Try.prog w170 = .ok (.value (.bool b243)) w170 := by unfold o4_30_2; go_simp
          refine st_val g4_30_2 rfl (wanted_free rfl) Y fun a246 e => ?_; clear Y
          have g123 := R.at_ e (by decide); replace R := R.put e; replace h4 := so e h4; replace h5 := so e h5; replace h17 := so e h17; replace h19 := so e h19; replace h20 := so e h20; replace h62 := so e h62; replace h63 := so e h63; replace h64 := so e h64; replace h65 := so e h65; clear h122; have h123 := g123; clear g123; clear e
          cases b243 with
          | false =>
            have fb243 := hb243; clear hb243
            simp only [decide_eq_true_eq, decide_eq_false_iff_not, bne_iff_ne, bne_eq_false_iff_eq, beq_iff_eq, beq_eq_false_iff_ne, ne_eq, Bool.not_eq_true', Bool.not_eq_false', Bool.not_eq_eq_eq_not, Bool.not_true, Bool.not_false] at fb243
            have Y : (execOp a246.eval o4_30_3).run Try.prog w170 = .ok (.value (.int .i64 e2)) w170 := by unfold o4_30_3; go_simp
            refine st_val g4_30_3 rfl (wanted_is (j := 2) (d := 123) rfl rfl h123 rfl) Y fun a248 e => ?_; clear Y
            have g124 := R.at_ e (by decide); replace R := R.put e; replace h4 := so e h4; replace h5 := so e h5; replace h17 := so e h17; replace h19 := so e h19; replace h62 := so e h62; replace h63 := so e h63; replace h64 := so e h64; replace h65 := so e h65; replace h123 := so e h123; clear h20; have h124 := g124; clear g124; clear e
            obtain ⟨b250, hb250⟩ : ∃ x, (((e2 : Int) == (2 : Int))) = x := ⟨_, rfl⟩
            have Y : (execOp a248.eval o4_30_4).run Try.prog w170 = .ok (.value (.bool b250)) w170 := by rw [← hb250]; unfold o4_30_4; go_simp
            refine st_val g4_30_4 rfl (wanted_is (j := 2) (d := 123) rfl rfl h123 rfl) Y fun a251 e => ?_; clear Y
            have g125 := R.at_ e (by decide); replace R := R.put e; replace h4 := so e h4; replace h5 := so e h5; replace h17 := so e h17; replace h19 := so e h19; replace h62 := so e h62; replace h63 := so e h63; replace h64 := so e h64; replace h65 := so e h65; replace h123 := so e h123; clear h124; have h125 := g125; clear g125; clear e
            have Y : (execOp a251.eval o4_30_5).run Try.prog w170 = .ok (.value (.bool b250)) w170 := by unfold o4_30_5; go_simp
            refine st_val g4_30_5 rfl (wanted_free rfl) Y fun a253 e => ?_; clear Y
            have g126 := R.at_ e (by decide); replace R := R.put e; replace h4 := so e h4; replace h5 := so e h5; replace h17 := so e h17; replace h19 := so e h19; replace h62 := so e h62; replace h63 := so e h63; replace h64 := so e h64; replace h65 := so e h65; clear h123 h125; have h126 := g126; clear g126; clear e
            have Y : (execOp a253.eval o4_30_6).run Try.prog w170 = .ok (.value (.bool b250)) w170 := by unfold o4_30_6; go_simp
            refine st_val g4_30_6 rfl (wanted_free rfl) Y fun a255 e => ?_; clear Y
            have g4 := R.at_ e (by decide); replace R := R.put e; replace h5 := so e h5; replace h17 := so e h17; replace h19 := so e h19; replace h62 := so e h62; replace h63 := so e h63; replace h64 := so e h64; replace h65 := so e h65; clear h4 h126; have h4 := g4; clear g4; clear e
            refine st_end ?_
            change (Code.ret).wp _ _ _ _
            refine wp_ret ?_
            change bodyPost Try.prog Try.f4 (fun e w' => e = .returned (.bool true) ∧ Keep (fun g => g < W.heap.size) W w') .ret a255 w170
            refine ret_one rfl R h4 ?_
            cases b250 with
            | false =>
              have fb250 := hb250; clear hb250
              simp only [decide_eq_true_eq, decide_eq_false_iff_not, bne_iff_ne, bne_eq_false_iff_eq, beq_iff_eq, beq_eq_false_iff_ne, ne_eq, Bool.not_eq_true', Bool.not_eq_false', Bool.not_eq_eq_eq_not, Bool.not_true, Bool.not_false] at fb250
              exfalso; rcases HAP1.out.1 with h | h <;> rcases HAP2.out.1 with h' | h' <;> omega
            | true =>
              have fb250 := hb250; clear hb250
              simp only [decide_eq_true_eq, decide_eq_false_iff_not, bne_iff_ne, bne_eq_false_iff_eq, beq_iff_eq, beq_eq_false_iff_ne, ne_eq, Bool.not_eq_true', Bool.not_eq_false', Bool.not_eq_eq_eq_not, Bool.not_true, Bool.not_false] at fb250
              exact ⟨rfl, K1⟩
          | true =>
            have fb243 := hb243; clear hb243
            simp only [decide_eq_true_eq, decide_eq_false_iff_not, bne_iff_ne, bne_eq_false_iff_eq, beq_iff_eq, beq_eq_false_iff_ne, ne_eq, Bool.not_eq_true', Bool.not_eq_false', Bool.not_eq_eq_eq_not, Bool.not_true, Bool.not_false] at fb243
            refine st_not g4_30_3 rfl (wanted_is (j := 2) (d := 123) rfl rfl h123 rfl) fun a257 e => ?_
            have g124 := R.at_ e (by decide); replace R := R.put e; replace h4 := so e h4; replace h5 := so e h5; replace h17 := so e h17; replace h19 := so e h19; replace h62 := so e h62; replace h63 := so e h63; replace h64 := so e h64; replace h65 := so e h65; replace h123 := so e h123; clear h20; have h124 := g124; clear g124; clear e
            refine st_not g4_30_4 rfl (wanted_is (j := 2) (d := 123) rfl rfl h123 rfl) fun a259 e => ?_
            have g125 := R.at_ e (by decide); replace R := R.put e; replace h4 := so e h4; replace h5 := so e h5; replace h17 := so e h17; replace h19 := so e h19; replace h62 := so e h62; replace h63 := so e h63; replace h64 := so e h64; replace h65 := so e h65; replace h123 := so e h123; clear h124; have h125 := g125; clear g125; clear e
            have Y : (execOp a259.eval o4_30_5).run Try.prog w170 = .ok (.value (.bool true)) w170 := by unfold o4_30_5; go_simp
            refine st_val g4_30_5 rfl (wanted_free rfl) Y fun a261 e => ?_; clear Y
            have g126 := R.at_ e (by decide); replace R := R.put e; replace h4 := so e h4; replace h5 := so e h5; replace h17 := so e h17; replace h19 := so e h19; replace h62 := so e h62; replace h63 := so e h63; replace h64 := so e h64; replace h65 := so e h65; clear h123 h125; have h126 := g126; clear g126; clear e
            have Y : (execOp a261.eval o4_30_6).run Try.prog w170 = .ok (.value (.bool true)) w170 := by unfold o4_30_6; go_simp
            refine st_val g4_30_6 rfl (wanted_free rfl) Y fun a263 e => ?_; clear Y
            have g4 := R.at_ e (by decide); replace R := R.put e; replace h5 := so e h5; replace h17 := so e h17; replace h19 := so e h19; replace h62 := so e h62; replace h63 := so e h63; replace h64 := so e h64; replace h65 := so e h65; clear h4 h126; have h4 := g4; clear g4; clear e
            refine st_end ?_
            change (Code.ret).wp _ _ _ _
            refine wp_ret ?_
            change bodyPost Try.prog Try.f4 (fun e w' => e = .returned (.bool true) ∧ Keep (fun g => g < W.heap.size) W w') .ret a263 w170
            refine ret_one rfl R h4 ?_
            exact ⟨rfl, K1⟩
      | true =>
        have fb175 := hb175; clear hb175
        simp only [decide_eq_true_eq, decide_eq_false_iff_not, bne_iff_ne, bne_eq_false_iff_eq, beq_iff_eq, beq_eq_false_iff_ne, ne_eq, Bool.not_eq_true', Bool.not_eq_false', Bool.not_eq_eq_eq_not, Bool.not_true, Bool.not_false] at fb175
        refine st_not g4_29_3 rfl (wanted_is (j := 2) (d := 117) rfl rfl h117 rfl) fun a265 e => ?_
        have g118 := R.at_ e (by decide); replace R := R.put e; replace h4 := so e h4; replace h5 := so e h5; replace h17 := so e h17; replace h18 := so e h18; replace h19 := so e h19; replace h20 := so e h20; replace h62 := so e h62; replace h63 := so e h63; replace h64 := so e h64; replace h65 := so e h65; replace h117 := so e h117; have h118 := g118; clear g118; clear e
        refine st_not g4_29_4 rfl (wanted_is (j := 2) (d := 117) rfl rfl h117 rfl) fun a267 e => ?_
        have g119 := R.at_ e (by decide); replace R := R.put e; replace h4 := so e h4; replace h5 := so e h5; replace h17 := so e h17; replace h18 := so e h18; replace h19 := so e h19; replace h20 := so e h20; replace h62 := so e h62; replace h63 := so e h63; replace h64 := so e h64; replace h65 := so e h65; replace h117 := so e h117; clear h118; have h119 := g119; clear g119; clear e
        have Y : (execOp a267.eval o4_29_5).run Try.prog w170 = .ok (.value (.bool true)) w170 := by unfold o4_29_5; go_simp
        refine st_val g4_29_5 rfl (wanted_free rfl) Y fun a269 e => ?_; clear Y
        have g120 := R.at_ e (by decide); replace R := R.put e; replace h4 := so e h4; replace h5 := so e h5; replace h17 := so e h17; replace h18 := so e h18; replace h19 := so e h19; replace h20 := so e h20; replace h62 := so e h62; replace h63 := so e h63; replace h64 := so e h64; replace h65 := so e h65; clear h117 h119; have h120 := g120; clear g120; clear e
        refine st_end ?_
        change (c4_106).wp _ _ _ _
        refine wp_cond_true (x := c4_107) (y := Code.skip) (eval_slot h120) ?_
        refine wp_seq (x := c4_108) (y := Code.ret) ?_
        change (Code.region 30 O4_30 false).wp _ _ _ _
        refine reg_in (l := [0, 1, 2, 3, 4, 5, 6]) rfl ?_
        have Y : (execOp a269.eval o4_30_0).run Try.prog w170 = .ok (.value (.int .i64 e1)) w170 := by unfold o4_30_0; go_simp
        refine st_val g4_30_0 rfl (wanted_free rfl) Y fun a271 e => ?_; clear Y
        have g121 := R.at_ e (by decide); replace R := R.put e; replace h4 := so e h4; replace h5 := so e h5; replace h17 := so e h17; replace h19 := so e h19; replace h20 := so e h20; replace h62 := so e h62; replace h63 := so e h63; replace h64 := so e h64; replace h65 := so e h65; clear h18 h120; have h121 := g121; clear g121; clear e
        obtain ⟨b273, hb273⟩ : ∃ x, (((e1 : Int) == (2 : Int))) = x := ⟨_, rfl⟩
        have Y : (execOp a271.eval o4_30_1).run Try.prog w170 = .ok (.value (.bool b273)) w170 := by rw [← hb273]; unfold o4_30_1; go_simp
        refine st_val g4_30_1 rfl (wanted_free rfl) Y fun a274 e => ?_; clear Y
        have g122 := R.at_ e (by decide); replace R := R.put e; replace h4 := so e h4; replace h5 := so e h5; replace h17 := so e h17; replace h19 := so e h19; replace h20 := so e h20; replace h62 := so e h62; replace h63 := so e h63; replace h64 := so e h64; replace h65 := so e h65; clear h121; have h122 := g122; clear g122; clear e
        have Y : (execOp a274.eval o4_30_2).run Try.prog w170 = .ok (.value (.bool b273)) w170 := by unfold o4_30_2; go_simp
        refine st_val g4_30_2 rfl (wanted_free rfl) Y fun a276 e => ?_; clear Y
        have g123 := R.at_ e (by decide); replace R := R.put e; replace h4 := so e h4; replace h5 := so e h5; replace h17 := so e h17; replace h19 := so e h19; replace h20 := so e h20; replace h62 := so e h62; replace h63 := so e h63; replace h64 := so e h64; replace h65 := so e h65; clear h122; have h123 := g123; clear g123; clear e
        cases b273 with
        | false =>
          have fb273 := hb273; clear hb273
          simp only [decide_eq_true_eq, decide_eq_false_iff_not, bne_iff_ne, bne_eq_false_iff_eq, beq_iff_eq, beq_eq_false_iff_ne, ne_eq, Bool.not_eq_true', Bool.not_eq_false', Bool.not_eq_eq_eq_not, Bool.not_true, Bool.not_false] at fb273
          have Y : (execOp a276.eval o4_30_3).run Try.prog w170 = .ok (.value (.int .i64 e2)) w170 := by unfold o4_30_3; go_simp
          refine st_val g4_30_3 rfl (wanted_is (j := 2) (d := 123) rfl rfl h123 rfl) Y fun a278 e => ?_; clear Y
          have g124 := R.at_ e (by decide); replace R := R.put e; replace h4 := so e h4; replace h5 := so e h5; replace h17 := so e h17; replace h19 := so e h19; replace h62 := so e h62; replace h63 := so e h63; replace h64 := so e h64; replace h65 := so e h65; replace h123 := so e h123; clear h20; have h124 := g124; clear g124; clear e
          obtain ⟨b280, hb280⟩ : ∃ x, (((e2 : Int) == (2 : Int))) = x := ⟨_, rfl⟩
          have Y : (execOp a278.eval o4_30_4).run Try.prog w170 = .ok (.value (.bool b280)) w170 := by rw [← hb280]; unfold o4_30_4; go_simp
          refine st_val g4_30_4 rfl (wanted_is (j := 2) (d := 123) rfl rfl h123 rfl) Y fun a281 e => ?_; clear Y
          have g125 := R.at_ e (by decide); replace R := R.put e; replace h4 := so e h4; replace h5 := so e h5; replace h17 := so e h17; replace h19 := so e h19; replace h62 := so e h62; replace h63 := so e h63; replace h64 := so e h64; replace h65 := so e h65; replace h123 := so e h123; clear h124; have h125 := g125; clear g125; clear e
          have Y : (execOp a281.eval o4_30_5).run Try.prog w170 = .ok (.value (.bool b280)) w170 := by unfold o4_30_5; go_simp
          refine st_val g4_30_5 rfl (wanted_free rfl) Y fun a283 e => ?_; clear Y
          have g126 := R.at_ e (by decide); replace R := R.put e; replace h4 := so e h4; replace h5 := so e h5; replace h17 := so e h17; replace h19 := so e h19; replace h62 := so e h62; replace h63 := so e h63; replace h64 := so e h64; replace h65 := so e h65; clear h123 h125; have h126 := g126; clear g126; clear e
          have Y : (execOp a283.eval o4_30_6).run Try.prog w170 = .ok (.value (.bool b280)) w170 := by unfold o4_30_6; go_simp
          refine st_val g4_30_6 rfl (wanted_free rfl) Y fun a285 e => ?_; clear Y
          have g4 := R.at_ e (by decide); replace R := R.put e; replace h5 := so e h5; replace h17 := so e h17; replace h19 := so e h19; replace h62 := so e h62; replace h63 := so e h63; replace h64 := so e h64; replace h65 := so e h65; clear h4 h126; have h4 := g4; clear g4; clear e
          refine st_end ?_
          change (Code.ret).wp _ _ _ _
          refine wp_ret ?_
          change bodyPost Try.prog Try.f4 (fun e w' => e = .returned (.bool true) ∧ Keep (fun g => g < W.heap.size) W w') .ret a285 w170
          refine ret_one rfl R h4 ?_
          cases b280 with
          | false =>
            have fb280 := hb280; clear hb280
            simp only [decide_eq_true_eq, decide_eq_false_iff_not, bne_iff_ne, bne_eq_false_iff_eq, beq_iff_eq, beq_eq_false_iff_ne, ne_eq, Bool.not_eq_true', Bool.not_eq_false', Bool.not_eq_eq_eq_not, Bool.not_true, Bool.not_false] at fb280
            exfalso; rcases HAP1.out.1 with h | h <;> rcases HAP2.out.1 with h' | h' <;> omega
          | true =>
            have fb280 := hb280; clear hb280
            simp only [decide_eq_true_eq, decide_eq_false_iff_not, bne_iff_ne, bne_eq_false_iff_eq, beq_iff_eq, beq_eq_false_iff_ne, ne_eq, Bool.not_eq_true', Bool.not_eq_false', Bool.not_eq_eq_eq_not, Bool.not_true, Bool.not_false] at fb280
            exact ⟨rfl, K1⟩
        | true =>
          have fb273 := hb273; clear hb273
          simp only [decide_eq_true_eq, decide_eq_false_iff_not, bne_iff_ne, bne_eq_false_iff_eq, beq_iff_eq, beq_eq_false_iff_ne, ne_eq, Bool.not_eq_true', Bool.not_eq_false', Bool.not_eq_eq_eq_not, Bool.not_true, Bool.not_false] at fb273
          refine st_not g4_30_3 rfl (wanted_is (j := 2) (d := 123) rfl rfl h123 rfl) fun a287 e => ?_
          have g124 := R.at_ e (by decide); replace R := R.put e; replace h4 := so e h4; replace h5 := so e h5; replace h17 := so e h17; replace h19 := so e h19; replace h62 := so e h62; replace h63 := so e h63; replace h64 := so e h64; replace h65 := so e h65; replace h123 := so e h123; clear h20; have h124 := g124; clear g124; clear e
          refine st_not g4_30_4 rfl (wanted_is (j := 2) (d := 123) rfl rfl h123 rfl) fun a289 e => ?_
          have g125 := R.at_ e (by decide); replace R := R.put e; replace h4 := so e h4; replace h5 := so e h5; replace h17 := so e h17; replace h19 := so e h19; replace h62 := so e h62; replace h63 := so e h63; replace h64 := so e h64; replace h65 := so e h65; replace h123 := so e h123; clear h124; have h125 := g125; clear g125; clear e
          have Y : (execOp a289.eval o4_30_5).run Try.prog w170 = .ok (.value (.bool true)) w170 := by unfold o4_30_5; go_simp
          refine st_val g4_30_5 rfl (wanted_free rfl) Y fun a291 e => ?_; clear Y
          have g126 := R.at_ e (by decide); replace R := R.put e; replace h4 := so e h4; replace h5 := so e h5; replace h17 := so e h17; replace h19 := so e h19; replace h62 := so e h62; replace h63 := so e h63; replace h64 := so e h64; replace h65 := so e h65; clear h123 h125; have h126 := g126; clear g126; clear e
          have Y : (execOp a291.eval o4_30_6).run Try.prog w170 = .ok (.value (.bool true)) w170 := by unfold o4_30_6; go_simp
          refine st_val g4_30_6 rfl (wanted_free rfl) Y fun a293 e => ?_; clear Y
          have g4 := R.at_ e (by decide); replace R := R.put e; replace h5 := so e h5; replace h17 := so e h17; replace h19 := so e h19; replace h62 := so e h62; replace h63 := so e h63; replace h64 := so e h64; replace h65 := so e h65; clear h4 h126; have h4 := g4; clear g4; clear e
          refine st_end ?_
          change (Code.ret).wp _ _ _ _
          refine wp_ret ?_
          change bodyPost Try.prog Try.f4 (fun e w' => e = .returned (.bool true) ∧ Keep (fun g => g < W.heap.size) W w') .ret a293 w170
          refine ret_one rfl R h4 ?_
          exact ⟨rfl, K1⟩
    | true =>
      have fb130 := hb130; clear hb130
      simp only [decide_eq_true_eq, decide_eq_false_iff_not, bne_iff_ne, bne_eq_false_iff_eq, beq_iff_eq, beq_eq_false_iff_ne, ne_eq, Bool.not_eq_true', Bool.not_eq_false', Bool.not_eq_eq_eq_not, Bool.not_true, Bool.not_false] at fb130
      refine wp_cond_true (x := Code.skip) (y := c4_48) (eval_slot h65) ?_
      refine wp_skip ?_
      change (c4_49).wp _ _ _ _
      refine wp_seq (x := c4_50) (y := c4_98) ?_
      refine wp_block (id := 1) (c := c4_51) ?_
      refine wp_seq (x := c4_52) (y := c4_53) ?_
      change (Code.region 13 O4_13 false).wp _ _ _ _
      refine reg_in (l := [0, 1, 2, 3, 4, 5]) rfl ?_
      have Y : (execOp a131.eval o4_13_0).run Try.prog w128 = .ok (.value (.int .i64 (i : Int))) w128 := by unfold o4_13_0; go_simp
      refine st_val g4_13_0 rfl (wanted_free rfl) Y fun a295 e => ?_; clear Y
      have g66 := R.at_ e (by decide); replace R := R.put e; replace h2 := so e h2; replace h3 := so e h3; replace h4 := so e h4; replace h5 := so e h5; replace h62 := so e h62; replace h63 := so e h63; replace h64 := so e h64; replace h65 := so e h65; have h66 := g66; clear g66; clear e
      obtain ⟨bA, oA, hsA, -⟩ := bsl_addr (bsl_on HB.out K2) (show i < bs.length by omega)
      have hltA : (i : Int) < (bs.length : Int) := by omega
      have Y : (execOp a295.eval o4_13_1).run Try.prog w128 = .ok (.value (.pointer (some ⟨bA, oA + i * 5, none⟩))) w128 := by unfold o4_13_1; go_simp
      refine st_val g4_13_1 rfl (wanted_free rfl) Y fun a297 e => ?_; clear Y
      have g67 := R.at_ e (by decide); replace R := R.put e; replace h2 := so e h2; replace h3 := so e h3; replace h4 := so e h4; replace h5 := so e h5; replace h62 := so e h62; replace h63 := so e h63; replace h64 := so e h64; replace h65 := so e h65; replace h66 := so e h66; have h67 := g67; clear g67; clear e
      obtain ⟨p, hp⟩ : ∃ q, bs[i]? = some q := ⟨_, List.getElem?_eq_getElem (by omega)⟩
      have hpart := HF.out.part (List.mem_of_getElem? hp)
      have HPV : Hid ((vaV p.2.1).length ≤ 2000) := Lib.hid hpart.2.2.1
      have HPN : Hid (∀ q ∈ bs, ∀ z ∈ vaV p.2.1, q.1 ≠ z) := Lib.hid hpart.2.2.2; clear hpart
      have Y : (execOp a297.eval o4_13_2).run Try.prog w128 = .ok (.value (.agg #[.int .i64 p.1, .int .i64 p.2.1.k, .string (str p.2.1.nm), .int .i64 p.2.1.i, .slice p.2.2.1 p.2.1.args.length p.2.2.2])) w128 := by obtain ⟨⟨c0, c1, c2, c3, c4⟩, -⟩ := bsl_at (bsl_on HB.out K2) hsA hp; unfold o4_13_2; go_simp
      refine st_val g4_13_2 rfl (wanted_free rfl) Y fun a299 e => ?_; clear Y
      have g68 := R.at_ e (by decide); replace R := R.put e; replace h2 := so e h2; replace h3 := so e h3; replace h4 := so e h4; replace h5 := so e h5; replace h62 := so e h62; replace h63 := so e h63; replace h64 := so e h64; replace h65 := so e h65; replace h66 := so e h66; replace h67 := so e h67; have h68 := g68; clear g68; clear e
      have MK1 := K1
      have MK2 := K2
      have MK3 := K3
      have Y : (execOp a299.eval o4_13_3).run Try.prog w128 = .ok (.value (.pointer (some ⟨w128.heap.size, 0, none⟩))) (w128.alloc (.cells #[.int .i64 0, .int .i64 0, .string (⟨#[]⟩), .int .i64 0, .slice none 0 0] 41)) := by unfold o4_13_3; go_simp
      have B301 := Blk.new w128 41 #[.int .i64 0, .int .i64 0, .string (⟨#[]⟩), .int .i64 0, .slice none 0 0]
      replace K1 := K1.alloc (.cells #[.int .i64 0, .int .i64 0, .string (⟨#[]⟩), .int .i64 0, .slice none 0 0] 41)
      replace K2 := K2.alloc (.cells #[.int .i64 0, .int .i64 0, .string (⟨#[]⟩), .int .i64 0, .slice none 0 0] 41)
      replace K3 := K3.alloc (.cells #[.int .i64 0, .int .i64 0, .string (⟨#[]⟩), .int .i64 0, .slice none 0 0] 41)
      have Nb1_b301 := Nat.ne_of_lt B1.lt; replace B1 := B1.alloc (.cells #[.int .i64 0, .int .i64 0, .string (⟨#[]⟩), .int .i64 0, .slice none 0 0] 41)
      have Nb5_b301 := Nat.ne_of_lt B5.lt; replace B5 := B5.alloc (.cells #[.int .i64 0, .int .i64 0, .string (⟨#[]⟩), .int .i64 0, .slice none 0 0] 41)
      obtain ⟨w302, hw302⟩ : ∃ x, x = w128.alloc (.cells #[.int .i64 0, .int .i64 0, .string (⟨#[]⟩), .int .i64 0, .slice none 0 0] 41) := ⟨_, rfl⟩
      rw [← hw302] at Y B301 K1 K2 K3 B1 B5
      obtain ⟨b301, hb301⟩ : ∃ x, x = w128.heap.size := ⟨_, rfl⟩
      rw [← hb301] at Y B301 Nb1_b301 Nb5_b301
      have LK1_b301 : W.heap.size ≤ b301 := by rw [hb301]; first | exact Nat.le_refl _ | exact MK1.size
      have LK2_b301 : w20.heap.size ≤ b301 := by rw [hb301]; first | exact Nat.le_refl _ | exact MK2.size
      have LK3_b301 : w41.heap.size ≤ b301 := by rw [hb301]; first | exact Nat.le_refl _ | exact MK3.size
      clear hw302 hb301 MK1 MK2 MK3
      refine st_val g4_13_3 rfl (wanted_free rfl) Y fun a303 e => ?_; clear Y
      have g12 := R.at_ e (by decide); replace R := R.put e; replace h2 := so e h2; replace h3 := so e h3; replace h4 := so e h4; replace h5 := so e h5; replace h62 := so e h62; replace h63 := so e h63; replace h64 := so e h64; replace h65 := so e h65; replace h66 := so e h66; replace h67 := so e h67; replace h68 := so e h68; have h12 := g12; clear g12; clear e
      have Y : (execOp a303.eval o4_13_4).run Try.prog w302 = .ok (.value (.int .i64 (i : Int))) w302 := by unfold o4_13_4; go_simp
      refine st_val g4_13_4 rfl (wanted_free rfl) Y fun a305 e => ?_; clear Y
      have g11 := R.at_ e (by decide); replace R := R.put e; replace h2 := so e h2; replace h3 := so e h3; replace h4 := so e h4; replace h5 := so e h5; replace h12 := so e h12; replace h62 := so e h62; replace h63 := so e h63; replace h64 := so e h64; replace h65 := so e h65; replace h66 := so e h66; replace h67 := so e h67; replace h68 := so e h68; have h11 := g11; clear g11; clear e
      have Y : (execOp a305.eval o4_13_5).run Try.prog w302 = .ok .skip (((((w302.setCell ⟨b301, 0, none⟩ (.int .i64 p.1)).setCell ⟨b301, 1, none⟩ (.int .i64 p.2.1.k)).setCell ⟨b301, 2, none⟩ (.string (str p.2.1.nm))).setCell ⟨b301, 3, none⟩ (.int .i64 p.2.1.i)).setCell ⟨b301, 4, none⟩ (.slice p.2.2.1 p.2.1.args.length p.2.2.2)) := by have qq0 : w302.cell? ⟨b301, 0, none⟩ = some (.int .i64 0) := B301.cell 0; have qq1 : w302.cell? ⟨b301, 1, none⟩ = some (.int .i64 0) := B301.cell 1; have qq2 : w302.cell? ⟨b301, 2, none⟩ = some (.string (⟨#[]⟩)) := B301.cell 2; have qq3 : w302.cell? ⟨b301, 3, none⟩ = some (.int .i64 0) := B301.cell 3; have qq4 : w302.cell? ⟨b301, 4, none⟩ = some (.slice none 0 0) := B301.cell 4; have z0 := B301.frozen 0; have z1 := B301.frozen 1; have z2 := B301.frozen 2; have z3 := B301.frozen 3; have z4 := B301.frozen 4; unfold o4_13_5; go_simp
      replace K1 := (((((K1.setCell (p := ⟨b301, 0, none⟩) (Nat.not_lt.2 LK1_b301) (.int .i64 p.1)).setCell (p := ⟨b301, 1, none⟩) (Nat.not_lt.2 LK1_b301) (.int .i64 p.2.1.k)).setCell (p := ⟨b301, 2, none⟩) (Nat.not_lt.2 LK1_b301) (.string (str p.2.1.nm))).setCell (p := ⟨b301, 3, none⟩) (Nat.not_lt.2 LK1_b301) (.int .i64 p.2.1.i)).setCell (p := ⟨b301, 4, none⟩) (Nat.not_lt.2 LK1_b301) (.slice p.2.2.1 p.2.1.args.length p.2.2.2))
      replace K2 := (((((K2.setCell (p := ⟨b301, 0, none⟩) (Nat.not_lt.2 LK2_b301) (.int .i64 p.1)).setCell (p := ⟨b301, 1, none⟩) (Nat.not_lt.2 LK2_b301) (.int .i64 p.2.1.k)).setCell (p := ⟨b301, 2, none⟩) (Nat.not_lt.2 LK2_b301) (.string (str p.2.1.nm))).setCell (p := ⟨b301, 3, none⟩) (Nat.not_lt.2 LK2_b301) (.int .i64 p.2.1.i)).setCell (p := ⟨b301, 4, none⟩) (Nat.not_lt.2 LK2_b301) (.slice p.2.2.1 p.2.1.args.length p.2.2.2))
      replace K3 := (((((K3.setCell (p := ⟨b301, 0, none⟩) (Nat.not_lt.2 LK3_b301) (.int .i64 p.1)).setCell (p := ⟨b301, 1, none⟩) (Nat.not_lt.2 LK3_b301) (.int .i64 p.2.1.k)).setCell (p := ⟨b301, 2, none⟩) (Nat.not_lt.2 LK3_b301) (.string (str p.2.1.nm))).setCell (p := ⟨b301, 3, none⟩) (Nat.not_lt.2 LK3_b301) (.int .i64 p.2.1.i)).setCell (p := ⟨b301, 4, none⟩) (Nat.not_lt.2 LK3_b301) (.slice p.2.2.1 p.2.1.args.length p.2.2.2))
      replace B1 := (((((B1.far (p := ⟨b301, 0, none⟩) Nb1_b301 (.int .i64 p.1)).far (p := ⟨b301, 1, none⟩) Nb1_b301 (.int .i64 p.2.1.k)).far (p := ⟨b301, 2, none⟩) Nb1_b301 (.string (str p.2.1.nm))).far (p := ⟨b301, 3, none⟩) Nb1_b301 (.int .i64 p.2.1.i)).far (p := ⟨b301, 4, none⟩) Nb1_b301 (.slice p.2.2.1 p.2.1.args.length p.2.2.2))
      replace B5 := (((((B5.far (p := ⟨b301, 0, none⟩) Nb5_b301 (.int .i64 p.1)).far (p := ⟨b301, 1, none⟩) Nb5_b301 (.int .i64 p.2.1.k)).far (p := ⟨b301, 2, none⟩) Nb5_b301 (.string (str p.2.1.nm))).far (p := ⟨b301, 3, none⟩) Nb5_b301 (.int .i64 p.2.1.i)).far (p := ⟨b301, 4, none⟩) Nb5_b301 (.slice p.2.2.1 p.2.1.args.length p.2.2.2))
      replace B301 : Blk (((((w302.setCell ⟨b301, 0, none⟩ (.int .i64 p.1)).setCell ⟨b301, 1, none⟩ (.int .i64 p.2.1.k)).setCell ⟨b301, 2, none⟩ (.string (str p.2.1.nm))).setCell ⟨b301, 3, none⟩ (.int .i64 p.2.1.i)).setCell ⟨b301, 4, none⟩ (.slice p.2.2.1 p.2.1.args.length p.2.2.2)) b301 41 #[.int .i64 p.1, .int .i64 p.2.1.k, .string (str p.2.1.nm), .int .i64 p.2.1.i, .slice p.2.2.1 p.2.1.args.length p.2.2.2] := (((((B301.set_ 0 (.int .i64 p.1)).set_ 1 (.int .i64 p.2.1.k)).set_ 2 (.string (str p.2.1.nm))).set_ 3 (.int .i64 p.2.1.i)).set_ 4 (.slice p.2.2.1 p.2.1.args.length p.2.2.2))
      generalize (((((w302.setCell ⟨b301, 0, none⟩ (.int .i64 p.1)).setCell ⟨b301, 1, none⟩ (.int .i64 p.2.1.k)).setCell ⟨b301, 2, none⟩ (.string (str p.2.1.nm))).setCell ⟨b301, 3, none⟩ (.int .i64 p.2.1.i)).setCell ⟨b301, 4, none⟩ (.slice p.2.2.1 p.2.1.args.length p.2.2.2)) = w307 at Y K1 K2 K3 B1 B5 B301
      refine st_skip g4_13_5 rfl (wanted_free rfl) Y ?_; clear Y
      refine st_end ?_
      change (c4_53).wp _ _ _ _
      refine join_sx (x := c4_54) (y := c4_61) (fun f9 w9 => FrS 149 f9 ∧ f9.tmps[2]? = some (.pointer (some ⟨b1, 0, none⟩)) ∧ f9.tmps[3]? = some (.pointer (some ⟨b5, 0, none⟩)) ∧ f9.tmps[4]? = some (.bool false) ∧ f9.tmps[5]? = some (.slice va bs.length vc) ∧ f9.tmps[11]? = some (.int .i64 (i : Int)) ∧ f9.tmps[12]? = some (.pointer (some ⟨b301, 0, none⟩)) ∧ f9.tmps[62]? = some (.slice va bs.length vc) ∧ f9.tmps[63]? = some (.int .i64 bs.length) ∧ f9.tmps[64]? = some (.int .i64 (i : Int)) ∧ f9.tmps[65]? = some (.bool true) ∧ f9.tmps[66]? = some (.int .i64 (i : Int)) ∧ f9.tmps[67]? = some (.pointer (some ⟨bA, oA + i * 5, none⟩)) ∧ f9.tmps[68]? = some (.agg #[.int .i64 p.1, .int .i64 p.2.1.k, .string (str p.2.1.nm), .int .i64 p.2.1.i, .slice p.2.2.1 p.2.1.args.length p.2.2.2]) ∧ Keep (fun g => g < W.heap.size) W w9 ∧ Keep (fun g => g < w20.heap.size) w20 w9 ∧ Keep (fun g => g < w41.heap.size) w41 w9 ∧ Blk w9 b1 24 #[.int .i64 t.k, .string (str t.nm), .int .i64 t.i, .slice ta t.args.length tc] ∧ Blk w9 b5 24 #[.int .i64 u.k, .string (str u.nm), .int .i64 u.i, .slice ua u.args.length uc] ∧ Blk w9 b301 41 #[.int .i64 p.1, .int .i64 p.2.1.k, .string (str p.2.1.nm), .int .i64 p.2.1.i, .slice p.2.2.1 p.2.1.args.length p.2.2.2]) ?_ ?_
      ·
        refine wp_seq (x := c4_55) (y := c4_56) ?_
        change (Code.region 14 O4_14 true).wp _ _ _ _
        have D310 := B1
        have D311 := B5
        have D312 := B301
        have K308 := (Keep.refl (fun g => g < w307.heap.size) w307).drew
        have EK1 := K1
        have EK2 := K2
        have EK3 := K3
        refine dr_in (S := (fun W => Keep (fun g => g < w307.heap.size) w307 W)) (n := 13) (l := #[false, false, false, false, false, false, false, false, false, false, false, false, false]) (by kernel_rfl) K308 rfl rfl ?_
        replace K1 := K1.drew
        replace K2 := K2.drew
        replace K3 := K3.drew
        replace B1 := B1.drew
        replace B5 := B5.drew
        replace B301 := B301.drew
        generalize w307.drew = w309 at K308 K1 K2 K3 B1 B5 B301 ⊢
        have Y : ∀ W, Keep (fun g => g < w307.heap.size) w307 W → (execOp a305.eval o4_14_0).run Try.prog W = .ok (.value (.int .i64 (i : Int))) W := by intro W7 hS; unfold o4_14_0; go_simp
        refine dr_take (i := 0) (fuel := 12) (l' := #[true, false, false, false, false, false, false, false, false, false, false, false, false]) g4_14_0 rfl ns4_14 (by kernel_rfl) (by kernel_rfl) rfl (wanted_free rfl) K308 Y fun a313 e => ?_; clear Y
        have g69 := R.at_ e (by decide); replace R := R.put e; replace h2 := so e h2; replace h3 := so e h3; replace h4 := so e h4; replace h5 := so e h5; replace h11 := so e h11; replace h12 := so e h12; replace h62 := so e h62; replace h63 := so e h63; replace h64 := so e h64; replace h65 := so e h65; replace h66 := so e h66; replace h67 := so e h67; replace h68 := so e h68; have h69 := g69; clear g69; clear e
        obtain ⟨b315, hb315⟩ : ∃ x, (decide ((0 : Int) < (i : Int))) = x := ⟨_, rfl⟩
        have Y : ∀ W, Keep (fun g => g < w307.heap.size) w307 W → (execOp a313.eval o4_14_1).run Try.prog W = .ok (.value (.bool b315)) W := by intro W7 hS; rw [← hb315]; unfold o4_14_1; go_simp
        refine dr_take (i := 1) (fuel := 11) (l' := #[true, true, false, false, false, false, false, false, false, false, false, false, false]) g4_14_1 rfl ns4_14 (by kernel_rfl) (by kernel_rfl) rfl (wanted_free rfl) K308 Y fun a316 e => ?_; clear Y
        have g70 := R.at_ e (by decide); replace R := R.put e; replace h2 := so e h2; replace h3 := so e h3; replace h4 := so e h4; replace h5 := so e h5; replace h11 := so e h11; replace h12 := so e h12; replace h62 := so e h62; replace h63 := so e h63; replace h64 := so e h64; replace h65 := so e h65; replace h66 := so e h66; replace h67 := so e h67; replace h68 := so e h68; replace h69 := so e h69; have h70 := g70; clear g70; clear e
        have Y : ∀ W, Keep (fun g => g < w307.heap.size) w307 W → (execOp a316.eval o4_14_2).run Try.prog W = .ok (.value (.bool b315)) W := by intro W7 hS; unfold o4_14_2; go_simp
        refine dr_take (i := 2) (fuel := 10) (l' := #[true, true, true, false, false, false, false, false, false, false, false, false, false]) g4_14_2 rfl ns4_14 (by kernel_rfl) (by kernel_rfl) rfl (wanted_free rfl) K308 Y fun a318 e => ?_; clear Y
        have g71 := R.at_ e (by decide); replace R := R.put e; replace h2 := so e h2; replace h3 := so e h3; replace h4 := so e h4; replace h5 := so e h5; replace h11 := so e h11; replace h12 := so e h12; replace h62 := so e h62; replace h63 := so e h63; replace h64 := so e h64; replace h65 := so e h65; replace h66 := so e h66; replace h67 := so e h67; replace h68 := so e h68; replace h69 := so e h69; replace h70 := so e h70; have h71 := g71; clear g71; clear e
        cases b315 with
        | false =>
          have fb315 := hb315; clear hb315
          simp only [decide_eq_true_eq, decide_eq_false_iff_not, bne_iff_ne, bne_eq_false_iff_eq, beq_iff_eq, beq_eq_false_iff_ne, ne_eq, Bool.not_eq_true', Bool.not_eq_false', Bool.not_eq_eq_eq_not, Bool.not_true, Bool.not_false] at fb315
          refine dr_not (i := 3) (fuel := 9) (l' := #[true, true, true, true, false, false, false, false, false, false, false, false, false]) g4_14_3 rfl ns4_14 (by kernel_rfl) (by kernel_rfl) rfl (wanted_is (j := 2) (d := 71) rfl rfl h71 rfl) K308 fun a320 e => ?_
          have g72 := R.at_ e (by decide); replace R := R.put e; replace h2 := so e h2; replace h3 := so e h3; replace h4 := so e h4; replace h5 := so e h5; replace h11 := so e h11; replace h12 := so e h12; replace h62 := so e h62; replace h63 := so e h63; replace h64 := so e h64; replace h65 := so e h65; replace h66 := so e h66; replace h67 := so e h67; replace h68 := so e h68; replace h69 := so e h69; replace h70 := so e h70; replace h71 := so e h71; have h72 := g72; clear g72; clear e
          refine dr_not (i := 4) (fuel := 8) (l' := #[true, true, true, true, true, false, false, false, false, false, false, false, false]) g4_14_4 rfl ns4_14 (by kernel_rfl) (by kernel_rfl) rfl (wanted_is (j := 2) (d := 71) rfl rfl h71 rfl) K308 fun a322 e => ?_
          have g73 := R.at_ e (by decide); replace R := R.put e; replace h2 := so e h2; replace h3 := so e h3; replace h4 := so e h4; replace h5 := so e h5; replace h11 := so e h11; replace h12 := so e h12; replace h62 := so e h62; replace h63 := so e h63; replace h64 := so e h64; replace h65 := so e h65; replace h66 := so e h66; replace h67 := so e h67; replace h68 := so e h68; replace h69 := so e h69; replace h70 := so e h70; replace h71 := so e h71; replace h72 := so e h72; have h73 := g73; clear g73; clear e
          refine dr_not (i := 5) (fuel := 7) (l' := #[true, true, true, true, true, true, false, false, false, false, false, false, false]) g4_14_5 rfl ns4_14 (by kernel_rfl) (by kernel_rfl) rfl (wanted_is (j := 2) (d := 71) rfl rfl h71 rfl) K308 fun a324 e => ?_
          have g74 := R.at_ e (by decide); replace R := R.put e; replace h2 := so e h2; replace h3 := so e h3; replace h4 := so e h4; replace h5 := so e h5; replace h11 := so e h11; replace h12 := so e h12; replace h62 := so e h62; replace h63 := so e h63; replace h64 := so e h64; replace h65 := so e h65; replace h66 := so e h66; replace h67 := so e h67; replace h68 := so e h68; replace h69 := so e h69; replace h70 := so e h70; replace h71 := so e h71; replace h72 := so e h72; replace h73 := so e h73; have h74 := g74; clear g74; clear e
          refine dr_not (i := 6) (fuel := 6) (l' := #[true, true, true, true, true, true, true, false, false, false, false, false, false]) g4_14_6 rfl ns4_14 (by kernel_rfl) (by kernel_rfl) rfl (wanted_is (j := 2) (d := 71) rfl rfl h71 rfl) K308 fun a326 e => ?_
          have g75 := R.at_ e (by decide); replace R := R.put e; replace h2 := so e h2; replace h3 := so e h3; replace h4 := so e h4; replace h5 := so e h5; replace h11 := so e h11; replace h12 := so e h12; replace h62 := so e h62; replace h63 := so e h63; replace h64 := so e h64; replace h65 := so e h65; replace h66 := so e h66; replace h67 := so e h67; replace h68 := so e h68; replace h69 := so e h69; replace h70 := so e h70; replace h71 := so e h71; replace h72 := so e h72; replace h73 := so e h73; replace h74 := so e h74; have h75 := g75; clear g75; clear e
          refine dr_not (i := 7) (fuel := 5) (l' := #[true, true, true, true, true, true, true, true, false, false, false, false, false]) g4_14_7 rfl ns4_14 (by kernel_rfl) (by kernel_rfl) rfl (wanted_is (j := 2) (d := 71) rfl rfl h71 rfl) K308 fun a328 e => ?_
          have g76 := R.at_ e (by decide); replace R := R.put e; replace h2 := so e h2; replace h3 := so e h3; replace h4 := so e h4; replace h5 := so e h5; replace h11 := so e h11; replace h12 := so e h12; replace h62 := so e h62; replace h63 := so e h63; replace h64 := so e h64; replace h65 := so e h65; replace h66 := so e h66; replace h67 := so e h67; replace h68 := so e h68; replace h69 := so e h69; replace h70 := so e h70; replace h71 := so e h71; replace h72 := so e h72; replace h73 := so e h73; replace h74 := so e h74; replace h75 := so e h75; have h76 := g76; clear g76; clear e
          refine dr_not (i := 8) (fuel := 4) (l' := #[true, true, true, true, true, true, true, true, true, false, false, false, false]) g4_14_8 rfl ns4_14 (by kernel_rfl) (by kernel_rfl) rfl (wanted_is (j := 2) (d := 71) rfl rfl h71 rfl) K308 fun a330 e => ?_
          have g77 := R.at_ e (by decide); replace R := R.put e; replace h2 := so e h2; replace h3 := so e h3; replace h4 := so e h4; replace h5 := so e h5; replace h11 := so e h11; replace h12 := so e h12; replace h62 := so e h62; replace h63 := so e h63; replace h64 := so e h64; replace h65 := so e h65; replace h66 := so e h66; replace h67 := so e h67; replace h68 := so e h68; replace h69 := so e h69; replace h70 := so e h70; replace h71 := so e h71; replace h72 := so e h72; replace h73 := so e h73; replace h74 := so e h74; replace h75 := so e h75; replace h76 := so e h76; have h77 := g77; clear g77; clear e
          refine dr_not (i := 9) (fuel := 3) (l' := #[true, true, true, true, true, true, true, true, true, true, false, false, false]) g4_14_9 rfl ns4_14 (by kernel_rfl) (by kernel_rfl) rfl (wanted_is (j := 2) (d := 71) rfl rfl h71 rfl) K308 fun a332 e => ?_
          have g78 := R.at_ e (by decide); replace R := R.put e; replace h2 := so e h2; replace h3 := so e h3; replace h4 := so e h4; replace h5 := so e h5; replace h11 := so e h11; replace h12 := so e h12; replace h62 := so e h62; replace h63 := so e h63; replace h64 := so e h64; replace h65 := so e h65; replace h66 := so e h66; replace h67 := so e h67; replace h68 := so e h68; replace h69 := so e h69; replace h70 := so e h70; replace h71 := so e h71; replace h72 := so e h72; replace h73 := so e h73; replace h74 := so e h74; replace h75 := so e h75; replace h76 := so e h76; replace h77 := so e h77; have h78 := g78; clear g78; clear e
          refine dr_not (i := 10) (fuel := 2) (l' := #[true, true, true, true, true, true, true, true, true, true, true, false, false]) g4_14_10 rfl ns4_14 (by kernel_rfl) (by kernel_rfl) rfl (wanted_is (j := 2) (d := 71) rfl rfl h71 rfl) K308 fun a334 e => ?_
          have g79 := R.at_ e (by decide); replace R := R.put e; replace h2 := so e h2; replace h3 := so e h3; replace h4 := so e h4; replace h5 := so e h5; replace h11 := so e h11; replace h12 := so e h12; replace h62 := so e h62; replace h63 := so e h63; replace h64 := so e h64; replace h65 := so e h65; replace h66 := so e h66; replace h67 := so e h67; replace h68 := so e h68; replace h69 := so e h69; replace h70 := so e h70; replace h71 := so e h71; replace h72 := so e h72; replace h73 := so e h73; replace h74 := so e h74; replace h75 := so e h75; replace h76 := so e h76; replace h77 := so e h77; replace h78 := so e h78; have h79 := g79; clear g79; clear e
          refine dr_not (i := 11) (fuel := 1) (l' := #[true, true, true, true, true, true, true, true, true, true, true, true, false]) g4_14_11 rfl ns4_14 (by kernel_rfl) (by kernel_rfl) rfl (wanted_is (j := 2) (d := 71) rfl rfl h71 rfl) K308 fun a336 e => ?_
          have g80 := R.at_ e (by decide); replace R := R.put e; replace h2 := so e h2; replace h3 := so e h3; replace h4 := so e h4; replace h5 := so e h5; replace h11 := so e h11; replace h12 := so e h12; replace h62 := so e h62; replace h63 := so e h63; replace h64 := so e h64; replace h65 := so e h65; replace h66 := so e h66; replace h67 := so e h67; replace h68 := so e h68; replace h69 := so e h69; replace h70 := so e h70; replace h71 := so e h71; replace h72 := so e h72; replace h73 := so e h73; replace h74 := so e h74; replace h75 := so e h75; replace h76 := so e h76; replace h77 := so e h77; replace h78 := so e h78; replace h79 := so e h79; have h80 := g80; clear g80; clear e
          have Y : ∀ W, Keep (fun g => g < w307.heap.size) w307 W → (execOp a336.eval o4_14_12).run Try.prog W = .ok (.value (.bool false)) W := by intro W7 hS; unfold o4_14_12; go_simp
          refine dr_take (i := 12) (fuel := 0) (l' := #[true, true, true, true, true, true, true, true, true, true, true, true, true]) g4_14_12 rfl ns4_14 (by kernel_rfl) (by kernel_rfl) rfl (wanted_free rfl) K308 Y fun a338 e => ?_; clear Y
          have g81 := R.at_ e (by decide); replace R := R.put e; replace h2 := so e h2; replace h3 := so e h3; replace h4 := so e h4; replace h5 := so e h5; replace h11 := so e h11; replace h12 := so e h12; replace h62 := so e h62; replace h63 := so e h63; replace h64 := so e h64; replace h65 := so e h65; replace h66 := so e h66; replace h67 := so e h67; replace h68 := so e h68; replace h69 := so e h69; replace h70 := so e h70; replace h71 := so e h71; replace h72 := so e h72; replace h73 := so e h73; replace h74 := so e h74; replace h75 := so e h75; replace h76 := so e h76; replace h77 := so e h77; replace h78 := so e h78; replace h79 := so e h79; replace h80 := so e h80; have h81 := g81; clear g81; clear e
          refine dr_end (by kernel_rfl) ?_
          clear K308 EK1 EK2 EK3 D310 D311 D312
          change (c4_56).wp _ _ _ _
          refine wp_cond_false (x := c4_57) (y := Code.skip) (eval_slot h81) ?_
          refine wp_skip ?_
          exact ⟨R, h2, h3, h4, h5, h11, h12, h62, h63, h64, h65, h66, h67, h68, K1, K2, K3, B1, B5, B301⟩
        | true =>
          have fb315 := hb315; clear hb315
          simp only [decide_eq_true_eq, decide_eq_false_iff_not, bne_iff_ne, bne_eq_false_iff_eq, beq_iff_eq, beq_eq_false_iff_ne, ne_eq, Bool.not_eq_true', Bool.not_eq_false', Bool.not_eq_eq_eq_not, Bool.not_true, Bool.not_false] at fb315
          have Y : ∀ W, Keep (fun g => g < w307.heap.size) w307 W → (execOp a318.eval o4_14_3).run Try.prog W = .ok (.value (.slice va bs.length vc)) W := by intro W7 hS; unfold o4_14_3; go_simp
          refine dr_take (i := 3) (fuel := 9) (l' := #[true, true, true, true, false, false, false, false, false, false, false, false, false]) g4_14_3 rfl ns4_14 (by kernel_rfl) (by kernel_rfl) rfl (wanted_is (j := 2) (d := 71) rfl rfl h71 rfl) K308 Y fun a340 e => ?_; clear Y
          have g72 := R.at_ e (by decide); replace R := R.put e; replace h2 := so e h2; replace h3 := so e h3; replace h4 := so e h4; replace h5 := so e h5; replace h11 := so e h11; replace h12 := so e h12; replace h62 := so e h62; replace h63 := so e h63; replace h64 := so e h64; replace h65 := so e h65; replace h66 := so e h66; replace h67 := so e h67; replace h68 := so e h68; replace h69 := so e h69; replace h70 := so e h70; replace h71 := so e h71; have h72 := g72; clear g72; clear e
          have Y : ∀ W, Keep (fun g => g < w307.heap.size) w307 W → (execOp a340.eval o4_14_4).run Try.prog W = .ok (.value (.int .i64 (i : Int))) W := by intro W7 hS; unfold o4_14_4; go_simp
          refine dr_take (i := 4) (fuel := 8) (l' := #[true, true, true, true, true, false, false, false, false, false, false, false, false]) g4_14_4 rfl ns4_14 (by kernel_rfl) (by kernel_rfl) rfl (wanted_is (j := 2) (d := 71) rfl rfl h71 rfl) K308 Y fun a342 e => ?_; clear Y
          have g73 := R.at_ e (by decide); replace R := R.put e; replace h2 := so e h2; replace h3 := so e h3; replace h4 := so e h4; replace h5 := so e h5; replace h11 := so e h11; replace h12 := so e h12; replace h62 := so e h62; replace h63 := so e h63; replace h64 := so e h64; replace h65 := so e h65; replace h66 := so e h66; replace h67 := so e h67; replace h68 := so e h68; replace h69 := so e h69; replace h70 := so e h70; replace h71 := so e h71; replace h72 := so e h72; have h73 := g73; clear g73; clear e
          obtain ⟨k, hk⟩ : ∃ k, i = k + 1 := ⟨i - 1, by omega⟩
          have hkl : k < bs.length := by omega
          have HK := Lib.hid hk; clear hk
          have Y : ∀ W, Keep (fun g => g < w307.heap.size) w307 W → (execOp a342.eval o4_14_5).run Try.prog W = .ok (.value (.int .i64 (k : Int))) W := by intro W7 hS; have hwk : IntKind.i64.wrap ((i : Int) - 1) = (k : Int) := (by have hk := HK.out; have := HLN.out; rw [IntKind.wrap_i64]; omega); unfold o4_14_5; go_simp
          refine dr_take (i := 5) (fuel := 7) (l' := #[true, true, true, true, true, true, false, false, false, false, false, false, false]) g4_14_5 rfl ns4_14 (by kernel_rfl) (by kernel_rfl) rfl (wanted_is (j := 2) (d := 71) rfl rfl h71 rfl) K308 Y fun a344 e => ?_; clear Y
          have g74 := R.at_ e (by decide); replace R := R.put e; replace h2 := so e h2; replace h3 := so e h3; replace h4 := so e h4; replace h5 := so e h5; replace h11 := so e h11; replace h12 := so e h12; replace h62 := so e h62; replace h63 := so e h63; replace h64 := so e h64; replace h65 := so e h65; replace h66 := so e h66; replace h67 := so e h67; replace h68 := so e h68; replace h69 := so e h69; replace h70 := so e h70; replace h71 := so e h71; replace h72 := so e h72; replace h73 := so e h73; have h74 := g74; clear g74; clear e
          have Y : ∀ W, Keep (fun g => g < w307.heap.size) w307 W → (execOp a344.eval o4_14_9).run Try.prog W = .ok (.value (.pointer (some ⟨b301, 0, none⟩))) W := by intro W7 hS; unfold o4_14_9; go_simp
          refine dr_take (i := 9) (fuel := 6) (l' := #[true, true, true, true, true, true, false, false, false, true, false, false, false]) g4_14_9 rfl ns4_14 (by kernel_rfl) (by kernel_rfl) rfl (wanted_is (j := 2) (d := 71) rfl rfl h71 rfl) K308 Y fun a346 e => ?_; clear Y
          have g78 := R.at_ e (by decide); replace R := R.put e; replace h2 := so e h2; replace h3 := so e h3; replace h4 := so e h4; replace h5 := so e h5; replace h11 := so e h11; replace h12 := so e h12; replace h62 := so e h62; replace h63 := so e h63; replace h64 := so e h64; replace h65 := so e h65; replace h66 := so e h66; replace h67 := so e h67; replace h68 := so e h68; replace h69 := so e h69; replace h70 := so e h70; replace h71 := so e h71; replace h72 := so e h72; replace h73 := so e h73; replace h74 := so e h74; have h78 := g78; clear g78; clear e
          have Y : ∀ W, Keep (fun g => g < w307.heap.size) w307 W → (execOp a346.eval o4_14_10).run Try.prog W = .ok (.value (.int .i64 p.1)) W := by intro W7 hS; have D := D312.keep hS D312.lt; have qq0 : W7.cell? ⟨b301, 0, none⟩ = some (.int .i64 p.1) := D.cell 0; have qq1 : W7.cell? ⟨b301, 1, none⟩ = some (.int .i64 p.2.1.k) := D.cell 1; have qq2 : W7.cell? ⟨b301, 2, none⟩ = some (.string (str p.2.1.nm)) := D.cell 2; have qq3 : W7.cell? ⟨b301, 3, none⟩ = some (.int .i64 p.2.1.i) := D.cell 3; have qq4 : W7.cell? ⟨b301, 4, none⟩ = some (.slice p.2.2.1 p.2.1.args.length p.2.2.2) := D.cell 4; unfold o4_14_10; go_simp
          refine dr_take (i := 10) (fuel := 5) (l' := #[true, true, true, true, true, true, false, false, false, true, true, false, false]) g4_14_10 rfl ns4_14 (by kernel_rfl) (by kernel_rfl) rfl (wanted_is (j := 2) (d := 71) rfl rfl h71 rfl) K308 Y fun a348 e => ?_; clear Y
          have g79 := R.at_ e (by decide); replace R := R.put e; replace h2 := so e h2; replace h3 := so e h3; replace h4 := so e h4; replace h5 := so e h5; replace h11 := so e h11; replace h12 := so e h12; replace h62 := so e h62; replace h63 := so e h63; replace h64 := so e h64; replace h65 := so e h65; replace h66 := so e h66; replace h67 := so e h67; replace h68 := so e h68; replace h69 := so e h69; replace h70 := so e h70; replace h71 := so e h71; replace h72 := so e h72; replace h73 := so e h73; replace h74 := so e h74; replace h78 := so e h78; have h79 := g79; clear g79; clear e
          refine dr_only (i := 6) (fuel := 4) (by kernel_rfl) ?_
          have hlt9 : (k : Int) < (bs.length : Int) := by omega
          have Y : (execOp a348.eval o4_14_6).run Try.prog w309 = .ok (.value (.pointer (some ⟨bA, oA + k * 5, none⟩))) w309 := by unfold o4_14_6; go_simp
          refine dr_val (l' := #[true, true, true, true, true, true, true, false, false, true, true, false, false]) g4_14_6 rfl rfl (wanted_is (j := 2) (d := 71) rfl rfl h71 rfl) Y K308 fun a350 e => ?_; clear Y
          have g75 := R.at_ e (by decide); replace R := R.put e; replace h2 := so e h2; replace h3 := so e h3; replace h4 := so e h4; replace h5 := so e h5; replace h11 := so e h11; replace h12 := so e h12; replace h62 := so e h62; replace h63 := so e h63; replace h64 := so e h64; replace h65 := so e h65; replace h66 := so e h66; replace h67 := so e h67; replace h68 := so e h68; replace h69 := so e h69; replace h70 := so e h70; replace h71 := so e h71; replace h72 := so e h72; replace h73 := so e h73; replace h74 := so e h74; replace h78 := so e h78; replace h79 := so e h79; have h75 := g75; clear g75; clear e
          have Y : ∀ W, Keep (fun g => g < w307.heap.size) w307 W → (execOp a350.eval o4_14_7).run Try.prog W = .ok (.value (.pointer (some ⟨bA, oA + k * 5, none⟩))) W := by intro W7 hS; unfold o4_14_7; go_simp
          refine dr_take (i := 7) (fuel := 3) (l' := #[true, true, true, true, true, true, true, true, false, true, true, false, false]) g4_14_7 rfl ns4_14 (by kernel_rfl) (by kernel_rfl) rfl (wanted_is (j := 2) (d := 71) rfl rfl h71 rfl) K308 Y fun a352 e => ?_; clear Y
          have g76 := R.at_ e (by decide); replace R := R.put e; replace h2 := so e h2; replace h3 := so e h3; replace h4 := so e h4; replace h5 := so e h5; replace h11 := so e h11; replace h12 := so e h12; replace h62 := so e h62; replace h63 := so e h63; replace h64 := so e h64; replace h65 := so e h65; replace h66 := so e h66; replace h67 := so e h67; replace h68 := so e h68; replace h69 := so e h69; replace h70 := so e h70; replace h71 := so e h71; replace h72 := so e h72; replace h73 := so e h73; replace h74 := so e h74; replace h75 := so e h75; replace h78 := so e h78; replace h79 := so e h79; have h76 := g76; clear g76; clear e
          obtain ⟨pk, hpk⟩ : ∃ q, bs[k]? = some q := ⟨_, List.getElem?_eq_getElem hkl⟩
          have hrise := HF.out.rises hpk (by rw [← HK.out]; exact hp)
          have Y : ∀ W, Keep (fun g => g < w307.heap.size) w307 W → (execOp a352.eval o4_14_8).run Try.prog W = .ok (.value (.int .i64 pk.1)) W := by intro W7 hS; obtain ⟨⟨c0, c1, c2, c3, c4⟩, -⟩ := bsl_at (bsl_on HB.out (keep_onto EK2 hS)) hsA hpk; clear hrise; unfold o4_14_8; go_simp
          refine dr_take (i := 8) (fuel := 2) (l' := #[true, true, true, true, true, true, true, true, true, true, true, false, false]) g4_14_8 rfl ns4_14 (by kernel_rfl) (by kernel_rfl) rfl (wanted_is (j := 2) (d := 71) rfl rfl h71 rfl) K308 Y fun a354 e => ?_; clear Y
          have g77 := R.at_ e (by decide); replace R := R.put e; replace h2 := so e h2; replace h3 := so e h3; replace h4 := so e h4; replace h5 := so e h5; replace h11 := so e h11; replace h12 := so e h12; replace h62 := so e h62; replace h63 := so e h63; replace h64 := so e h64; replace h65 := so e h65; replace h66 := so e h66; replace h67 := so e h67; replace h68 := so e h68; replace h69 := so e h69; replace h70 := so e h70; replace h71 := so e h71; replace h72 := so e h72; replace h73 := so e h73; replace h74 := so e h74; replace h75 := so e h75; replace h76 := so e h76; replace h78 := so e h78; replace h79 := so e h79; have h77 := g77; clear g77; clear e
          have Y : ∀ W, Keep (fun g => g < w307.heap.size) w307 W → (execOp a354.eval o4_14_11).run Try.prog W = .ok (.value (.bool false)) W := by intro W7 hS; have hnr : ¬ p.1 ≤ pk.1 := (by omega); unfold o4_14_11; go_simp
          refine dr_take (i := 11) (fuel := 1) (l' := #[true, true, true, true, true, true, true, true, true, true, true, true, false]) g4_14_11 rfl ns4_14 (by kernel_rfl) (by kernel_rfl) rfl (wanted_is (j := 2) (d := 71) rfl rfl h71 rfl) K308 Y fun a356 e => ?_; clear Y
          have g80 := R.at_ e (by decide); replace R := R.put e; replace h2 := so e h2; replace h3 := so e h3; replace h4 := so e h4; replace h5 := so e h5; replace h11 := so e h11; replace h12 := so e h12; replace h62 := so e h62; replace h63 := so e h63; replace h64 := so e h64; replace h65 := so e h65; replace h66 := so e h66; replace h67 := so e h67; replace h68 := so e h68; replace h69 := so e h69; replace h70 := so e h70; replace h71 := so e h71; replace h72 := so e h72; replace h73 := so e h73; replace h74 := so e h74; replace h75 := so e h75; replace h76 := so e h76; replace h77 := so e h77; replace h78 := so e h78; replace h79 := so e h79; have h80 := g80; clear g80; clear e
          have Y : ∀ W, Keep (fun g => g < w307.heap.size) w307 W → (execOp a356.eval o4_14_12).run Try.prog W = .ok (.value (.bool false)) W := by intro W7 hS; unfold o4_14_12; go_simp
          refine dr_take (i := 12) (fuel := 0) (l' := #[true, true, true, true, true, true, true, true, true, true, true, true, true]) g4_14_12 rfl ns4_14 (by kernel_rfl) (by kernel_rfl) rfl (wanted_free rfl) K308 Y fun a358 e => ?_; clear Y
          have g81 := R.at_ e (by decide); replace R := R.put e; replace h2 := so e h2; replace h3 := so e h3; replace h4 := so e h4; replace h5 := so e h5; replace h11 := so e h11; replace h12 := so e h12; replace h62 := so e h62; replace h63 := so e h63; replace h64 := so e h64; replace h65 := so e h65; replace h66 := so e h66; replace h67 := so e h67; replace h68 := so e h68; replace h69 := so e h69; replace h70 := so e h70; replace h71 := so e h71; replace h72 := so e h72; replace h73 := so e h73; replace h74 := so e h74; replace h75 := so e h75; replace h76 := so e h76; replace h77 := so e h77; replace h78 := so e h78; replace h79 := so e h79; replace h80 := so e h80; have h81 := g81; clear g81; clear e
          refine dr_end (by kernel_rfl) ?_
          clear K308 EK1 EK2 EK3 D310 D311 D312
          change (c4_56).wp _ _ _ _
          refine wp_cond_false (x := c4_57) (y := Code.skip) (eval_slot h81) ?_
          refine wp_skip ?_
          exact ⟨R, h2, h3, h4, h5, h11, h12, h62, h63, h64, h65, h66, h67, h68, K1, K2, K3, B1, B5, B301⟩
      ·
        clear R h2 h3 h4 h5 h11 h12 h62 h63 h64 h65 h66 h67 h68 K1 K2 K3 B1 B5 B301
        rintro a360 w361 ⟨R, h2, h3, h4, h5, h11, h12, h62, h63, h64, h65, h66, h67, h68, K1, K2, K3, B1, B5, B301⟩
        refine wp_seq (x := c4_62) (y := c4_63) ?_
        change (Code.region 16 O4_16 false).wp _ _ _ _
        refine reg_in (l := [0, 1, 2, 3, 4]) rfl ?_
        have Y : (execOp a360.eval o4_16_0).run Try.prog w361 = .ok (.value (.pointer (some ⟨b301, 1, none⟩))) w361 := by unfold o4_16_0; go_simp
        refine st_val g4_16_0 rfl (wanted_free rfl) Y fun a362 e => ?_; clear Y
        have g82 := R.at_ e (by decide); replace R := R.put e; replace h2 := so e h2; replace h3 := so e h3; replace h4 := so e h4; replace h5 := so e h5; replace h11 := so e h11; replace h12 := so e h12; replace h62 := so e h62; replace h63 := so e h63; replace h64 := so e h64; replace h65 := so e h65; replace h66 := so e h66; replace h67 := so e h67; replace h68 := so e h68; have h82 := g82; clear g82; clear e
        have Y : (execOp a362.eval o4_16_1).run Try.prog w361 = .ok (.value (.agg #[.int .i64 p.2.1.k, .string (str p.2.1.nm), .int .i64 p.2.1.i, .slice p.2.2.1 p.2.1.args.length p.2.2.2])) w361 := by have qq0 : w361.cell? ⟨b301, 0, none⟩ = some (.int .i64 p.1) := B301.cell 0; have qq1 : w361.cell? ⟨b301, 1, none⟩ = some (.int .i64 p.2.1.k) := B301.cell 1; have qq2 : w361.cell? ⟨b301, 2, none⟩ = some (.string (str p.2.1.nm)) := B301.cell 2; have qq3 : w361.cell? ⟨b301, 3, none⟩ = some (.int .i64 p.2.1.i) := B301.cell 3; have qq4 : w361.cell? ⟨b301, 4, none⟩ = some (.slice p.2.2.1 p.2.1.args.length p.2.2.2) := B301.cell 4; unfold o4_16_1; go_simp
        refine st_val g4_16_1 rfl (wanted_free rfl) Y fun a364 e => ?_; clear Y
        have g83 := R.at_ e (by decide); replace R := R.put e; replace h2 := so e h2; replace h3 := so e h3; replace h4 := so e h4; replace h5 := so e h5; replace h11 := so e h11; replace h12 := so e h12; replace h62 := so e h62; replace h63 := so e h63; replace h64 := so e h64; replace h65 := so e h65; replace h66 := so e h66; replace h67 := so e h67; replace h68 := so e h68; replace h82 := so e h82; have h83 := g83; clear g83; clear e
        have Y : (execOp a364.eval o4_16_2).run Try.prog w361 = .ok (.enter 18 #[.agg #[.int .i64 p.2.1.k, .string (str p.2.1.nm), .int .i64 p.2.1.i, .slice p.2.2.1 p.2.1.args.length p.2.2.2]]) w361 := by unfold o4_16_2; go_simp
        refine st_call g4_16_2 rfl (wanted_free rfl) Y ((vars_sx (l := vaV p.2.1) (L := (vaV p.2.1).length) (bsl_at (bsl_on HB.out K2) hsA hp).2.2 rfl rfl).mono ?_); clear Y
        rintro e9 w366 ⟨gb, ub, uc9, rfl, hvr, kk⟩
        replace K1 := keep_onto K1 kk
        replace K2 := keep_onto K2 kk
        replace K3 := keep_onto K3 kk
        replace B1 := blk_on B1 kk
        replace B5 := blk_on B5 kk
        replace B301 := blk_on B301 kk
        clear kk
        have HUB : Hid (0 < (vaV p.2.1).length → ub = some ⟨gb, 0, none⟩) := Lib.hid fun h => (hvr.1 h).1
        have HVC := Lib.hid hvr.2; clear hvr
        have K4 := Keep.refl (fun g => g < w366.heap.size) w366
        refine ⟨_, rfl, fun a367 e => ?_⟩
        have g84 := R.at_ e (by decide); replace R := R.put e; replace h2 := so e h2; replace h3 := so e h3; replace h4 := so e h4; replace h5 := so e h5; replace h11 := so e h11; replace h12 := so e h12; replace h62 := so e h62; replace h63 := so e h63; replace h64 := so e h64; replace h65 := so e h65; replace h66 := so e h66; replace h67 := so e h67; replace h68 := so e h68; replace h82 := so e h82; replace h83 := so e h83; have h84 := g84; clear g84; clear e
        have Y : (execOp a367.eval o4_16_3).run Try.prog w366 = .ok (.value (.int .i64 ((vaV p.2.1).length))) w366 := by unfold o4_16_3; go_simp
        refine st_val g4_16_3 rfl (wanted_free rfl) Y fun a369 e => ?_; clear Y
        have g85 := R.at_ e (by decide); replace R := R.put e; replace h2 := so e h2; replace h3 := so e h3; replace h4 := so e h4; replace h5 := so e h5; replace h11 := so e h11; replace h12 := so e h12; replace h62 := so e h62; replace h63 := so e h63; replace h64 := so e h64; replace h65 := so e h65; replace h66 := so e h66; replace h67 := so e h67; replace h68 := so e h68; replace h82 := so e h82; replace h83 := so e h83; replace h84 := so e h84; have h85 := g85; clear g85; clear e
        have Y : (execOp a369.eval o4_16_4).run Try.prog w366 = .ok (.value (.int .i64 0)) w366 := by unfold o4_16_4; go_simp
        refine st_val g4_16_4 rfl (wanted_free rfl) Y fun a371 e => ?_; clear Y
        have g86 := R.at_ e (by decide); replace R := R.put e; replace h2 := so e h2; replace h3 := so e h3; replace h4 := so e h4; replace h5 := so e h5; replace h11 := so e h11; replace h12 := so e h12; replace h62 := so e h62; replace h63 := so e h63; replace h64 := so e h64; replace h65 := so e h65; replace h66 := so e h66; replace h67 := so e h67; replace h68 := so e h68; replace h82 := so e h82; replace h83 := so e h83; replace h84 := so e h84; replace h85 := so e h85; have h86 := g86; clear g86; clear e
        refine st_end ?_
        change (c4_63).wp _ _ _ _
        refine wp_block (id := 2) (c := c4_64) ?_
        clear B301
        refine wp_loop_ghost (c := c4_65) (fun n f9 w9 => ∃ m : Nat, n = (vaV p.2.1).length - m ∧ FrS 149 f9 ∧ f9.tmps[2]? = some (.pointer (some ⟨b1, 0, none⟩)) ∧ f9.tmps[3]? = some (.pointer (some ⟨b5, 0, none⟩)) ∧ f9.tmps[4]? = some (.bool false) ∧ f9.tmps[5]? = some (.slice va bs.length vc) ∧ f9.tmps[11]? = some (.int .i64 (i : Int)) ∧ f9.tmps[12]? = some (.pointer (some ⟨b301, 0, none⟩)) ∧ f9.tmps[62]? = some (.slice va bs.length vc) ∧ f9.tmps[63]? = some (.int .i64 bs.length) ∧ f9.tmps[64]? = some (.int .i64 (i : Int)) ∧ f9.tmps[65]? = some (.bool true) ∧ f9.tmps[66]? = some (.int .i64 (i : Int)) ∧ f9.tmps[67]? = some (.pointer (some ⟨bA, oA + i * 5, none⟩)) ∧ f9.tmps[68]? = some (.agg #[.int .i64 p.1, .int .i64 p.2.1.k, .string (str p.2.1.nm), .int .i64 p.2.1.i, .slice p.2.2.1 p.2.1.args.length p.2.2.2]) ∧ f9.tmps[82]? = some (.pointer (some ⟨b301, 1, none⟩)) ∧ f9.tmps[83]? = some (.agg #[.int .i64 p.2.1.k, .string (str p.2.1.nm), .int .i64 p.2.1.i, .slice p.2.2.1 p.2.1.args.length p.2.2.2]) ∧ f9.tmps[84]? = some (.slice ub ((vaV p.2.1).length) uc9) ∧ f9.tmps[85]? = some (.int .i64 ((vaV p.2.1).length)) ∧ f9.tmps[86]? = some (.int .i64 (m : Int)) ∧ Keep (fun g => g < W.heap.size) W w9 ∧ Keep (fun g => g < w20.heap.size) w20 w9 ∧ Keep (fun g => g < w41.heap.size) w41 w9 ∧ Keep (fun g => g < w366.heap.size) w366 w9 ∧ Blk w9 b1 24 #[.int .i64 t.k, .string (str t.nm), .int .i64 t.i, .slice ta t.args.length tc] ∧ Blk w9 b5 24 #[.int .i64 u.k, .string (str u.nm), .int .i64 u.i, .slice ua u.args.length uc] ∧ m ≤ (vaV p.2.1).length) ((vaV p.2.1).length - 0) ⟨0, rfl, R, h2, h3, h4, h5, h11, h12, h62, h63, h64, h65, h66, h67, h68, h82, h83, h84, h85, h86, K1, K2, K3, K4, B1, B5, Nat.zero_le _⟩ ?_
        clear R h2 h3 h4 h5 h11 h12 h62 h63 h64 h65 h66 h67 h68 h82 h83 h84 h85 h86 K1 K2 K3 K4 B1 B5
        rintro n375 a373 w374 ⟨m, rfl, R, h2, h3, h4, h5, h11, h12, h62, h63, h64, h65, h66, h67, h68, h82, h83, h84, h85, h86, K1, K2, K3, K4, B1, B5, hm⟩
        have hbm := HPV.out
        have hwm : IntKind.i64.wrap ((m : Int) + 1) = (m : Int) + 1 := by rw [IntKind.wrap_i64]; omega
        refine wp_seq (x := c4_66) (y := c4_67) ?_
        change (Code.region 17 O4_17 false).wp _ _ _ _
        refine reg_in (l := [0]) rfl ?_
        obtain ⟨b376, hb376⟩ : ∃ x, (decide ((m : Int) < ((vaV p.2.1).length : Int))) = x := ⟨_, rfl⟩
        have Y : (execOp a373.eval o4_17_0).run Try.prog w374 = .ok (.value (.bool b376)) w374 := by rw [← hb376]; unfold o4_17_0; go_simp
        refine st_val g4_17_0 rfl (wanted_free rfl) Y fun a377 e => ?_; clear Y
        have g87 := R.at_ e (by decide); replace R := R.put e; replace h2 := so e h2; replace h3 := so e h3; replace h4 := so e h4; replace h5 := so e h5; replace h11 := so e h11; replace h12 := so e h12; replace h62 := so e h62; replace h63 := so e h63; replace h64 := so e h64; replace h65 := so e h65; replace h66 := so e h66; replace h67 := so e h67; replace h68 := so e h68; replace h82 := so e h82; replace h83 := so e h83; replace h84 := so e h84; replace h85 := so e h85; replace h86 := so e h86; have h87 := g87; clear g87; clear e
        refine st_end ?_
        change (c4_67).wp _ _ _ _
        refine wp_seq (x := c4_68) (y := c4_71) ?_
        cases b376 with
        | false =>
          have fb376 := hb376; clear hb376
          simp only [decide_eq_true_eq, decide_eq_false_iff_not, bne_iff_ne, bne_eq_false_iff_eq, beq_iff_eq, beq_eq_false_iff_ne, ne_eq, Bool.not_eq_true', Bool.not_eq_false', Bool.not_eq_eq_eq_not, Bool.not_true, Bool.not_false] at fb376
          refine wp_cond_false (x := Code.skip) (y := c4_70) (eval_slot h87) ?_
          refine wp_exit ?_
          change (c4_98).wp _ _ _ _
          change (Code.region 26 O4_26 false).wp _ _ _ _
          refine reg_in (l := [0, 1]) rfl ?_
          have Y : (execOp a377.eval o4_26_0).run Try.prog w374 = .ok (.value (.int .i64 ((i : Int) + 1))) w374 := by unfold o4_26_0; go_simp
          refine st_val g4_26_0 rfl (wanted_free rfl) Y fun a379 e => ?_; clear Y
          have g102 := R.at_ e (by decide); replace R := R.put e; replace h2 := so e h2; replace h3 := so e h3; replace h4 := so e h4; replace h5 := so e h5; replace h11 := so e h11; replace h12 := so e h12; replace h62 := so e h62; replace h63 := so e h63; replace h64 := so e h64; replace h65 := so e h65; replace h66 := so e h66; replace h67 := so e h67; replace h68 := so e h68; replace h82 := so e h82; replace h83 := so e h83; replace h84 := so e h84; replace h85 := so e h85; replace h86 := so e h86; replace h87 := so e h87; have h102 := g102; clear g102; clear e
          have Y : (execOp a379.eval o4_26_1).run Try.prog w374 = .ok (.value (.int .i64 ((i : Int) + 1))) w374 := by unfold o4_26_1; go_simp
          refine st_val g4_26_1 rfl (wanted_free rfl) Y fun a381 e => ?_; clear Y
          have g64 := R.at_ e (by decide); replace R := R.put e; replace h2 := so e h2; replace h3 := so e h3; replace h4 := so e h4; replace h5 := so e h5; replace h11 := so e h11; replace h12 := so e h12; replace h62 := so e h62; replace h63 := so e h63; replace h65 := so e h65; replace h66 := so e h66; replace h67 := so e h67; replace h68 := so e h68; replace h82 := so e h82; replace h83 := so e h83; replace h84 := so e h84; replace h85 := so e h85; replace h86 := so e h86; replace h87 := so e h87; replace h102 := so e h102; clear h64; have h64 := g64; clear g64; clear e
          refine st_end ?_
          exact ⟨_, by omega, i + 1, rfl, R, h2, h3, h4, h5, h62, h63, h64, K1, K2, K3, B1, B5, (by omega)⟩
        | true =>
          have fb376 := hb376; clear hb376
          simp only [decide_eq_true_eq, decide_eq_false_iff_not, bne_iff_ne, bne_eq_false_iff_eq, beq_iff_eq, beq_eq_false_iff_ne, ne_eq, Bool.not_eq_true', Bool.not_eq_false', Bool.not_eq_eq_eq_not, Bool.not_true, Bool.not_false] at fb376
          refine wp_cond_true (x := Code.skip) (y := c4_70) (eval_slot h87) ?_
          refine wp_skip ?_
          change (c4_71).wp _ _ _ _
          refine wp_seq (x := c4_72) (y := c4_97) ?_
          refine wp_block (id := 3) (c := c4_73) ?_
          refine wp_seq (x := c4_74) (y := c4_75) ?_
          change (Code.region 18 O4_18 false).wp _ _ _ _
          refine reg_in (l := [0, 1, 2]) rfl ?_
          have hub := HUB.out (by omega)
          have hltB : (m : Int) < ((vaV p.2.1).length : Int) := by omega
          have Y : (execOp a377.eval o4_18_0).run Try.prog w374 = .ok (.value (.pointer (some ⟨gb, m, none⟩))) w374 := by unfold o4_18_0; go_simp
          refine st_val g4_18_0 rfl (wanted_free rfl) Y fun a383 e => ?_; clear Y
          have g88 := R.at_ e (by decide); replace R := R.put e; replace h2 := so e h2; replace h3 := so e h3; replace h4 := so e h4; replace h5 := so e h5; replace h11 := so e h11; replace h12 := so e h12; replace h62 := so e h62; replace h63 := so e h63; replace h64 := so e h64; replace h65 := so e h65; replace h66 := so e h66; replace h67 := so e h67; replace h68 := so e h68; replace h82 := so e h82; replace h83 := so e h83; replace h84 := so e h84; replace h85 := so e h85; replace h86 := so e h86; replace h87 := so e h87; have h88 := g88; clear g88; clear e
          obtain ⟨z, hz⟩ : ∃ q, (vaV p.2.1)[m]? = some q := ⟨_, List.getElem?_eq_getElem (by omega)⟩
          have Y : (execOp a383.eval o4_18_1).run Try.prog w374 = .ok (.value (.int .i64 z)) w374 := by have hc9 := cell_on (HVC.out m _ hz) K4; unfold o4_18_1; go_simp
          refine st_val g4_18_1 rfl (wanted_free rfl) Y fun a385 e => ?_; clear Y
          have g89 := R.at_ e (by decide); replace R := R.put e; replace h2 := so e h2; replace h3 := so e h3; replace h4 := so e h4; replace h5 := so e h5; replace h11 := so e h11; replace h12 := so e h12; replace h62 := so e h62; replace h63 := so e h63; replace h64 := so e h64; replace h65 := so e h65; replace h66 := so e h66; replace h67 := so e h67; replace h68 := so e h68; replace h82 := so e h82; replace h83 := so e h83; replace h84 := so e h84; replace h85 := so e h85; replace h86 := so e h86; replace h87 := so e h87; replace h88 := so e h88; have h89 := g89; clear g89; clear e
          have Y : (execOp a385.eval o4_18_2).run Try.prog w374 = .ok (.value (.int .i64 z)) w374 := by unfold o4_18_2; go_simp
          refine st_val g4_18_2 rfl (wanted_free rfl) Y fun a387 e => ?_; clear Y
          have g14 := R.at_ e (by decide); replace R := R.put e; replace h2 := so e h2; replace h3 := so e h3; replace h4 := so e h4; replace h5 := so e h5; replace h11 := so e h11; replace h12 := so e h12; replace h62 := so e h62; replace h63 := so e h63; replace h64 := so e h64; replace h65 := so e h65; replace h66 := so e h66; replace h67 := so e h67; replace h68 := so e h68; replace h82 := so e h82; replace h83 := so e h83; replace h84 := so e h84; replace h85 := so e h85; replace h86 := so e h86; replace h87 := so e h87; replace h88 := so e h88; replace h89 := so e h89; have h14 := g14; clear g14; clear e
          refine st_end ?_
          change (c4_75).wp _ _ _ _
          refine wp_seq (x := c4_76) (y := c4_77) ?_
          change (Code.region 19 O4_19 false).wp _ _ _ _
          refine reg_in (l := [0, 1, 2]) rfl ?_
          have Y : (execOp a387.eval o4_19_0).run Try.prog w374 = .ok (.value (.slice va bs.length vc)) w374 := by unfold o4_19_0; go_simp
          refine st_val g4_19_0 rfl (wanted_free rfl) Y fun a389 e => ?_; clear Y
          have g90 := R.at_ e (by decide); replace R := R.put e; replace h2 := so e h2; replace h3 := so e h3; replace h4 := so e h4; replace h5 := so e h5; replace h11 := so e h11; replace h12 := so e h12; replace h14 := so e h14; replace h62 := so e h62; replace h63 := so e h63; replace h64 := so e h64; replace h65 := so e h65; replace h66 := so e h66; replace h67 := so e h67; replace h68 := so e h68; replace h82 := so e h82; replace h83 := so e h83; replace h84 := so e h84; replace h85 := so e h85; replace h86 := so e h86; replace h87 := so e h87; replace h88 := so e h88; replace h89 := so e h89; have h90 := g90; clear g90; clear e
          have Y : (execOp a389.eval o4_19_1).run Try.prog w374 = .ok (.value (.int .i64 bs.length)) w374 := by unfold o4_19_1; go_simp
          refine st_val g4_19_1 rfl (wanted_free rfl) Y fun a391 e => ?_; clear Y
          have g91 := R.at_ e (by decide); replace R := R.put e; replace h2 := so e h2; replace h3 := so e h3; replace h4 := so e h4; replace h5 := so e h5; replace h11 := so e h11; replace h12 := so e h12; replace h14 := so e h14; replace h62 := so e h62; replace h63 := so e h63; replace h64 := so e h64; replace h65 := so e h65; replace h66 := so e h66; replace h67 := so e h67; replace h68 := so e h68; replace h82 := so e h82; replace h83 := so e h83; replace h84 := so e h84; replace h85 := so e h85; replace h86 := so e h86; replace h87 := so e h87; replace h88 := so e h88; replace h89 := so e h89; replace h90 := so e h90; have h91 := g91; clear g91; clear e
          have Y : (execOp a391.eval o4_19_2).run Try.prog w374 = .ok (.value (.int .i64 0)) w374 := by unfold o4_19_2; go_simp
          refine st_val g4_19_2 rfl (wanted_free rfl) Y fun a393 e => ?_; clear Y
          have g92 := R.at_ e (by decide); replace R := R.put e; replace h2 := so e h2; replace h3 := so e h3; replace h4 := so e h4; replace h5 := so e h5; replace h11 := so e h11; replace h12 := so e h12; replace h14 := so e h14; replace h62 := so e h62; replace h63 := so e h63; replace h64 := so e h64; replace h65 := so e h65; replace h66 := so e h66; replace h67 := so e h67; replace h68 := so e h68; replace h82 := so e h82; replace h83 := so e h83; replace h84 := so e h84; replace h85 := so e h85; replace h86 := so e h86; replace h87 := so e h87; replace h88 := so e h88; replace h89 := so e h89; replace h90 := so e h90; replace h91 := so e h91; have h92 := g92; clear g92; clear e
          refine st_end ?_
          change (c4_77).wp _ _ _ _
          refine wp_block (id := 4) (c := c4_78) ?_
          refine wp_loop_ghost (c := c4_79) (fun n f9 w9 => ∃ n7 : Nat, n = bs.length - n7 ∧ FrS 149 f9 ∧ f9.tmps[2]? = some (.pointer (some ⟨b1, 0, none⟩)) ∧ f9.tmps[3]? = some (.pointer (some ⟨b5, 0, none⟩)) ∧ f9.tmps[4]? = some (.bool false) ∧ f9.tmps[5]? = some (.slice va bs.length vc) ∧ f9.tmps[11]? = some (.int .i64 (i : Int)) ∧ f9.tmps[12]? = some (.pointer (some ⟨b301, 0, none⟩)) ∧ f9.tmps[14]? = some (.int .i64 z) ∧ f9.tmps[62]? = some (.slice va bs.length vc) ∧ f9.tmps[63]? = some (.int .i64 bs.length) ∧ f9.tmps[64]? = some (.int .i64 (i : Int)) ∧ f9.tmps[65]? = some (.bool true) ∧ f9.tmps[66]? = some (.int .i64 (i : Int)) ∧ f9.tmps[67]? = some (.pointer (some ⟨bA, oA + i * 5, none⟩)) ∧ f9.tmps[68]? = some (.agg #[.int .i64 p.1, .int .i64 p.2.1.k, .string (str p.2.1.nm), .int .i64 p.2.1.i, .slice p.2.2.1 p.2.1.args.length p.2.2.2]) ∧ f9.tmps[82]? = some (.pointer (some ⟨b301, 1, none⟩)) ∧ f9.tmps[83]? = some (.agg #[.int .i64 p.2.1.k, .string (str p.2.1.nm), .int .i64 p.2.1.i, .slice p.2.2.1 p.2.1.args.length p.2.2.2]) ∧ f9.tmps[84]? = some (.slice ub ((vaV p.2.1).length) uc9) ∧ f9.tmps[85]? = some (.int .i64 ((vaV p.2.1).length)) ∧ f9.tmps[86]? = some (.int .i64 (m : Int)) ∧ f9.tmps[87]? = some (.bool true) ∧ f9.tmps[88]? = some (.pointer (some ⟨gb, m, none⟩)) ∧ f9.tmps[89]? = some (.int .i64 z) ∧ f9.tmps[90]? = some (.slice va bs.length vc) ∧ f9.tmps[91]? = some (.int .i64 bs.length) ∧ f9.tmps[92]? = some (.int .i64 (n7 : Int)) ∧ Keep (fun g => g < W.heap.size) W w9 ∧ Keep (fun g => g < w20.heap.size) w20 w9 ∧ Keep (fun g => g < w41.heap.size) w41 w9 ∧ Keep (fun g => g < w366.heap.size) w366 w9 ∧ Blk w9 b1 24 #[.int .i64 t.k, .string (str t.nm), .int .i64 t.i, .slice ta t.args.length tc] ∧ Blk w9 b5 24 #[.int .i64 u.k, .string (str u.nm), .int .i64 u.i, .slice ua u.args.length uc] ∧ n7 ≤ bs.length) (bs.length - 0) ⟨0, rfl, R, h2, h3, h4, h5, h11, h12, h14, h62, h63, h64, h65, h66, h67, h68, h82, h83, h84, h85, h86, h87, h88, h89, h90, h91, h92, K1, K2, K3, K4, B1, B5, Nat.zero_le _⟩ ?_
          clear R h2 h3 h4 h5 h11 h12 h14 h62 h63 h64 h65 h66 h67 h68 h82 h83 h84 h85 h86 h87 h88 h89 h90 h91 h92 K1 K2 K3 K4 B1 B5
          rintro n397 a395 w396 ⟨n7, rfl, R, h2, h3, h4, h5, h11, h12, h14, h62, h63, h64, h65, h66, h67, h68, h82, h83, h84, h85, h86, h87, h88, h89, h90, h91, h92, K1, K2, K3, K4, B1, B5, hn7⟩
          have hbn7 := HLN.out
          have hwn7 : IntKind.i64.wrap ((n7 : Int) + 1) = (n7 : Int) + 1 := by rw [IntKind.wrap_i64]; omega
          refine wp_seq (x := c4_80) (y := c4_81) ?_
          change (Code.region 20 O4_20 false).wp _ _ _ _
          refine reg_in (l := [0]) rfl ?_
          obtain ⟨b398, hb398⟩ : ∃ x, (decide ((n7 : Int) < (bs.length : Int))) = x := ⟨_, rfl⟩
          have Y : (execOp a395.eval o4_20_0).run Try.prog w396 = .ok (.value (.bool b398)) w396 := by rw [← hb398]; unfold o4_20_0; go_simp
          refine st_val g4_20_0 rfl (wanted_free rfl) Y fun a399 e => ?_; clear Y
          have g93 := R.at_ e (by decide); replace R := R.put e; replace h2 := so e h2; replace h3 := so e h3; replace h4 := so e h4; replace h5 := so e h5; replace h11 := so e h11; replace h12 := so e h12; replace h14 := so e h14; replace h62 := so e h62; replace h63 := so e h63; replace h64 := so e h64; replace h65 := so e h65; replace h66 := so e h66; replace h67 := so e h67; replace h68 := so e h68; replace h82 := so e h82; replace h83 := so e h83; replace h84 := so e h84; replace h85 := so e h85; replace h86 := so e h86; replace h87 := so e h87; replace h88 := so e h88; replace h89 := so e h89; replace h90 := so e h90; replace h91 := so e h91; replace h92 := so e h92; have h93 := g93; clear g93; clear e
          refine st_end ?_
          change (c4_81).wp _ _ _ _
          refine wp_seq (x := c4_82) (y := c4_85) ?_
          cases b398 with
          | false =>
            have fb398 := hb398; clear hb398
            simp only [decide_eq_true_eq, decide_eq_false_iff_not, bne_iff_ne, bne_eq_false_iff_eq, beq_iff_eq, beq_eq_false_iff_ne, ne_eq, Bool.not_eq_true', Bool.not_eq_false', Bool.not_eq_eq_eq_not, Bool.not_true, Bool.not_false] at fb398
            refine wp_cond_false (x := Code.skip) (y := c4_84) (eval_slot h93) ?_
            refine wp_exit ?_
            change (c4_97).wp _ _ _ _
            change (Code.region 25 O4_25 false).wp _ _ _ _
            refine reg_in (l := [0, 1]) rfl ?_
            have Y : (execOp a399.eval o4_25_0).run Try.prog w396 = .ok (.value (.int .i64 ((m : Int) + 1))) w396 := by unfold o4_25_0; go_simp
            refine st_val g4_25_0 rfl (wanted_free rfl) Y fun a401 e => ?_; clear Y
            have g101 := R.at_ e (by decide); replace R := R.put e; replace h2 := so e h2; replace h3 := so e h3; replace h4 := so e h4; replace h5 := so e h5; replace h11 := so e h11; replace h12 := so e h12; replace h14 := so e h14; replace h62 := so e h62; replace h63 := so e h63; replace h64 := so e h64; replace h65 := so e h65; replace h66 := so e h66; replace h67 := so e h67; replace h68 := so e h68; replace h82 := so e h82; replace h83 := so e h83; replace h84 := so e h84; replace h85 := so e h85; replace h86 := so e h86; replace h87 := so e h87; replace h88 := so e h88; replace h89 := so e h89; replace h90 := so e h90; replace h91 := so e h91; replace h92 := so e h92; replace h93 := so e h93; have h101 := g101; clear g101; clear e
            have Y : (execOp a401.eval o4_25_1).run Try.prog w396 = .ok (.value (.int .i64 ((m : Int) + 1))) w396 := by unfold o4_25_1; go_simp
            refine st_val g4_25_1 rfl (wanted_free rfl) Y fun a403 e => ?_; clear Y
            have g86 := R.at_ e (by decide); replace R := R.put e; replace h2 := so e h2; replace h3 := so e h3; replace h4 := so e h4; replace h5 := so e h5; replace h11 := so e h11; replace h12 := so e h12; replace h14 := so e h14; replace h62 := so e h62; replace h63 := so e h63; replace h64 := so e h64; replace h65 := so e h65; replace h66 := so e h66; replace h67 := so e h67; replace h68 := so e h68; replace h82 := so e h82; replace h83 := so e h83; replace h84 := so e h84; replace h85 := so e h85; replace h87 := so e h87; replace h88 := so e h88; replace h89 := so e h89; replace h90 := so e h90; replace h91 := so e h91; replace h92 := so e h92; replace h93 := so e h93; replace h101 := so e h101; clear h86; have h86 := g86; clear g86; clear e
            refine st_end ?_
            exact ⟨_, by omega, m + 1, rfl, R, h2, h3, h4, h5, h11, h12, h62, h63, h64, h65, h66, h67, h68, h82, h83, h84, h85, h86, K1, K2, K3, K4, B1, B5, (by omega)⟩
          | true =>
            have fb398 := hb398; clear hb398
            simp only [decide_eq_true_eq, decide_eq_false_iff_not, bne_iff_ne, bne_eq_false_iff_eq, beq_iff_eq, beq_eq_false_iff_ne, ne_eq, Bool.not_eq_true', Bool.not_eq_false', Bool.not_eq_eq_eq_not, Bool.not_true, Bool.not_false] at fb398
            refine wp_cond_true (x := Code.skip) (y := c4_84) (eval_slot h93) ?_
            refine wp_skip ?_
            change (c4_85).wp _ _ _ _
            refine wp_seq (x := c4_86) (y := c4_96) ?_
            refine wp_block (id := 5) (c := c4_87) ?_
            refine wp_seq (x := c4_88) (y := c4_89) ?_
            change (Code.region 21 O4_21 false).wp _ _ _ _
            refine reg_in (l := [0, 1, 2, 3]) rfl ?_
            have hlt9 : (n7 : Int) < (bs.length : Int) := by omega
            have Y : (execOp a399.eval o4_21_0).run Try.prog w396 = .ok (.value (.pointer (some ⟨bA, oA + n7 * 5, none⟩))) w396 := by unfold o4_21_0; go_simp
            refine st_val g4_21_0 rfl (wanted_free rfl) Y fun a405 e => ?_; clear Y
            have g94 := R.at_ e (by decide); replace R := R.put e; replace h2 := so e h2; replace h3 := so e h3; replace h4 := so e h4; replace h5 := so e h5; replace h11 := so e h11; replace h12 := so e h12; replace h14 := so e h14; replace h62 := so e h62; replace h63 := so e h63; replace h64 := so e h64; replace h65 := so e h65; replace h66 := so e h66; replace h67 := so e h67; replace h68 := so e h68; replace h82 := so e h82; replace h83 := so e h83; replace h84 := so e h84; replace h85 := so e h85; replace h86 := so e h86; replace h87 := so e h87; replace h88 := so e h88; replace h89 := so e h89; replace h90 := so e h90; replace h91 := so e h91; replace h92 := so e h92; replace h93 := so e h93; have h94 := g94; clear g94; clear e
            obtain ⟨q, hq⟩ : ∃ q, bs[n7]? = some q := ⟨_, List.getElem?_eq_getElem (by omega)⟩
            have Y : (execOp a405.eval o4_21_1).run Try.prog w396 = .ok (.value (.agg #[.int .i64 q.1, .int .i64 q.2.1.k, .string (str q.2.1.nm), .int .i64 q.2.1.i, .slice q.2.2.1 q.2.1.args.length q.2.2.2])) w396 := by obtain ⟨⟨c0, c1, c2, c3, c4⟩, -⟩ := bsl_at (bsl_on HB.out K2) hsA hq; unfold o4_21_1; go_simp
            refine st_val g4_21_1 rfl (wanted_free rfl) Y fun a407 e => ?_; clear Y
            have g95 := R.at_ e (by decide); replace R := R.put e; replace h2 := so e h2; replace h3 := so e h3; replace h4 := so e h4; replace h5 := so e h5; replace h11 := so e h11; replace h12 := so e h12; replace h14 := so e h14; replace h62 := so e h62; replace h63 := so e h63; replace h64 := so e h64; replace h65 := so e h65; replace h66 := so e h66; replace h67 := so e h67; replace h68 := so e h68; replace h82 := so e h82; replace h83 := so e h83; replace h84 := so e h84; replace h85 := so e h85; replace h86 := so e h86; replace h87 := so e h87; replace h88 := so e h88; replace h89 := so e h89; replace h90 := so e h90; replace h91 := so e h91; replace h92 := so e h92; replace h93 := so e h93; replace h94 := so e h94; have h95 := g95; clear g95; clear e
            have MK1 := K1
            have MK2 := K2
            have MK3 := K3
            have MK4 := K4
            have Y : (execOp a407.eval o4_21_2).run Try.prog w396 = .ok (.value (.pointer (some ⟨w396.heap.size, 0, none⟩))) (w396.alloc (.cells #[.int .i64 0, .int .i64 0, .string (⟨#[]⟩), .int .i64 0, .slice none 0 0] 41)) := by unfold o4_21_2; go_simp
            have B409 := Blk.new w396 41 #[.int .i64 0, .int .i64 0, .string (⟨#[]⟩), .int .i64 0, .slice none 0 0]
            replace K1 := K1.alloc (.cells #[.int .i64 0, .int .i64 0, .string (⟨#[]⟩), .int .i64 0, .slice none 0 0] 41)
            replace K2 := K2.alloc (.cells #[.int .i64 0, .int .i64 0, .string (⟨#[]⟩), .int .i64 0, .slice none 0 0] 41)
            replace K3 := K3.alloc (.cells #[.int .i64 0, .int .i64 0, .string (⟨#[]⟩), .int .i64 0, .slice none 0 0] 41)
            replace K4 := K4.alloc (.cells #[.int .i64 0, .int .i64 0, .string (⟨#[]⟩), .int .i64 0, .slice none 0 0] 41)
            have Nb1_b409 := Nat.ne_of_lt B1.lt; replace B1 := B1.alloc (.cells #[.int .i64 0, .int .i64 0, .string (⟨#[]⟩), .int .i64 0, .slice none 0 0] 41)
            have Nb5_b409 := Nat.ne_of_lt B5.lt; replace B5 := B5.alloc (.cells #[.int .i64 0, .int .i64 0, .string (⟨#[]⟩), .int .i64 0, .slice none 0 0] 41)
            obtain ⟨w410, hw410⟩ : ∃ x, x = w396.alloc (.cells #[.int .i64 0, .int .i64 0, .string (⟨#[]⟩), .int .i64 0, .slice none 0 0] 41) := ⟨_, rfl⟩
            rw [← hw410] at Y B409 K1 K2 K3 K4 B1 B5
            obtain ⟨b409, hb409⟩ : ∃ x, x = w396.heap.size := ⟨_, rfl⟩
            rw [← hb409] at Y B409 Nb1_b409 Nb5_b409
            have LK1_b409 : W.heap.size ≤ b409 := by rw [hb409]; first | exact Nat.le_refl _ | exact MK1.size
            have LK2_b409 : w20.heap.size ≤ b409 := by rw [hb409]; first | exact Nat.le_refl _ | exact MK2.size
            have LK3_b409 : w41.heap.size ≤ b409 := by rw [hb409]; first | exact Nat.le_refl _ | exact MK3.size
            have LK4_b409 : w366.heap.size ≤ b409 := by rw [hb409]; first | exact Nat.le_refl _ | exact MK4.size
            clear hw410 hb409 MK1 MK2 MK3 MK4
            refine st_val g4_21_2 rfl (wanted_free rfl) Y fun a411 e => ?_; clear Y
            have g16 := R.at_ e (by decide); replace R := R.put e; replace h2 := so e h2; replace h3 := so e h3; replace h4 := so e h4; replace h5 := so e h5; replace h11 := so e h11; replace h12 := so e h12; replace h14 := so e h14; replace h62 := so e h62; replace h63 := so e h63; replace h64 := so e h64; replace h65 := so e h65; replace h66 := so e h66; replace h67 := so e h67; replace h68 := so e h68; replace h82 := so e h82; replace h83 := so e h83; replace h84 := so e h84; replace h85 := so e h85; replace h86 := so e h86; replace h87 := so e h87; replace h88 := so e h88; replace h89 := so e h89; replace h90 := so e h90; replace h91 := so e h91; replace h92 := so e h92; replace h93 := so e h93; replace h94 := so e h94; replace h95 := so e h95; have h16 := g16; clear g16; clear e
            have Y : (execOp a411.eval o4_21_3).run Try.prog w410 = .ok .skip (((((w410.setCell ⟨b409, 0, none⟩ (.int .i64 q.1)).setCell ⟨b409, 1, none⟩ (.int .i64 q.2.1.k)).setCell ⟨b409, 2, none⟩ (.string (str q.2.1.nm))).setCell ⟨b409, 3, none⟩ (.int .i64 q.2.1.i)).setCell ⟨b409, 4, none⟩ (.slice q.2.2.1 q.2.1.args.length q.2.2.2)) := by have qq0 : w410.cell? ⟨b409, 0, none⟩ = some (.int .i64 0) := B409.cell 0; have qq1 : w410.cell? ⟨b409, 1, none⟩ = some (.int .i64 0) := B409.cell 1; have qq2 : w410.cell? ⟨b409, 2, none⟩ = some (.string (⟨#[]⟩)) := B409.cell 2; have qq3 : w410.cell? ⟨b409, 3, none⟩ = some (.int .i64 0) := B409.cell 3; have qq4 : w410.cell? ⟨b409, 4, none⟩ = some (.slice none 0 0) := B409.cell 4; have z0 := B409.frozen 0; have z1 := B409.frozen 1; have z2 := B409.frozen 2; have z3 := B409.frozen 3; have z4 := B409.frozen 4; unfold o4_21_3; go_simp
            replace K1 := (((((K1.setCell (p := ⟨b409, 0, none⟩) (Nat.not_lt.2 LK1_b409) (.int .i64 q.1)).setCell (p := ⟨b409, 1, none⟩) (Nat.not_lt.2 LK1_b409) (.int .i64 q.2.1.k)).setCell (p := ⟨b409, 2, none⟩) (Nat.not_lt.2 LK1_b409) (.string (str q.2.1.nm))).setCell (p := ⟨b409, 3, none⟩) (Nat.not_lt.2 LK1_b409) (.int .i64 q.2.1.i)).setCell (p := ⟨b409, 4, none⟩) (Nat.not_lt.2 LK1_b409) (.slice q.2.2.1 q.2.1.args.length q.2.2.2))
            replace K2 := (((((K2.setCell (p := ⟨b409, 0, none⟩) (Nat.not_lt.2 LK2_b409) (.int .i64 q.1)).setCell (p := ⟨b409, 1, none⟩) (Nat.not_lt.2 LK2_b409) (.int .i64 q.2.1.k)).setCell (p := ⟨b409, 2, none⟩) (Nat.not_lt.2 LK2_b409) (.string (str q.2.1.nm))).setCell (p := ⟨b409, 3, none⟩) (Nat.not_lt.2 LK2_b409) (.int .i64 q.2.1.i)).setCell (p := ⟨b409, 4, none⟩) (Nat.not_lt.2 LK2_b409) (.slice q.2.2.1 q.2.1.args.length q.2.2.2))
            replace K3 := (((((K3.setCell (p := ⟨b409, 0, none⟩) (Nat.not_lt.2 LK3_b409) (.int .i64 q.1)).setCell (p := ⟨b409, 1, none⟩) (Nat.not_lt.2 LK3_b409) (.int .i64 q.2.1.k)).setCell (p := ⟨b409, 2, none⟩) (Nat.not_lt.2 LK3_b409) (.string (str q.2.1.nm))).setCell (p := ⟨b409, 3, none⟩) (Nat.not_lt.2 LK3_b409) (.int .i64 q.2.1.i)).setCell (p := ⟨b409, 4, none⟩) (Nat.not_lt.2 LK3_b409) (.slice q.2.2.1 q.2.1.args.length q.2.2.2))
            replace K4 := (((((K4.setCell (p := ⟨b409, 0, none⟩) (Nat.not_lt.2 LK4_b409) (.int .i64 q.1)).setCell (p := ⟨b409, 1, none⟩) (Nat.not_lt.2 LK4_b409) (.int .i64 q.2.1.k)).setCell (p := ⟨b409, 2, none⟩) (Nat.not_lt.2 LK4_b409) (.string (str q.2.1.nm))).setCell (p := ⟨b409, 3, none⟩) (Nat.not_lt.2 LK4_b409) (.int .i64 q.2.1.i)).setCell (p := ⟨b409, 4, none⟩) (Nat.not_lt.2 LK4_b409) (.slice q.2.2.1 q.2.1.args.length q.2.2.2))
            replace B1 := (((((B1.far (p := ⟨b409, 0, none⟩) Nb1_b409 (.int .i64 q.1)).far (p := ⟨b409, 1, none⟩) Nb1_b409 (.int .i64 q.2.1.k)).far (p := ⟨b409, 2, none⟩) Nb1_b409 (.string (str q.2.1.nm))).far (p := ⟨b409, 3, none⟩) Nb1_b409 (.int .i64 q.2.1.i)).far (p := ⟨b409, 4, none⟩) Nb1_b409 (.slice q.2.2.1 q.2.1.args.length q.2.2.2))
            replace B5 := (((((B5.far (p := ⟨b409, 0, none⟩) Nb5_b409 (.int .i64 q.1)).far (p := ⟨b409, 1, none⟩) Nb5_b409 (.int .i64 q.2.1.k)).far (p := ⟨b409, 2, none⟩) Nb5_b409 (.string (str q.2.1.nm))).far (p := ⟨b409, 3, none⟩) Nb5_b409 (.int .i64 q.2.1.i)).far (p := ⟨b409, 4, none⟩) Nb5_b409 (.slice q.2.2.1 q.2.1.args.length q.2.2.2))
            replace B409 : Blk (((((w410.setCell ⟨b409, 0, none⟩ (.int .i64 q.1)).setCell ⟨b409, 1, none⟩ (.int .i64 q.2.1.k)).setCell ⟨b409, 2, none⟩ (.string (str q.2.1.nm))).setCell ⟨b409, 3, none⟩ (.int .i64 q.2.1.i)).setCell ⟨b409, 4, none⟩ (.slice q.2.2.1 q.2.1.args.length q.2.2.2)) b409 41 #[.int .i64 q.1, .int .i64 q.2.1.k, .string (str q.2.1.nm), .int .i64 q.2.1.i, .slice q.2.2.1 q.2.1.args.length q.2.2.2] := (((((B409.set_ 0 (.int .i64 q.1)).set_ 1 (.int .i64 q.2.1.k)).set_ 2 (.string (str q.2.1.nm))).set_ 3 (.int .i64 q.2.1.i)).set_ 4 (.slice q.2.2.1 q.2.1.args.length q.2.2.2))
            generalize (((((w410.setCell ⟨b409, 0, none⟩ (.int .i64 q.1)).setCell ⟨b409, 1, none⟩ (.int .i64 q.2.1.k)).setCell ⟨b409, 2, none⟩ (.string (str q.2.1.nm))).setCell ⟨b409, 3, none⟩ (.int .i64 q.2.1.i)).setCell ⟨b409, 4, none⟩ (.slice q.2.2.1 q.2.1.args.length q.2.2.2)) = w413 at Y K1 K2 K3 K4 B1 B5 B409
            refine st_skip g4_21_3 rfl (wanted_free rfl) Y ?_; clear Y
            refine st_end ?_
            change (c4_89).wp _ _ _ _
            refine wp_seq (x := c4_90) (y := c4_91) ?_
            change (Code.region 22 O4_22 false).wp _ _ _ _
            refine reg_in (l := [0, 1, 2, 3]) rfl ?_
            have Y : (execOp a411.eval o4_22_0).run Try.prog w413 = .ok (.value (.pointer (some ⟨b409, 0, none⟩))) w413 := by unfold o4_22_0; go_simp
            refine st_val g4_22_0 rfl (wanted_free rfl) Y fun a414 e => ?_; clear Y
            have g96 := R.at_ e (by decide); replace R := R.put e; replace h2 := so e h2; replace h3 := so e h3; replace h4 := so e h4; replace h5 := so e h5; replace h11 := so e h11; replace h12 := so e h12; replace h14 := so e h14; replace h16 := so e h16; replace h62 := so e h62; replace h63 := so e h63; replace h64 := so e h64; replace h65 := so e h65; replace h66 := so e h66; replace h67 := so e h67; replace h68 := so e h68; replace h82 := so e h82; replace h83 := so e h83; replace h84 := so e h84; replace h85 := so e h85; replace h86 := so e h86; replace h87 := so e h87; replace h88 := so e h88; replace h89 := so e h89; replace h90 := so e h90; replace h91 := so e h91; replace h92 := so e h92; replace h93 := so e h93; replace h94 := so e h94; replace h95 := so e h95; have h96 := g96; clear g96; clear e
            have Y : (execOp a414.eval o4_22_1).run Try.prog w413 = .ok (.value (.int .i64 q.1)) w413 := by have qq0 : w413.cell? ⟨b409, 0, none⟩ = some (.int .i64 q.1) := B409.cell 0; have qq1 : w413.cell? ⟨b409, 1, none⟩ = some (.int .i64 q.2.1.k) := B409.cell 1; have qq2 : w413.cell? ⟨b409, 2, none⟩ = some (.string (str q.2.1.nm)) := B409.cell 2; have qq3 : w413.cell? ⟨b409, 3, none⟩ = some (.int .i64 q.2.1.i) := B409.cell 3; have qq4 : w413.cell? ⟨b409, 4, none⟩ = some (.slice q.2.2.1 q.2.1.args.length q.2.2.2) := B409.cell 4; unfold o4_22_1; go_simp
            refine st_val g4_22_1 rfl (wanted_free rfl) Y fun a416 e => ?_; clear Y
            have g97 := R.at_ e (by decide); replace R := R.put e; replace h2 := so e h2; replace h3 := so e h3; replace h4 := so e h4; replace h5 := so e h5; replace h11 := so e h11; replace h12 := so e h12; replace h14 := so e h14; replace h16 := so e h16; replace h62 := so e h62; replace h63 := so e h63; replace h64 := so e h64; replace h65 := so e h65; replace h66 := so e h66; replace h67 := so e h67; replace h68 := so e h68; replace h82 := so e h82; replace h83 := so e h83; replace h84 := so e h84; replace h85 := so e h85; replace h86 := so e h86; replace h87 := so e h87; replace h88 := so e h88; replace h89 := so e h89; replace h90 := so e h90; replace h91 := so e h91; replace h92 := so e h92; replace h93 := so e h93; replace h94 := so e h94; replace h95 := so e h95; replace h96 := so e h96; have h97 := g97; clear g97; clear e
            have Y : (execOp a416.eval o4_22_2).run Try.prog w413 = .ok (.value (.int .i64 z)) w413 := by unfold o4_22_2; go_simp
            refine st_val g4_22_2 rfl (wanted_free rfl) Y fun a418 e => ?_; clear Y
            have g98 := R.at_ e (by decide); replace R := R.put e; replace h2 := so e h2; replace h3 := so e h3; replace h4 := so e h4; replace h5 := so e h5; replace h11 := so e h11; replace h12 := so e h12; replace h14 := so e h14; replace h16 := so e h16; replace h62 := so e h62; replace h63 := so e h63; replace h64 := so e h64; replace h65 := so e h65; replace h66 := so e h66; replace h67 := so e h67; replace h68 := so e h68; replace h82 := so e h82; replace h83 := so e h83; replace h84 := so e h84; replace h85 := so e h85; replace h86 := so e h86; replace h87 := so e h87; replace h88 := so e h88; replace h89 := so e h89; replace h90 := so e h90; replace h91 := so e h91; replace h92 := so e h92; replace h93 := so e h93; replace h94 := so e h94; replace h95 := so e h95; replace h96 := so e h96; replace h97 := so e h97; have h98 := g98; clear g98; clear e
            have Y : (execOp a418.eval o4_22_3).run Try.prog w413 = .ok (.value (.bool false)) w413 := by have hne := HPN.out q (List.mem_of_getElem? hq) z (List.mem_of_getElem? hz); have hnb : (q.1 == z) = false := (by simpa using hne); unfold o4_22_3; go_simp
            refine st_val g4_22_3 rfl (wanted_free rfl) Y fun a420 e => ?_; clear Y
            have g99 := R.at_ e (by decide); replace R := R.put e; replace h2 := so e h2; replace h3 := so e h3; replace h4 := so e h4; replace h5 := so e h5; replace h11 := so e h11; replace h12 := so e h12; replace h14 := so e h14; replace h16 := so e h16; replace h62 := so e h62; replace h63 := so e h63; replace h64 := so e h64; replace h65 := so e h65; replace h66 := so e h66; replace h67 := so e h67; replace h68 := so e h68; replace h82 := so e h82; replace h83 := so e h83; replace h84 := so e h84; replace h85 := so e h85; replace h86 := so e h86; replace h87 := so e h87; replace h88 := so e h88; replace h89 := so e h89; replace h90 := so e h90; replace h91 := so e h91; replace h92 := so e h92; replace h93 := so e h93; replace h94 := so e h94; replace h95 := so e h95; replace h96 := so e h96; replace h97 := so e h97; replace h98 := so e h98; have h99 := g99; clear g99; clear e
            refine st_end ?_
            change (c4_91).wp _ _ _ _
            refine wp_cond_false (x := c4_92) (y := Code.skip) (eval_slot h99) ?_
            refine wp_skip ?_
            change (c4_96).wp _ _ _ _
            change (Code.region 24 O4_24 false).wp _ _ _ _
            refine reg_in (l := [0, 1]) rfl ?_
            have Y : (execOp a420.eval o4_24_0).run Try.prog w413 = .ok (.value (.int .i64 ((n7 : Int) + 1))) w413 := by unfold o4_24_0; go_simp
            refine st_val g4_24_0 rfl (wanted_free rfl) Y fun a422 e => ?_; clear Y
            have g100 := R.at_ e (by decide); replace R := R.put e; replace h2 := so e h2; replace h3 := so e h3; replace h4 := so e h4; replace h5 := so e h5; replace h11 := so e h11; replace h12 := so e h12; replace h14 := so e h14; replace h16 := so e h16; replace h62 := so e h62; replace h63 := so e h63; replace h64 := so e h64; replace h65 := so e h65; replace h66 := so e h66; replace h67 := so e h67; replace h68 := so e h68; replace h82 := so e h82; replace h83 := so e h83; replace h84 := so e h84; replace h85 := so e h85; replace h86 := so e h86; replace h87 := so e h87; replace h88 := so e h88; replace h89 := so e h89; replace h90 := so e h90; replace h91 := so e h91; replace h92 := so e h92; replace h93 := so e h93; replace h94 := so e h94; replace h95 := so e h95; replace h96 := so e h96; replace h97 := so e h97; replace h98 := so e h98; replace h99 := so e h99; have h100 := g100; clear g100; clear e
            have Y : (execOp a422.eval o4_24_1).run Try.prog w413 = .ok (.value (.int .i64 ((n7 : Int) + 1))) w413 := by unfold o4_24_1; go_simp
            refine st_val g4_24_1 rfl (wanted_free rfl) Y fun a424 e => ?_; clear Y
            have g92 := R.at_ e (by decide); replace R := R.put e; replace h2 := so e h2; replace h3 := so e h3; replace h4 := so e h4; replace h5 := so e h5; replace h11 := so e h11; replace h12 := so e h12; replace h14 := so e h14; replace h16 := so e h16; replace h62 := so e h62; replace h63 := so e h63; replace h64 := so e h64; replace h65 := so e h65; replace h66 := so e h66; replace h67 := so e h67; replace h68 := so e h68; replace h82 := so e h82; replace h83 := so e h83; replace h84 := so e h84; replace h85 := so e h85; replace h86 := so e h86; replace h87 := so e h87; replace h88 := so e h88; replace h89 := so e h89; replace h90 := so e h90; replace h91 := so e h91; replace h93 := so e h93; replace h94 := so e h94; replace h95 := so e h95; replace h96 := so e h96; replace h97 := so e h97; replace h98 := so e h98; replace h99 := so e h99; replace h100 := so e h100; clear h92; have h92 := g92; clear g92; clear e
            refine st_end ?_
            exact ⟨_, by omega, n7 + 1, rfl, R, h2, h3, h4, h5, h11, h12, h14, h62, h63, h64, h65, h66, h67, h68, h82, h83, h84, h85, h86, h87, h88, h89, h90, h91, h92, K1, K2, K3, K4, B1, B5, (by omega)⟩


theorem unites_walk {W : World} {t u : Tm} {ta ua : Option Addr} {tc uc : Nat} (hT : TmAt W.heap.size W t ta tc) (hU : TmAt W.heap.size W u ua uc) :
    Calls Try.prog 4 #[tv t ta tc, tv u ua uc] W fun e w' => e = .returned (.bool true) ∧ Keep (fun g => g < W.heap.size) W w' := by
  refine enter_sx Try.func4 body4 rfl (by show (2 : Nat) ≤ 149; decide) fun f0 R hs => ?_
  exact uw R (hs 0 _ rfl) (hs 1 _ rfl) (Keep.refl _ W) (Lib.hid hT) (Lib.hid hU)
end Go.Proofs.Ytaaodgkbopficaa
