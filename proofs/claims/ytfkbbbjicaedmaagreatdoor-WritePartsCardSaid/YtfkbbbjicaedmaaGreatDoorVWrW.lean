/-
  WriteParts: a compound term's text is its name's and its arguments' texts; a list's its items'. Condition: the listed variables.
-/
import Derived.Test.YtfkbbbjicaedmaaGreatDoorVMB
namespace Go.Proofs.YtfkbbbjicaedmaaGreatDoor
open Go.RowKit Go.Maps
set_option linter.unusedVariables false
set_option linter.unusedSimpArgs false
abbrev partT (nm : List UInt8) (ps : List TP) : Tm := .node 4 nm 0 (ps.map (·.1))
abbrev lsA7 (ps : List TP) : Tm := lsT (ps.map (·.1)) (.node 3 [91, 93] 0 [])
abbrev lsN7 (ps : List TP) : Tm := lsT (ps.map (·.1)) (.node 2 [] 7 [])
def xsX (ps : List TP) : List (List UInt8) := (ps.map (·.1)).map fun x => x.tree.tx bareC
theorem tv_sl (nm : List UInt8) (ps : List TP) (sa : Option Addr) (sc : Nat) : tv (partT nm ps) sa sc = .agg #[.int .i64 4, .string (str nm), .int .i64 0, .slice sa ps.length sc] := by
  show Value.agg #[_, _, _, .slice sa (ps.map (·.1)).length sc] = _
  rw [List.length_map]
  rfl
theorem xs_at {ps : List TP} {j : Nat} {p : TP} (h : ps[j]? = some p) : (xsX ps)[j]? = some (p.1.tree.tx bareC) := by
  unfold xsX
  rw [List.getElem?_map, List.getElem?_map, h]
  rfl
theorem xs_all {ps : List TP} {j : Nat} (h : j = ps.length) : (xsX ps).take j = xsX ps := by
  rw [List.take_of_length_le]
  unfold xsX
  rw [List.length_map, List.length_map, h]
  exact Nat.le_refl _
theorem len_comp {nm : List UInt8} {ps : List TP} {B : Nat} {w : World} {a : Option Addr} {c : Nat} (hT : TmAt B w (partT nm ps) a c) (h : (txV (partT nm ps)).2 = 0) (hd : ¬ (nm = [46] ∧ ps.length = 2)) : (∀ j, j ≤ ps.length → (joinX ((xsX ps).take j)).length ≤ 400000) ∧ (funX bareC nm).length ≤ 400000 := by
  have h1 := tx_short hT (txV_good h).1 bareC
  rw [← (txV_good h).2.2, comp_is h (by rw [List.length_map]; exact hd)] at h1
  simp only [List.length_append, List.length_cons, List.length_nil] at h1
  refine ⟨fun j hj => ?_, by omega⟩
  have h2 := join_len (xs := xsX ps) (j := j) (by unfold xsX; rw [List.length_map, List.length_map]; exact hj)
  have h3 : (joinX (xsX ps)).length = (joinX ((ps.map (·.1)).map fun x => x.tree.tx bareC)).length := rfl
  omega
def oz6_0_0 : Oper := ⟨some 4, Op.assign (Operand.const (Value.bool false)), 4, "law.go:131", #[], none⟩
def Oz6_0 : Array Oper := List.toArray (oz6_0_0 :: [])
theorem gz6_0_0 : Oz6_0[0]? = some oz6_0_0 := rfl
def cz6_1 : Code := Code.region 0 Oz6_0 false
def oz6_1_0 : Oper := ⟨some 21, Op.call { callee := Callee.value (Operand.func 7), args := #[], argTypes := #[] }, 4, "law.go:132", #[], none⟩
def oz6_1_1 : Oper := ⟨some 22, Op.unOp Go.UnOp.not 4 (Operand.tmp 21), 4, "law.go:132", #[ed_ 0], none⟩
def Oz6_1 : Array Oper := List.toArray (oz6_1_0 :: oz6_1_1 :: [])
theorem gz6_1_0 : Oz6_1[0]? = some oz6_1_0 := rfl
theorem gz6_1_1 : Oz6_1[1]? = some oz6_1_1 := rfl
def cz6_4 : Code := Code.region 1 Oz6_1 false
def oz6_2_0 : Oper := ⟨some 4, Op.assign (Operand.const (Value.bool false)), 4, "law.go:133", #[], none⟩
def Oz6_2 : Array Oper := List.toArray (oz6_2_0 :: [])
def cz6_7 : Code := Code.region 2 Oz6_2 false
def cz6_6 : Code := Code.seq cz6_7 Code.ret
def cz6_5 : Code := Code.cond (Operand.tmp 22) cz6_6 Code.skip
def cz6_3 : Code := Code.seq cz6_4 cz6_5
def oz6_3_0 : Oper := ⟨some 23, Op.move (Operand.tmp 0), 9, "law.go:135", #[], none⟩
def oz6_3_1 : Oper := ⟨some 24, Op.move (Operand.tmp 1), 22, "law.go:135", #[], none⟩
def oz6_3_2 : Oper := ⟨some 25, Op.build 24 #[(0, Operand.const (Value.int IntKind.i64 4)), (1, Operand.tmp 23), (3, Operand.tmp 24)], 24, "law.go:135", #[ed_ 0, ed_ 1], none⟩
def oz6_3_3 : Oper := ⟨some 5, Op.alloc 24, 0, "law.go:135", #[], none⟩
def oz6_3_4 : Oper := ⟨none, Op.store 24 (Operand.tmp 5) (Operand.tmp 25), 0, "law.go:135", #[ed_ 3, ed_ 2, ep_ 0, ep_ 1, ep_ 2, ep_ 3], none⟩
def Oz6_3 : Array Oper := List.toArray (oz6_3_0 :: oz6_3_1 :: oz6_3_2 :: oz6_3_3 :: oz6_3_4 :: [])
theorem gz6_3_0 : Oz6_3[0]? = some oz6_3_0 := rfl
theorem gz6_3_1 : Oz6_3[1]? = some oz6_3_1 := rfl
theorem gz6_3_2 : Oz6_3[2]? = some oz6_3_2 := rfl
theorem gz6_3_3 : Oz6_3[3]? = some oz6_3_3 := rfl
theorem gz6_3_4 : Oz6_3[4]? = some oz6_3_4 := rfl
def cz6_11 : Code := Code.region 3 Oz6_3 false
def oz6_4_0 : Oper := ⟨some 27, Op.load 24 (Operand.tmp 5), 24, "law.go:136", #[], none⟩
def oz6_4_1 : Oper := ⟨some 28, Op.call { callee := Callee.value (Operand.func 8), args := #[Operand.tmp 27], argTypes := #[24] }, 27, "law.go:136", #[ed_ 0], none⟩
def oz6_4_2 : Oper := ⟨some 26, Op.move (Operand.tmp 28), 27, "law.go:136", #[ed_ 1], none⟩
def oz6_4_3 : Oper := ⟨some 29, Op.extract (Operand.tmp 26) 0, 9, "law.go:136", #[ed_ 2], none⟩
def oz6_4_4 : Oper := ⟨some 30, Op.extract (Operand.tmp 26) 1, 26, "law.go:136", #[ed_ 2, { on := 5, ground := Go.Ground.gcOnly Go.Departure.lateStores }], none⟩
def oz6_4_5 : Oper := ⟨some 6, Op.assign (Operand.tmp 29), 9, "law.go:136", #[ed_ 3, ec_ 1, ep_ 0, ep_ 1, ep_ 2, ep_ 3, { on := 4, ground := Go.Ground.textOnly Go.Departure.lateStores }], none⟩
def oz6_4_6 : Oper := ⟨some 7, Op.assign (Operand.tmp 30), 26, "law.go:136", #[ed_ 4, ec_ 5, ep_ 0, ep_ 1, ep_ 2, ep_ 3, ep_ 4, ep_ 5], none⟩
def Oz6_4 : Array Oper := List.toArray (oz6_4_0 :: oz6_4_1 :: oz6_4_2 :: oz6_4_3 :: oz6_4_4 :: oz6_4_5 :: oz6_4_6 :: [])
theorem gz6_4_0 : Oz6_4[0]? = some oz6_4_0 := rfl
theorem gz6_4_1 : Oz6_4[1]? = some oz6_4_1 := rfl
theorem gz6_4_2 : Oz6_4[2]? = some oz6_4_2 := rfl
theorem gz6_4_3 : Oz6_4[3]? = some oz6_4_3 := rfl
theorem gz6_4_4 : Oz6_4[4]? = some oz6_4_4 := rfl
theorem gz6_4_5 : Oz6_4[5]? = some oz6_4_5 := rfl
theorem gz6_4_6 : Oz6_4[6]? = some oz6_4_6 := rfl
def cz6_13 : Code := Code.region 4 Oz6_4 false
def oz6_5_0 : Oper := ⟨some 31, Op.move (Operand.tmp 7), 26, "law.go:137", #[], none⟩
def oz6_5_1 : Oper := ⟨some 32, Op.binOp Go.BinOp.neq 26 (Operand.tmp 31) (Operand.const (Value.int IntKind.i64 0)) 26, 4, "law.go:137", #[ed_ 0], none⟩
def oz6_5_2 : Oper := ⟨some 33, Op.move (Operand.tmp 32), 4, "law.go:137", #[ed_ 1], none⟩
def oz6_5_3 : Oper := ⟨some 34, Op.move (Operand.tmp 0), 9, "law.go:137", #[eg_ 2], some (2, false)⟩
def oz6_5_4 : Oper := ⟨some 35, Op.binOp Go.BinOp.eql 9 (Operand.tmp 34) (Operand.const (Value.string { data := #[46] })) 9, 4, "law.go:137", #[ed_ 3, eg_ 2], some (2, false)⟩
def oz6_5_5 : Oper := ⟨some 36, Op.move (Operand.tmp 35), 4, "law.go:137", #[ed_ 4, ec_ 2, eg_ 2], some (2, false)⟩
def oz6_5_6 : Oper := ⟨some 37, Op.move (Operand.tmp 1), 22, "law.go:137", #[eg_ 5], some (5, true)⟩
def oz6_5_7 : Oper := ⟨some 38, Op.call { callee := Callee.builtin Go.Builtin.len, args := #[Operand.tmp 37], argTypes := #[22] }, 3, "law.go:137", #[ed_ 6, eg_ 5], some (5, true)⟩
def oz6_5_8 : Oper := ⟨some 39, Op.binOp Go.BinOp.eql 3 (Operand.tmp 38) (Operand.const (Value.int IntKind.i64 2)) 3, 4, "law.go:137", #[ed_ 7, eg_ 5], some (5, true)⟩
def oz6_5_9 : Oper := ⟨some 40, Op.pick (Operand.tmp 36) (Operand.tmp 39) (Operand.const (Value.bool false)), 4, "law.go:137", #[ed_ 5, ed_ 8, eg_ 2], some (2, false)⟩
def oz6_5_10 : Oper := ⟨some 41, Op.pick (Operand.tmp 33) (Operand.const (Value.bool true)) (Operand.tmp 40), 4, "law.go:137", #[ed_ 2, ed_ 9], none⟩
def oz6_5_11 : Oper := ⟨some 42, Op.move (Operand.tmp 41), 4, "law.go:137", #[ed_ 10, ec_ 5], none⟩
def oz6_5_12 : Oper := ⟨some 43, Op.move (Operand.tmp 0), 9, "law.go:137", #[eg_ 11], some (11, false)⟩
def oz6_5_13 : Oper := ⟨some 44, Op.binOp Go.BinOp.eql 9 (Operand.tmp 43) (Operand.const (Value.string { data := #[91, 93] })) 9, 4, "law.go:137", #[ed_ 12, eg_ 11], some (11, false)⟩
def oz6_5_14 : Oper := ⟨some 45, Op.pick (Operand.tmp 42) (Operand.const (Value.bool true)) (Operand.tmp 44), 4, "law.go:137", #[ed_ 11, ed_ 13], none⟩
def oz6_5_15 : Oper := ⟨some 46, Op.move (Operand.tmp 45), 4, "law.go:137", #[ed_ 14, ec_ 11], none⟩
def oz6_5_16 : Oper := ⟨some 47, Op.move (Operand.tmp 0), 9, "law.go:137", #[eg_ 15], some (15, false)⟩
def oz6_5_17 : Oper := ⟨some 48, Op.binOp Go.BinOp.eql 9 (Operand.tmp 47) (Operand.const (Value.string { data := #[123, 125] })) 9, 4, "law.go:137", #[ed_ 16, eg_ 15], some (15, false)⟩
def oz6_5_18 : Oper := ⟨some 49, Op.pick (Operand.tmp 46) (Operand.const (Value.bool true)) (Operand.tmp 48), 4, "law.go:137", #[ed_ 15, ed_ 17], none⟩
def Oz6_5 : Array Oper := List.toArray (oz6_5_0 :: oz6_5_1 :: oz6_5_2 :: oz6_5_3 :: oz6_5_4 :: oz6_5_5 :: oz6_5_6 :: oz6_5_7 :: oz6_5_8 :: oz6_5_9 :: oz6_5_10 :: oz6_5_11 :: oz6_5_12 :: oz6_5_13 :: oz6_5_14 :: oz6_5_15 :: oz6_5_16 :: oz6_5_17 :: oz6_5_18 :: [])
theorem gz6_5_0 : Oz6_5[0]? = some oz6_5_0 := rfl
theorem gz6_5_1 : Oz6_5[1]? = some oz6_5_1 := rfl
theorem gz6_5_2 : Oz6_5[2]? = some oz6_5_2 := rfl
theorem gz6_5_3 : Oz6_5[3]? = some oz6_5_3 := rfl
theorem gz6_5_4 : Oz6_5[4]? = some oz6_5_4 := rfl
theorem gz6_5_5 : Oz6_5[5]? = some oz6_5_5 := rfl
theorem gz6_5_6 : Oz6_5[6]? = some oz6_5_6 := rfl
theorem gz6_5_7 : Oz6_5[7]? = some oz6_5_7 := rfl
theorem gz6_5_8 : Oz6_5[8]? = some oz6_5_8 := rfl
theorem gz6_5_9 : Oz6_5[9]? = some oz6_5_9 := rfl
theorem gz6_5_10 : Oz6_5[10]? = some oz6_5_10 := rfl
theorem gz6_5_11 : Oz6_5[11]? = some oz6_5_11 := rfl
theorem gz6_5_12 : Oz6_5[12]? = some oz6_5_12 := rfl
theorem gz6_5_13 : Oz6_5[13]? = some oz6_5_13 := rfl
theorem gz6_5_14 : Oz6_5[14]? = some oz6_5_14 := rfl
theorem gz6_5_15 : Oz6_5[15]? = some oz6_5_15 := rfl
theorem gz6_5_16 : Oz6_5[16]? = some oz6_5_16 := rfl
theorem gz6_5_17 : Oz6_5[17]? = some oz6_5_17 := rfl
theorem gz6_5_18 : Oz6_5[18]? = some oz6_5_18 := rfl
def cz6_16 : Code := Code.region 5 Oz6_5 false
def oz6_6_0 : Oper := ⟨some 50, Op.move (Operand.tmp 7), 26, "law.go:138", #[], none⟩
def oz6_6_1 : Oper := ⟨some 51, Op.binOp Go.BinOp.eql 26 (Operand.tmp 50) (Operand.const (Value.int IntKind.i64 0)) 26, 4, "law.go:138", #[ed_ 0], none⟩
def oz6_6_2 : Oper := ⟨some 52, Op.move (Operand.tmp 51), 4, "law.go:138", #[ed_ 1], none⟩
def oz6_6_3 : Oper := ⟨some 53, Op.move (Operand.tmp 6), 9, "law.go:138", #[eg_ 2], some (2, false)⟩
def oz6_6_4 : Oper := ⟨some 54, Op.binOp Go.BinOp.eql 9 (Operand.tmp 53) (Operand.const (Value.string { data := #[] })) 9, 4, "law.go:138", #[ed_ 3, eg_ 2], some (2, false)⟩
def oz6_6_5 : Oper := ⟨some 55, Op.pick (Operand.tmp 52) (Operand.const (Value.bool true)) (Operand.tmp 54), 4, "law.go:138", #[ed_ 2, ed_ 4], none⟩
def oz6_6_6 : Oper := ⟨some 4, Op.assign (Operand.tmp 55), 4, "law.go:138", #[ed_ 5, ec_ 2, ep_ 0, ep_ 1, ep_ 2, ep_ 3, ep_ 4, ep_ 5], none⟩
def Oz6_6 : Array Oper := List.toArray (oz6_6_0 :: oz6_6_1 :: oz6_6_2 :: oz6_6_3 :: oz6_6_4 :: oz6_6_5 :: oz6_6_6 :: [])
theorem gz6_6_0 : Oz6_6[0]? = some oz6_6_0 := rfl
theorem gz6_6_1 : Oz6_6[1]? = some oz6_6_1 := rfl
theorem gz6_6_2 : Oz6_6[2]? = some oz6_6_2 := rfl
theorem gz6_6_3 : Oz6_6[3]? = some oz6_6_3 := rfl
theorem gz6_6_4 : Oz6_6[4]? = some oz6_6_4 := rfl
theorem gz6_6_5 : Oz6_6[5]? = some oz6_6_5 := rfl
theorem gz6_6_6 : Oz6_6[6]? = some oz6_6_6 := rfl
def cz6_19 : Code := Code.region 6 Oz6_6 false
def cz6_18 : Code := Code.seq cz6_19 Code.ret
def cz6_17 : Code := Code.cond (Operand.tmp 49) cz6_18 Code.skip
def cz6_15 : Code := Code.seq cz6_16 cz6_17
def oz6_7_0 : Oper := ⟨some 8, Op.assign (Operand.const (Value.string { data := #[] })), 9, "law.go:140", #[], none⟩
def Oz6_7 : Array Oper := List.toArray (oz6_7_0 :: [])
theorem gz6_7_0 : Oz6_7[0]? = some oz6_7_0 := rfl
def cz6_23 : Code := Code.region 7 Oz6_7 false
def oz6_8_0 : Oper := ⟨some 9, Op.assign (Operand.const (Value.string { data := #[] })), 9, "law.go:141", #[], none⟩
def Oz6_8 : Array Oper := List.toArray (oz6_8_0 :: [])
theorem gz6_8_0 : Oz6_8[0]? = some oz6_8_0 := rfl
def cz6_25 : Code := Code.region 8 Oz6_8 false
def oz6_9_0 : Oper := ⟨some 56, Op.move (Operand.tmp 1), 22, "law.go:142", #[], none⟩
def oz6_9_1 : Oper := ⟨some 57, Op.call { callee := Callee.builtin Go.Builtin.len, args := #[Operand.tmp 56], argTypes := #[22] }, 3, "law.go:142", #[ed_ 0], none⟩
def oz6_9_2 : Oper := ⟨some 58, Op.move (Operand.const (Value.int IntKind.i64 0)), 3, "law.go:142", #[], none⟩
def Oz6_9 : Array Oper := List.toArray (oz6_9_0 :: oz6_9_1 :: oz6_9_2 :: [])
theorem gz6_9_0 : Oz6_9[0]? = some oz6_9_0 := rfl
theorem gz6_9_1 : Oz6_9[1]? = some oz6_9_1 := rfl
theorem gz6_9_2 : Oz6_9[2]? = some oz6_9_2 := rfl
def cz6_28 : Code := Code.region 9 Oz6_9 false
def oz6_10_0 : Oper := ⟨some 59, Op.binOp Go.BinOp.lss 3 (Operand.tmp 58) (Operand.tmp 57) 3, 0, "law.go:142", #[], none⟩
def Oz6_10 : Array Oper := List.toArray (oz6_10_0 :: [])
theorem gz6_10_0 : Oz6_10[0]? = some oz6_10_0 := rfl
def cz6_32 : Code := Code.region 10 Oz6_10 false
def cz6_36 : Code := Code.exit 0
def cz6_34 : Code := Code.cond (Operand.tmp 59) Code.skip cz6_36
def oz6_11_0 : Oper := ⟨some 60, Op.move (Operand.tmp 58), 3, "law.go:142", #[], none⟩
def oz6_11_1 : Oper := ⟨some 61, Op.indexAddr 22 (Operand.tmp 56) (Operand.tmp 58), 0, "law.go:142", #[], none⟩
def oz6_11_2 : Oper := ⟨some 62, Op.load 24 (Operand.tmp 61), 24, "law.go:142", #[ed_ 1], none⟩
def oz6_11_3 : Oper := ⟨some 11, Op.alloc 24, 0, "law.go:142", #[], none⟩
def oz6_11_4 : Oper := ⟨some 10, Op.assign (Operand.tmp 60), 3, "law.go:142", #[ed_ 0, ep_ 0, ep_ 1, ep_ 2, ep_ 3], none⟩
def oz6_11_5 : Oper := ⟨none, Op.store 24 (Operand.tmp 11) (Operand.tmp 62), 0, "law.go:142", #[ed_ 3, ed_ 2, ec_ 4, ep_ 0, ep_ 1, ep_ 2, ep_ 3, ep_ 4], none⟩
def Oz6_11 : Array Oper := List.toArray (oz6_11_0 :: oz6_11_1 :: oz6_11_2 :: oz6_11_3 :: oz6_11_4 :: oz6_11_5 :: [])
theorem gz6_11_0 : Oz6_11[0]? = some oz6_11_0 := rfl
theorem gz6_11_1 : Oz6_11[1]? = some oz6_11_1 := rfl
theorem gz6_11_2 : Oz6_11[2]? = some oz6_11_2 := rfl
theorem gz6_11_3 : Oz6_11[3]? = some oz6_11_3 := rfl
theorem gz6_11_4 : Oz6_11[4]? = some oz6_11_4 := rfl
theorem gz6_11_5 : Oz6_11[5]? = some oz6_11_5 := rfl
def cz6_40 : Code := Code.region 11 Oz6_11 false
def oz6_12_0 : Oper := ⟨some 64, Op.load 24 (Operand.tmp 11), 24, "law.go:143", #[], none⟩
def oz6_12_1 : Oper := ⟨some 65, Op.call { callee := Callee.value (Operand.func 8), args := #[Operand.tmp 64], argTypes := #[24] }, 27, "law.go:143", #[ed_ 0], none⟩
def oz6_12_2 : Oper := ⟨some 63, Op.move (Operand.tmp 65), 27, "law.go:143", #[ed_ 1], none⟩
def oz6_12_3 : Oper := ⟨some 66, Op.extract (Operand.tmp 63) 0, 9, "law.go:143", #[ed_ 2], none⟩
def oz6_12_4 : Oper := ⟨some 67, Op.extract (Operand.tmp 63) 1, 26, "law.go:143", #[ed_ 2, { on := 5, ground := Go.Ground.gcOnly Go.Departure.lateStores }], none⟩
def oz6_12_5 : Oper := ⟨some 12, Op.assign (Operand.tmp 66), 9, "law.go:143", #[ed_ 3, ec_ 1, ep_ 0, ep_ 1, ep_ 2, ep_ 3, { on := 4, ground := Go.Ground.textOnly Go.Departure.lateStores }], none⟩
def oz6_12_6 : Oper := ⟨some 13, Op.assign (Operand.tmp 67), 26, "law.go:143", #[ed_ 4, ec_ 5, ep_ 0, ep_ 1, ep_ 2, ep_ 3, ep_ 4, ep_ 5], none⟩
def Oz6_12 : Array Oper := List.toArray (oz6_12_0 :: oz6_12_1 :: oz6_12_2 :: oz6_12_3 :: oz6_12_4 :: oz6_12_5 :: oz6_12_6 :: [])
theorem gz6_12_0 : Oz6_12[0]? = some oz6_12_0 := rfl
theorem gz6_12_1 : Oz6_12[1]? = some oz6_12_1 := rfl
theorem gz6_12_2 : Oz6_12[2]? = some oz6_12_2 := rfl
theorem gz6_12_3 : Oz6_12[3]? = some oz6_12_3 := rfl
theorem gz6_12_4 : Oz6_12[4]? = some oz6_12_4 := rfl
theorem gz6_12_5 : Oz6_12[5]? = some oz6_12_5 := rfl
theorem gz6_12_6 : Oz6_12[6]? = some oz6_12_6 := rfl
def cz6_42 : Code := Code.region 12 Oz6_12 false
def oz6_13_0 : Oper := ⟨some 68, Op.move (Operand.tmp 13), 26, "law.go:144", #[], none⟩
def oz6_13_1 : Oper := ⟨some 69, Op.binOp Go.BinOp.neq 26 (Operand.tmp 68) (Operand.const (Value.int IntKind.i64 0)) 26, 4, "law.go:144", #[ed_ 0], none⟩
def Oz6_13 : Array Oper := List.toArray (oz6_13_0 :: oz6_13_1 :: [])
theorem gz6_13_0 : Oz6_13[0]? = some oz6_13_0 := rfl
theorem gz6_13_1 : Oz6_13[1]? = some oz6_13_1 := rfl
def cz6_45 : Code := Code.region 13 Oz6_13 false
def oz6_14_0 : Oper := ⟨some 4, Op.assign (Operand.const (Value.bool false)), 4, "law.go:145", #[], none⟩
def Oz6_14 : Array Oper := List.toArray (oz6_14_0 :: [])
def cz6_48 : Code := Code.region 14 Oz6_14 false
def cz6_47 : Code := Code.seq cz6_48 Code.ret
def cz6_46 : Code := Code.cond (Operand.tmp 69) cz6_47 Code.skip
def cz6_44 : Code := Code.seq cz6_45 cz6_46
def oz6_15_0 : Oper := ⟨some 70, Op.move (Operand.tmp 10), 3, "law.go:147", #[], none⟩
def oz6_15_1 : Oper := ⟨some 71, Op.binOp Go.BinOp.gtr 3 (Operand.tmp 70) (Operand.const (Value.int IntKind.i64 0)) 3, 4, "law.go:147", #[ed_ 0], none⟩
def Oz6_15 : Array Oper := List.toArray (oz6_15_0 :: oz6_15_1 :: [])
theorem gz6_15_0 : Oz6_15[0]? = some oz6_15_0 := rfl
theorem gz6_15_1 : Oz6_15[1]? = some oz6_15_1 := rfl
def cz6_53 : Code := Code.region 15 Oz6_15 false
def oz6_16_0 : Oper := ⟨some 72, Op.move (Operand.tmp 8), 9, "law.go:148", #[], none⟩
def oz6_16_1 : Oper := ⟨some 73, Op.binOp Go.BinOp.add 9 (Operand.tmp 72) (Operand.const (Value.string { data := #[44] })) 9, 9, "law.go:148", #[ed_ 0], none⟩
def oz6_16_2 : Oper := ⟨some 8, Op.assign (Operand.tmp 73), 9, "law.go:148", #[ed_ 1, ep_ 0, ep_ 1], none⟩
def Oz6_16 : Array Oper := List.toArray (oz6_16_0 :: oz6_16_1 :: oz6_16_2 :: [])
theorem gz6_16_0 : Oz6_16[0]? = some oz6_16_0 := rfl
theorem gz6_16_1 : Oz6_16[1]? = some oz6_16_1 := rfl
theorem gz6_16_2 : Oz6_16[2]? = some oz6_16_2 := rfl
def cz6_56 : Code := Code.region 16 Oz6_16 false
def oz6_17_0 : Oper := ⟨some 74, Op.move (Operand.tmp 9), 9, "law.go:149", #[], none⟩
def oz6_17_1 : Oper := ⟨some 75, Op.binOp Go.BinOp.add 9 (Operand.tmp 74) (Operand.const (Value.string { data := #[44] })) 9, 9, "law.go:149", #[ed_ 0], none⟩
def oz6_17_2 : Oper := ⟨some 9, Op.assign (Operand.tmp 75), 9, "law.go:149", #[ed_ 1, ep_ 0, ep_ 1], none⟩
def Oz6_17 : Array Oper := List.toArray (oz6_17_0 :: oz6_17_1 :: oz6_17_2 :: [])
theorem gz6_17_0 : Oz6_17[0]? = some oz6_17_0 := rfl
theorem gz6_17_1 : Oz6_17[1]? = some oz6_17_1 := rfl
theorem gz6_17_2 : Oz6_17[2]? = some oz6_17_2 := rfl
def cz6_57 : Code := Code.region 17 Oz6_17 false
def cz6_55 : Code := Code.seq cz6_56 cz6_57
def cz6_54 : Code := Code.cond (Operand.tmp 71) cz6_55 Code.skip
def cz6_52 : Code := Code.seq cz6_53 cz6_54
def oz6_18_0 : Oper := ⟨some 76, Op.move (Operand.tmp 8), 9, "law.go:151", #[], none⟩
def oz6_18_1 : Oper := ⟨some 77, Op.move (Operand.tmp 12), 9, "law.go:151", #[], none⟩
def oz6_18_2 : Oper := ⟨some 78, Op.binOp Go.BinOp.add 9 (Operand.tmp 76) (Operand.tmp 77) 9, 9, "law.go:151", #[ed_ 0, ed_ 1], none⟩
def oz6_18_3 : Oper := ⟨some 8, Op.assign (Operand.tmp 78), 9, "law.go:151", #[ed_ 2, ep_ 0, ep_ 1, ep_ 2], none⟩
def Oz6_18 : Array Oper := List.toArray (oz6_18_0 :: oz6_18_1 :: oz6_18_2 :: oz6_18_3 :: [])
theorem gz6_18_0 : Oz6_18[0]? = some oz6_18_0 := rfl
theorem gz6_18_1 : Oz6_18[1]? = some oz6_18_1 := rfl
theorem gz6_18_2 : Oz6_18[2]? = some oz6_18_2 := rfl
theorem gz6_18_3 : Oz6_18[3]? = some oz6_18_3 := rfl
def cz6_60 : Code := Code.region 18 Oz6_18 false
def oz6_19_0 : Oper := ⟨some 79, Op.move (Operand.tmp 9), 9, "law.go:152", #[], none⟩
def oz6_19_1 : Oper := ⟨some 80, Op.move (Operand.tmp 12), 9, "law.go:152", #[], none⟩
def oz6_19_2 : Oper := ⟨some 81, Op.binOp Go.BinOp.add 9 (Operand.tmp 79) (Operand.tmp 80) 9, 9, "law.go:152", #[ed_ 0, ed_ 1], none⟩
def oz6_19_3 : Oper := ⟨some 9, Op.assign (Operand.tmp 81), 9, "law.go:152", #[ed_ 2, ep_ 0, ep_ 1, ep_ 2], none⟩
def Oz6_19 : Array Oper := List.toArray (oz6_19_0 :: oz6_19_1 :: oz6_19_2 :: oz6_19_3 :: [])
theorem gz6_19_0 : Oz6_19[0]? = some oz6_19_0 := rfl
theorem gz6_19_1 : Oz6_19[1]? = some oz6_19_1 := rfl
theorem gz6_19_2 : Oz6_19[2]? = some oz6_19_2 := rfl
theorem gz6_19_3 : Oz6_19[3]? = some oz6_19_3 := rfl
def cz6_61 : Code := Code.region 19 Oz6_19 false
def cz6_59 : Code := Code.seq cz6_60 cz6_61
def cz6_51 : Code := Code.seq cz6_52 cz6_59
def cz6_43 : Code := Code.seq cz6_44 cz6_51
def cz6_41 : Code := Code.seq cz6_42 cz6_43
def cz6_39 : Code := Code.seq cz6_40 cz6_41
def cz6_38 : Code := Code.block 1 cz6_39
def oz6_20_0 : Oper := ⟨some 82, Op.binOp Go.BinOp.add 3 (Operand.tmp 58) (Operand.const (Value.int IntKind.i64 1)) 3, 3, "law.go:142", #[], none⟩
def oz6_20_1 : Oper := ⟨some 58, Op.move (Operand.tmp 82), 3, "law.go:142", #[ed_ 0], none⟩
def Oz6_20 : Array Oper := List.toArray (oz6_20_0 :: oz6_20_1 :: [])
theorem gz6_20_0 : Oz6_20[0]? = some oz6_20_0 := rfl
theorem gz6_20_1 : Oz6_20[1]? = some oz6_20_1 := rfl
def cz6_62 : Code := Code.region 20 Oz6_20 false
def cz6_37 : Code := Code.seq cz6_38 cz6_62
def cz6_33 : Code := Code.seq cz6_34 cz6_37
def cz6_31 : Code := Code.seq cz6_32 cz6_33
def cz6_30 : Code := Code.loop cz6_31
def cz6_29 : Code := Code.block 0 cz6_30
def cz6_27 : Code := Code.seq cz6_28 cz6_29
def oz6_21_0 : Oper := ⟨some 84, Op.move (Operand.tmp 0), 9, "law.go:154", #[], none⟩
def oz6_21_1 : Oper := ⟨some 85, Op.call { callee := Callee.value (Operand.func 12), args := #[Operand.tmp 84], argTypes := #[9] }, 27, "law.go:154", #[ed_ 0], none⟩
def oz6_21_2 : Oper := ⟨some 83, Op.move (Operand.tmp 85), 27, "law.go:154", #[ed_ 1], none⟩
def oz6_21_3 : Oper := ⟨some 86, Op.extract (Operand.tmp 83) 0, 9, "law.go:154", #[ed_ 2], none⟩
def oz6_21_4 : Oper := ⟨some 87, Op.extract (Operand.tmp 83) 1, 26, "law.go:154", #[ed_ 2, { on := 5, ground := Go.Ground.gcOnly Go.Departure.lateStores }], none⟩
def oz6_21_5 : Oper := ⟨some 14, Op.assign (Operand.tmp 86), 9, "law.go:154", #[ed_ 3, ec_ 1, ep_ 0, ep_ 1, ep_ 2, ep_ 3, { on := 4, ground := Go.Ground.textOnly Go.Departure.lateStores }], none⟩
def oz6_21_6 : Oper := ⟨some 15, Op.assign (Operand.tmp 87), 26, "law.go:154", #[ed_ 4, ec_ 5, ep_ 0, ep_ 1, ep_ 2, ep_ 3, ep_ 4, ep_ 5], none⟩
def Oz6_21 : Array Oper := List.toArray (oz6_21_0 :: oz6_21_1 :: oz6_21_2 :: oz6_21_3 :: oz6_21_4 :: oz6_21_5 :: oz6_21_6 :: [])
theorem gz6_21_0 : Oz6_21[0]? = some oz6_21_0 := rfl
theorem gz6_21_1 : Oz6_21[1]? = some oz6_21_1 := rfl
theorem gz6_21_2 : Oz6_21[2]? = some oz6_21_2 := rfl
theorem gz6_21_3 : Oz6_21[3]? = some oz6_21_3 := rfl
theorem gz6_21_4 : Oz6_21[4]? = some oz6_21_4 := rfl
theorem gz6_21_5 : Oz6_21[5]? = some oz6_21_5 := rfl
theorem gz6_21_6 : Oz6_21[6]? = some oz6_21_6 := rfl
def cz6_64 : Code := Code.region 21 Oz6_21 false
def oz6_22_0 : Oper := ⟨some 88, Op.move (Operand.tmp 15), 26, "law.go:155", #[], none⟩
def oz6_22_1 : Oper := ⟨some 89, Op.binOp Go.BinOp.neq 26 (Operand.tmp 88) (Operand.const (Value.int IntKind.i64 0)) 26, 4, "law.go:155", #[ed_ 0], none⟩
def oz6_22_2 : Oper := ⟨some 90, Op.move (Operand.tmp 89), 4, "law.go:155", #[ed_ 1], none⟩
def oz6_22_3 : Oper := ⟨some 91, Op.move (Operand.tmp 6), 9, "law.go:155", #[eg_ 2], some (2, false)⟩
def oz6_22_4 : Oper := ⟨some 92, Op.move (Operand.tmp 14), 9, "law.go:155", #[eg_ 2], some (2, false)⟩
def oz6_22_5 : Oper := ⟨some 93, Op.binOp Go.BinOp.add 9 (Operand.tmp 92) (Operand.const (Value.string { data := #[40] })) 9, 9, "law.go:155", #[ed_ 4, eg_ 2], some (2, false)⟩
def oz6_22_6 : Oper := ⟨some 94, Op.move (Operand.tmp 8), 9, "law.go:155", #[eg_ 2], some (2, false)⟩
def oz6_22_7 : Oper := ⟨some 95, Op.binOp Go.BinOp.add 9 (Operand.tmp 93) (Operand.tmp 94) 9, 9, "law.go:155", #[ed_ 5, ed_ 6, eg_ 2], some (2, false)⟩
def oz6_22_8 : Oper := ⟨some 96, Op.binOp Go.BinOp.add 9 (Operand.tmp 95) (Operand.const (Value.string { data := #[41] })) 9, 9, "law.go:155", #[ed_ 7, eg_ 2], some (2, false)⟩
def oz6_22_9 : Oper := ⟨some 97, Op.binOp Go.BinOp.neq 9 (Operand.tmp 91) (Operand.tmp 96) 9, 4, "law.go:155", #[ed_ 3, ed_ 8, eg_ 2], some (2, false)⟩
def oz6_22_10 : Oper := ⟨some 98, Op.pick (Operand.tmp 90) (Operand.const (Value.bool true)) (Operand.tmp 97), 4, "law.go:155", #[ed_ 2, ed_ 9], none⟩
def Oz6_22 : Array Oper := List.toArray (oz6_22_0 :: oz6_22_1 :: oz6_22_2 :: oz6_22_3 :: oz6_22_4 :: oz6_22_5 :: oz6_22_6 :: oz6_22_7 :: oz6_22_8 :: oz6_22_9 :: oz6_22_10 :: [])
theorem gz6_22_0 : Oz6_22[0]? = some oz6_22_0 := rfl
theorem gz6_22_1 : Oz6_22[1]? = some oz6_22_1 := rfl
theorem gz6_22_2 : Oz6_22[2]? = some oz6_22_2 := rfl
theorem gz6_22_3 : Oz6_22[3]? = some oz6_22_3 := rfl
theorem gz6_22_4 : Oz6_22[4]? = some oz6_22_4 := rfl
theorem gz6_22_5 : Oz6_22[5]? = some oz6_22_5 := rfl
theorem gz6_22_6 : Oz6_22[6]? = some oz6_22_6 := rfl
theorem gz6_22_7 : Oz6_22[7]? = some oz6_22_7 := rfl
theorem gz6_22_8 : Oz6_22[8]? = some oz6_22_8 := rfl
theorem gz6_22_9 : Oz6_22[9]? = some oz6_22_9 := rfl
theorem gz6_22_10 : Oz6_22[10]? = some oz6_22_10 := rfl
def cz6_67 : Code := Code.region 22 Oz6_22 false
def oz6_23_0 : Oper := ⟨some 4, Op.assign (Operand.const (Value.bool false)), 4, "law.go:156", #[], none⟩
def Oz6_23 : Array Oper := List.toArray (oz6_23_0 :: [])
def cz6_70 : Code := Code.region 23 Oz6_23 false
def cz6_69 : Code := Code.seq cz6_70 Code.ret
def cz6_68 : Code := Code.cond (Operand.tmp 98) cz6_69 Code.skip
def cz6_66 : Code := Code.seq cz6_67 cz6_68
def oz6_24_0 : Oper := ⟨some 99, Op.move (Operand.tmp 1), 22, "law.go:158", #[], none⟩
def oz6_24_1 : Oper := ⟨some 100, Op.call { callee := Callee.value (Operand.func 17), args := #[Operand.const (Value.string { data := #[91, 93] })], argTypes := #[9] }, 24, "law.go:158", #[], none⟩
def oz6_24_2 : Oper := ⟨some 101, Op.call { callee := Callee.value (Operand.func 16), args := #[Operand.tmp 99, Operand.tmp 100], argTypes := #[22, 24] }, 24, "law.go:158", #[ed_ 0, ed_ 1, ec_ 1], none⟩
def oz6_24_3 : Oper := ⟨some 16, Op.alloc 24, 0, "law.go:158", #[], none⟩
def oz6_24_4 : Oper := ⟨none, Op.store 24 (Operand.tmp 16) (Operand.tmp 101), 0, "law.go:158", #[ed_ 3, ed_ 2, ec_ 2, ep_ 0, ep_ 1, ep_ 2, ep_ 3], none⟩
def Oz6_24 : Array Oper := List.toArray (oz6_24_0 :: oz6_24_1 :: oz6_24_2 :: oz6_24_3 :: oz6_24_4 :: [])
theorem gz6_24_0 : Oz6_24[0]? = some oz6_24_0 := rfl
theorem gz6_24_1 : Oz6_24[1]? = some oz6_24_1 := rfl
theorem gz6_24_2 : Oz6_24[2]? = some oz6_24_2 := rfl
theorem gz6_24_3 : Oz6_24[3]? = some oz6_24_3 := rfl
theorem gz6_24_4 : Oz6_24[4]? = some oz6_24_4 := rfl
def cz6_74 : Code := Code.region 24 Oz6_24 false
def oz6_25_0 : Oper := ⟨some 103, Op.load 24 (Operand.tmp 16), 24, "law.go:159", #[], none⟩
def oz6_25_1 : Oper := ⟨some 104, Op.call { callee := Callee.value (Operand.func 8), args := #[Operand.tmp 103], argTypes := #[24] }, 27, "law.go:159", #[ed_ 0], none⟩
def oz6_25_2 : Oper := ⟨some 102, Op.move (Operand.tmp 104), 27, "law.go:159", #[ed_ 1], none⟩
def oz6_25_3 : Oper := ⟨some 105, Op.extract (Operand.tmp 102) 0, 9, "law.go:159", #[ed_ 2], none⟩
def oz6_25_4 : Oper := ⟨some 106, Op.extract (Operand.tmp 102) 1, 26, "law.go:159", #[ed_ 2, { on := 5, ground := Go.Ground.gcOnly Go.Departure.lateStores }], none⟩
def oz6_25_5 : Oper := ⟨some 17, Op.assign (Operand.tmp 105), 9, "law.go:159", #[ed_ 3, ec_ 1, ep_ 0, ep_ 1, ep_ 2, ep_ 3, { on := 4, ground := Go.Ground.textOnly Go.Departure.lateStores }], none⟩
def oz6_25_6 : Oper := ⟨some 18, Op.assign (Operand.tmp 106), 26, "law.go:159", #[ed_ 4, ec_ 5, ep_ 0, ep_ 1, ep_ 2, ep_ 3, ep_ 4, ep_ 5], none⟩
def Oz6_25 : Array Oper := List.toArray (oz6_25_0 :: oz6_25_1 :: oz6_25_2 :: oz6_25_3 :: oz6_25_4 :: oz6_25_5 :: oz6_25_6 :: [])
theorem gz6_25_0 : Oz6_25[0]? = some oz6_25_0 := rfl
theorem gz6_25_1 : Oz6_25[1]? = some oz6_25_1 := rfl
theorem gz6_25_2 : Oz6_25[2]? = some oz6_25_2 := rfl
theorem gz6_25_3 : Oz6_25[3]? = some oz6_25_3 := rfl
theorem gz6_25_4 : Oz6_25[4]? = some oz6_25_4 := rfl
theorem gz6_25_5 : Oz6_25[5]? = some oz6_25_5 := rfl
theorem gz6_25_6 : Oz6_25[6]? = some oz6_25_6 := rfl
def cz6_76 : Code := Code.region 25 Oz6_25 false
def oz6_26_0 : Oper := ⟨some 108, Op.move (Operand.tmp 1), 22, "law.go:160", #[], none⟩
def oz6_26_1 : Oper := ⟨some 109, Op.call { callee := Callee.value (Operand.func 18), args := #[Operand.const (Value.int IntKind.i64 7)], argTypes := #[2] }, 24, "law.go:160", #[], none⟩
def oz6_26_2 : Oper := ⟨some 110, Op.call { callee := Callee.value (Operand.func 16), args := #[Operand.tmp 108, Operand.tmp 109], argTypes := #[22, 24] }, 24, "law.go:160", #[ed_ 0, ed_ 1, ec_ 1], none⟩
def oz6_26_3 : Oper := ⟨some 111, Op.call { callee := Callee.value (Operand.func 8), args := #[Operand.tmp 110], argTypes := #[24] }, 27, "law.go:160", #[ed_ 2, ec_ 2], none⟩
def oz6_26_4 : Oper := ⟨some 107, Op.move (Operand.tmp 111), 27, "law.go:160", #[ed_ 3], none⟩
def oz6_26_5 : Oper := ⟨some 112, Op.extract (Operand.tmp 107) 0, 9, "law.go:160", #[ed_ 4], none⟩
def oz6_26_6 : Oper := ⟨some 113, Op.extract (Operand.tmp 107) 1, 26, "law.go:160", #[ed_ 4, { on := 7, ground := Go.Ground.gcOnly Go.Departure.lateStores }], none⟩
def oz6_26_7 : Oper := ⟨some 19, Op.assign (Operand.tmp 112), 9, "law.go:160", #[ed_ 5, ec_ 3, ep_ 0, ep_ 1, ep_ 2, ep_ 3, ep_ 4, ep_ 5, { on := 6, ground := Go.Ground.textOnly Go.Departure.lateStores }], none⟩
def oz6_26_8 : Oper := ⟨some 20, Op.assign (Operand.tmp 113), 26, "law.go:160", #[ed_ 6, ec_ 7, ep_ 0, ep_ 1, ep_ 2, ep_ 3, ep_ 4, ep_ 5, ep_ 6, ep_ 7], none⟩
def Oz6_26 : Array Oper := List.toArray (oz6_26_0 :: oz6_26_1 :: oz6_26_2 :: oz6_26_3 :: oz6_26_4 :: oz6_26_5 :: oz6_26_6 :: oz6_26_7 :: oz6_26_8 :: [])
theorem gz6_26_0 : Oz6_26[0]? = some oz6_26_0 := rfl
theorem gz6_26_1 : Oz6_26[1]? = some oz6_26_1 := rfl
theorem gz6_26_2 : Oz6_26[2]? = some oz6_26_2 := rfl
theorem gz6_26_3 : Oz6_26[3]? = some oz6_26_3 := rfl
theorem gz6_26_4 : Oz6_26[4]? = some oz6_26_4 := rfl
theorem gz6_26_5 : Oz6_26[5]? = some oz6_26_5 := rfl
theorem gz6_26_6 : Oz6_26[6]? = some oz6_26_6 := rfl
theorem gz6_26_7 : Oz6_26[7]? = some oz6_26_7 := rfl
theorem gz6_26_8 : Oz6_26[8]? = some oz6_26_8 := rfl
def cz6_78 : Code := Code.region 26 Oz6_26 false
def oz6_27_0 : Oper := ⟨some 114, Op.load 24 (Operand.tmp 16), 24, "law.go:161", #[], none⟩
def oz6_27_1 : Oper := ⟨some 115, Op.call { callee := Callee.value (Operand.func 9), args := #[Operand.tmp 114], argTypes := #[24] }, 4, "law.go:161", #[ed_ 0], none⟩
def oz6_27_2 : Oper := ⟨some 116, Op.unOp Go.UnOp.not 4 (Operand.tmp 115), 4, "law.go:161", #[ed_ 1], none⟩
def Oz6_27 : Array Oper := List.toArray (oz6_27_0 :: oz6_27_1 :: oz6_27_2 :: [])
theorem gz6_27_0 : Oz6_27[0]? = some oz6_27_0 := rfl
theorem gz6_27_1 : Oz6_27[1]? = some oz6_27_1 := rfl
theorem gz6_27_2 : Oz6_27[2]? = some oz6_27_2 := rfl
def cz6_81 : Code := Code.region 27 Oz6_27 false
def oz6_28_0 : Oper := ⟨some 117, Op.move (Operand.tmp 18), 26, "law.go:162", #[], none⟩
def oz6_28_1 : Oper := ⟨some 118, Op.binOp Go.BinOp.eql 26 (Operand.tmp 117) (Operand.const (Value.int IntKind.i64 70)) 26, 4, "law.go:162", #[ed_ 0], none⟩
def oz6_28_2 : Oper := ⟨some 4, Op.assign (Operand.tmp 118), 4, "law.go:162", #[ed_ 1, ep_ 0, ep_ 1], none⟩
def Oz6_28 : Array Oper := List.toArray (oz6_28_0 :: oz6_28_1 :: oz6_28_2 :: [])
theorem gz6_28_0 : Oz6_28[0]? = some oz6_28_0 := rfl
theorem gz6_28_1 : Oz6_28[1]? = some oz6_28_1 := rfl
theorem gz6_28_2 : Oz6_28[2]? = some oz6_28_2 := rfl
def cz6_84 : Code := Code.region 28 Oz6_28 false
def cz6_83 : Code := Code.seq cz6_84 Code.ret
def cz6_82 : Code := Code.cond (Operand.tmp 116) cz6_83 Code.skip
def cz6_80 : Code := Code.seq cz6_81 cz6_82
def oz6_29_0 : Oper := ⟨some 119, Op.move (Operand.tmp 18), 26, "law.go:164", #[], none⟩
def oz6_29_1 : Oper := ⟨some 120, Op.binOp Go.BinOp.eql 26 (Operand.tmp 119) (Operand.const (Value.int IntKind.i64 0)) 26, 4, "law.go:164", #[ed_ 0], none⟩
def oz6_29_2 : Oper := ⟨some 121, Op.move (Operand.tmp 120), 4, "law.go:164", #[ed_ 1], none⟩
def oz6_29_3 : Oper := ⟨some 122, Op.move (Operand.tmp 17), 9, "law.go:164", #[eg_ 2], some (2, true)⟩
def oz6_29_4 : Oper := ⟨some 123, Op.move (Operand.tmp 9), 9, "law.go:164", #[eg_ 2], some (2, true)⟩
def oz6_29_5 : Oper := ⟨some 124, Op.binOp Go.BinOp.add 9 (Operand.const (Value.string { data := #[91] })) (Operand.tmp 123) 9, 9, "law.go:164", #[ed_ 4, eg_ 2], some (2, true)⟩
def oz6_29_6 : Oper := ⟨some 125, Op.binOp Go.BinOp.add 9 (Operand.tmp 124) (Operand.const (Value.string { data := #[93] })) 9, 9, "law.go:164", #[ed_ 5, eg_ 2], some (2, true)⟩
def oz6_29_7 : Oper := ⟨some 126, Op.binOp Go.BinOp.eql 9 (Operand.tmp 122) (Operand.tmp 125) 9, 4, "law.go:164", #[ed_ 3, ed_ 6, eg_ 2], some (2, true)⟩
def oz6_29_8 : Oper := ⟨some 127, Op.pick (Operand.tmp 121) (Operand.tmp 126) (Operand.const (Value.bool false)), 4, "law.go:164", #[ed_ 2, ed_ 7], none⟩
def oz6_29_9 : Oper := ⟨some 128, Op.move (Operand.tmp 127), 4, "law.go:164", #[ed_ 8, ec_ 2], none⟩
def oz6_29_10 : Oper := ⟨some 129, Op.move (Operand.tmp 20), 26, "law.go:164", #[eg_ 9], some (9, true)⟩
def oz6_29_11 : Oper := ⟨some 130, Op.binOp Go.BinOp.eql 26 (Operand.tmp 129) (Operand.const (Value.int IntKind.i64 0)) 26, 4, "law.go:164", #[ed_ 10, eg_ 9], some (9, true)⟩
def oz6_29_12 : Oper := ⟨some 131, Op.pick (Operand.tmp 128) (Operand.tmp 130) (Operand.const (Value.bool false)), 4, "law.go:164", #[ed_ 9, ed_ 11], none⟩
def oz6_29_13 : Oper := ⟨some 132, Op.move (Operand.tmp 131), 4, "law.go:164", #[ed_ 12, ec_ 9], none⟩
def oz6_29_14 : Oper := ⟨some 133, Op.move (Operand.tmp 19), 9, "law.go:164", #[eg_ 13], some (13, true)⟩
def oz6_29_15 : Oper := ⟨some 134, Op.move (Operand.tmp 9), 9, "law.go:164", #[eg_ 13], some (13, true)⟩
def oz6_29_16 : Oper := ⟨some 135, Op.binOp Go.BinOp.add 9 (Operand.const (Value.string { data := #[91] })) (Operand.tmp 134) 9, 9, "law.go:164", #[ed_ 15, eg_ 13], some (13, true)⟩
def oz6_29_17 : Oper := ⟨some 136, Op.binOp Go.BinOp.add 9 (Operand.tmp 135) (Operand.const (Value.string { data := #[124, 55, 93] })) 9, 9, "law.go:164", #[ed_ 16, eg_ 13], some (13, true)⟩
def oz6_29_18 : Oper := ⟨some 137, Op.binOp Go.BinOp.eql 9 (Operand.tmp 133) (Operand.tmp 136) 9, 4, "law.go:164", #[ed_ 14, ed_ 17, eg_ 13], some (13, true)⟩
def oz6_29_19 : Oper := ⟨some 138, Op.pick (Operand.tmp 132) (Operand.tmp 137) (Operand.const (Value.bool false)), 4, "law.go:164", #[ed_ 13, ed_ 18], none⟩
def oz6_29_20 : Oper := ⟨some 4, Op.assign (Operand.tmp 138), 4, "law.go:164", #[ed_ 19, ec_ 13, ep_ 0, ep_ 1, ep_ 2, ep_ 3, ep_ 4, ep_ 5, ep_ 6, ep_ 7, ep_ 8, ep_ 9, ep_ 10, ep_ 11, ep_ 12, ep_ 13, ep_ 14, ep_ 15, ep_ 16, ep_ 17, ep_ 18, ep_ 19], none⟩
def Oz6_29 : Array Oper := List.toArray (oz6_29_0 :: oz6_29_1 :: oz6_29_2 :: oz6_29_3 :: oz6_29_4 :: oz6_29_5 :: oz6_29_6 :: oz6_29_7 :: oz6_29_8 :: oz6_29_9 :: oz6_29_10 :: oz6_29_11 :: oz6_29_12 :: oz6_29_13 :: oz6_29_14 :: oz6_29_15 :: oz6_29_16 :: oz6_29_17 :: oz6_29_18 :: oz6_29_19 :: oz6_29_20 :: [])
theorem gz6_29_0 : Oz6_29[0]? = some oz6_29_0 := rfl
theorem gz6_29_1 : Oz6_29[1]? = some oz6_29_1 := rfl
theorem gz6_29_2 : Oz6_29[2]? = some oz6_29_2 := rfl
theorem gz6_29_3 : Oz6_29[3]? = some oz6_29_3 := rfl
theorem gz6_29_4 : Oz6_29[4]? = some oz6_29_4 := rfl
theorem gz6_29_5 : Oz6_29[5]? = some oz6_29_5 := rfl
theorem gz6_29_6 : Oz6_29[6]? = some oz6_29_6 := rfl
theorem gz6_29_7 : Oz6_29[7]? = some oz6_29_7 := rfl
theorem gz6_29_8 : Oz6_29[8]? = some oz6_29_8 := rfl
theorem gz6_29_9 : Oz6_29[9]? = some oz6_29_9 := rfl
theorem gz6_29_10 : Oz6_29[10]? = some oz6_29_10 := rfl
theorem gz6_29_11 : Oz6_29[11]? = some oz6_29_11 := rfl
theorem gz6_29_12 : Oz6_29[12]? = some oz6_29_12 := rfl
theorem gz6_29_13 : Oz6_29[13]? = some oz6_29_13 := rfl
theorem gz6_29_14 : Oz6_29[14]? = some oz6_29_14 := rfl
theorem gz6_29_15 : Oz6_29[15]? = some oz6_29_15 := rfl
theorem gz6_29_16 : Oz6_29[16]? = some oz6_29_16 := rfl
theorem gz6_29_17 : Oz6_29[17]? = some oz6_29_17 := rfl
theorem gz6_29_18 : Oz6_29[18]? = some oz6_29_18 := rfl
theorem gz6_29_19 : Oz6_29[19]? = some oz6_29_19 := rfl
theorem gz6_29_20 : Oz6_29[20]? = some oz6_29_20 := rfl
def cz6_88 : Code := Code.region 29 Oz6_29 false
def cz6_87 : Code := Code.seq cz6_88 Code.ret
def cz6_79 : Code := Code.seq cz6_80 cz6_87
def cz6_77 : Code := Code.seq cz6_78 cz6_79
def cz6_75 : Code := Code.seq cz6_76 cz6_77
def cz6_73 : Code := Code.seq cz6_74 cz6_75
def cz6_65 : Code := Code.seq cz6_66 cz6_73
def cz6_63 : Code := Code.seq cz6_64 cz6_65
def cz6_26 : Code := Code.seq cz6_27 cz6_63
def cz6_24 : Code := Code.seq cz6_25 cz6_26
def cz6_22 : Code := Code.seq cz6_23 cz6_24
def cz6_14 : Code := Code.seq cz6_15 cz6_22
def cz6_12 : Code := Code.seq cz6_13 cz6_14
def cz6_10 : Code := Code.seq cz6_11 cz6_12
def cz6_2 : Code := Code.seq cz6_3 cz6_10
def cz6_0 : Code := Code.seq cz6_1 cz6_2
theorem enz6_1008 : Enters Tryz.prog 8 := enters_of Tryz.func8 (by kernel_rfl) rfl
theorem enz6_1009 : Enters Tryz.prog 9 := enters_of Tryz.func9 (by kernel_rfl) rfl
theorem enz6_1012 : Enters Tryz.prog 12 := enters_of Tryz.func12 (by kernel_rfl) rfl
theorem enz6_1016 : Enters Tryz.prog 16 := enters_of Tryz.func16 (by kernel_rfl) rfl
theorem bodyz6 : Tryz.f6.body = some cz6_0 := by kernel_rfl
set_option maxRecDepth 100000 in
set_option maxHeartbeats 4000000 in
theorem parts_tail {W : World} {nm : List UInt8} {sa : Option Addr} {sc : Nat} {ps : List TP} {f0 : Act} {w0 : World} (R : FrS 139 f0) (h0 : f0.tmps[0]? = some (.string (str nm))) (h1 : f0.tmps[1]? = some (.slice sa ps.length sc)) (h6 : f0.tmps[6]? = some (.string (str (txV (partT nm ps)).1))) (K1 : Keep (fun g => g < W.heap.size) W w0)  (HV : Hid (VarsAt W.heap.size W)) (HS : Hid (TmSl W.heap.size W sa ps)) (HLN : Hid (ps.length ≤ 1000000)) (HN : Hid ((txV (partT nm ps)).2 = 0)) (HD : Hid (¬ (nm = [46] ∧ ps.length = 2))) (H3 : Hid (nm ≠ [91, 93])) (H4 : Hid (nm ≠ [123, 125])) (HJL : Hid (∀ j, j ≤ ps.length → (joinX ((xsX ps).take j)).length ≤ 400000)) (HFL : Hid ((funX bareC nm).length ≤ 400000)) : cz6_22.wp Tryz.prog (bodyPost Tryz.prog Tryz.f6 (fun e w' => e = .returned (.bool true) ∧ Keep (fun g => g < W.heap.size) W w')) f0 w0 := by
  refine wp_seq (x := cz6_23) (y := cz6_24) ?_
  change (Code.region 7 Oz6_7 false).wp _ _ _ _
  refine reg_in (l := [0]) rfl ?_
  have F : FE_ _ [] f0 f0 := ⟨R, Ag_.refl _⟩; clear R
  have Y : (execOp f0.eval oz6_7_0).run Tryz.prog w0 = .ok (.value (.string (⟨#[]⟩))) w0 := by unfold oz6_7_0; go_simp
  refine sv_ gz6_7_0 Y fun a101 e => ?_; clear Y
  have h8 := pt_ F e; replace F := pu_ F e; clear e
  refine st_end ?_
  replace h0 := F.of h0; replace h1 := F.of h1; replace h6 := F.of h6; have R := F.r; clear F
  change (cz6_24).wp _ _ _ _
  refine wp_seq (x := cz6_25) (y := cz6_26) ?_
  change (Code.region 8 Oz6_8 false).wp _ _ _ _
  refine reg_in (l := [0]) rfl ?_
  have F : FE_ _ [] a101 a101 := ⟨R, Ag_.refl _⟩; clear R
  have Y : (execOp a101.eval oz6_8_0).run Tryz.prog w0 = .ok (.value (.string (⟨#[]⟩))) w0 := by unfold oz6_8_0; go_simp
  refine sv_ gz6_8_0 Y fun a102 e => ?_; clear Y
  have h9 := pt_ F e; replace F := pu_ F e; clear e
  refine st_end ?_
  replace h0 := F.of h0; replace h1 := F.of h1; replace h6 := F.of h6; replace h8 := F.of h8; have R := F.r; clear F
  change (cz6_26).wp _ _ _ _
  refine wp_seq (x := cz6_27) (y := cz6_63) ?_
  refine wp_seq (x := cz6_28) (y := cz6_29) ?_
  change (Code.region 9 Oz6_9 false).wp _ _ _ _
  refine reg_in (l := [0, 1, 2]) rfl ?_
  have F : FE_ _ [] a102 a102 := ⟨R, Ag_.refl _⟩; clear R
  refine sv_ gz6_9_0 (ym_ rfl (F.of h1)) fun a103 e => ?_
  have h56 := pt_ F e; replace F := pu_ F e; clear e
  have Y : (execOp a103.eval oz6_9_1).run Tryz.prog w0 = .ok (.value (.int .i64 ps.length)) w0 := by unfold oz6_9_1; go_simp
  refine sv_ gz6_9_1 Y fun a104 e => ?_; clear Y
  have h57 := pt_ F e; replace F := pu_ F e; replace h56 := so_ e h56; clear e
  have Y : (execOp a104.eval oz6_9_2).run Tryz.prog w0 = .ok (.value (.int .i64 0)) w0 := by unfold oz6_9_2; go_simp
  refine sv_ gz6_9_2 Y fun a105 e => ?_; clear Y
  have h58 := pt_ F e; replace F := pu_ F e; replace h56 := so_ e h56; replace h57 := so_ e h57; clear e
  refine st_end ?_
  replace h0 := F.of h0; replace h1 := F.of h1; replace h6 := F.of h6; replace h8 := F.of h8; replace h9 := F.of h9; have R := F.r; clear F
  change (cz6_29).wp _ _ _ _
  refine wp_block (id := 0) (c := cz6_30) ?_
  refine wp_loop_ghost (c := cz6_31) (fun n fX wX => ∃ j : Nat, n = ps.length - j ∧ FrS 139 fX ∧ fX.tmps[0]? = some (.string (str nm)) ∧ fX.tmps[1]? = some (.slice sa ps.length sc) ∧ fX.tmps[6]? = some (.string (str (txV (partT nm ps)).1)) ∧ fX.tmps[8]? = some (.string (str (joinX ((xsX ps).take j)))) ∧ fX.tmps[9]? = some (.string (str (joinX ((xsX ps).take j)))) ∧ fX.tmps[56]? = some (.slice sa ps.length sc) ∧ fX.tmps[57]? = some (.int .i64 ps.length) ∧ fX.tmps[58]? = some (.int .i64 (j : Int)) ∧ Keep (fun g => g < W.heap.size) W wX ∧ j ≤ ps.length) (ps.length - 0) ⟨0, rfl, R, h0, h1, h6, h8, h9, h56, h57, h58, K1, Nat.zero_le _⟩ ?_
  clear R h0 h1 h6 h8 h9 h56 h57 h58 K1
  rintro n108 a106 w107 ⟨j, rfl, R, h0, h1, h6, h8, h9, h56, h57, h58, K1, hj⟩
  refine wp_seq (x := cz6_32) (y := cz6_33) ?_
  change (Code.region 10 Oz6_10 false).wp _ _ _ _
  refine reg_in (l := [0]) rfl ?_
  have F : FE_ _ [] a106 a106 := ⟨R, Ag_.refl _⟩; clear R
  obtain ⟨b109, hb109⟩ : ∃ x, (decide ((j : Int) < (ps.length : Int))) = x := ⟨_, rfl⟩
  have Y : (execOp a106.eval oz6_10_0).run Tryz.prog w107 = .ok (.value (.bool b109)) w107 := by have r57 := F.of h57; have r58 := F.of h58; rw [← hb109]; unfold oz6_10_0; go_simp
  refine sv_ gz6_10_0 Y fun a110 e => ?_; clear Y
  have h59 := pt_ F e; replace F := pu_ F e; clear e
  refine st_end ?_
  replace h0 := F.of h0; replace h1 := F.of h1; replace h6 := F.of h6; replace h8 := F.of h8; replace h9 := F.of h9; replace h56 := F.of h56; replace h57 := F.of h57; replace h58 := F.of h58; have R := F.r; clear F
  change (cz6_33).wp _ _ _ _
  refine wp_seq (x := cz6_34) (y := cz6_37) ?_
  cases b109 with
  | false =>
    have fb109 := hb109; clear hb109
    simp only [decide_eq_true_eq, decide_eq_false_iff_not, bne_iff_ne, bne_eq_false_iff_eq, beq_iff_eq, beq_eq_false_iff_ne, ne_eq, Bool.not_eq_true', Bool.not_eq_false', Bool.not_eq_eq_eq_not, Bool.not_true, Bool.not_false] at fb109
    refine wp_cond_false (x := Code.skip) (y := cz6_36) (eval_slot h59) ?_
    refine wp_exit ?_
    change (cz6_63).wp _ _ _ _
    refine wp_seq (x := cz6_64) (y := cz6_65) ?_
    change (Code.region 21 Oz6_21 false).wp _ _ _ _
    refine reg_in (l := [0, 1, 2, 3, 4, 5, 6]) rfl ?_
    have F : FE_ _ [] a110 a110 := ⟨R, Ag_.refl _⟩; clear R
    refine sv_ gz6_21_0 (ym_ rfl (F.of h0)) fun a111 e => ?_
    have h84 := pt_ F e; replace F := pu_ F e; clear e
    have HJE : Hid ((joinX ((xsX ps).take j)) = (joinX (xsX ps))) := Lib.hid (by rw [xs_all (by omega)])
    have hcall := wName_any w107 nm (Nat.le_trans (parts_of HN.out).1 (by decide)) (HV.out.up K1.size K1); rw [name_is HN.out H3.out H4.out] at hcall
    refine st_call gz6_21_1 rfl (wanted_free rfl) (yc1_ enz6_1012 rfl h84) ((hcall).mono ?_)
    rintro e9 w112 ⟨rfl, kk⟩
    replace K1 := keep_onto K1 kk
    clear hcall
    clear kk
    refine ⟨_, rfl, fun a113 e => ?_⟩
    clear h84; have h85 := pt_ F e; replace F := pu_ F e; clear e
    refine sv_ gz6_21_2 (ym_ rfl h85) fun a114 e => ?_
    clear h85; have h83 := pt_ F e; replace F := pu_ F e; clear e
    refine sv_ gz6_21_3 (ye20_ rfl h83) fun a115 e => ?_
    have h86 := pt_ F e; replace F := pu_ F e; replace h83 := so_ e h83; clear e
    refine sv_ gz6_21_4 (ye21_ rfl h83) fun a116 e => ?_
    clear h83; have h87 := pt_ F e; replace F := pu_ F e; replace h86 := so_ e h86; clear e
    refine sv_ gz6_21_5 (ya_ rfl h86) fun a117 e => ?_
    clear h86; have h14 := pt_ F e; replace F := pu_ F e; replace h87 := so_ e h87; clear e
    refine sv_ gz6_21_6 (ya_ rfl h87) fun a118 e => ?_
    clear h87; have h15 := pt_ F e; replace F := pu_ F e; replace h14 := so_ e h14; clear e
    refine st_end ?_
    clear h0; replace h1 := F.of h1; replace h6 := F.of h6; replace h8 := F.of h8; replace h9 := F.of h9; replace h56 := F.of h56; replace h57 := F.of h57; replace h58 := F.of h58; replace h59 := F.of h59; have R := F.r; clear F
    change (cz6_65).wp _ _ _ _
    refine wp_seq (x := cz6_66) (y := cz6_73) ?_
    refine wp_seq (x := cz6_67) (y := cz6_68) ?_
    change (Code.region 22 Oz6_22 false).wp _ _ _ _
    refine reg_in (l := [0, 1, 2, 3, 4, 5, 6, 7, 8, 9, 10]) rfl ?_
    have F : FE_ _ [] a118 a118 := ⟨R, Ag_.refl _⟩; clear R
    refine sv_ gz6_22_0 (ym_ rfl (F.of h15)) fun a119 e => ?_
    have h88 := pt_ F e; replace F := pu_ F e; clear e
    have Y : (execOp a119.eval oz6_22_1).run Tryz.prog w112 = .ok (.value (.bool false)) w112 := by unfold oz6_22_1; go_simp
    refine sv_ gz6_22_1 Y fun a120 e => ?_; clear Y
    clear h88; have h89 := pt_ F e; replace F := pu_ F e; clear e
    refine sv_ gz6_22_2 (ym_ rfl h89) fun a121 e => ?_
    clear h89; have h90 := pt_ F e; replace F := pu_ F e; clear e
    refine st_val gz6_22_3 rfl (wanted_is (j := 2) (d := 90) rfl rfl h90 rfl) (ym_ rfl (F.of h6)) fun a122 e => ?_
    have h91 := pt_ F e; replace F := pu_ F e; replace h90 := so_ e h90; clear e
    refine st_val gz6_22_4 rfl (wanted_is (j := 2) (d := 90) rfl rfl h90 rfl) (ym_ rfl (F.of h14)) fun a123 e => ?_
    have h92 := pt_ F e; replace F := pu_ F e; replace h90 := so_ e h90; replace h91 := so_ e h91; clear e
    have Y : (execOp a123.eval oz6_22_5).run Tryz.prog w112 = .ok (.value (.string (str (funX bareC nm ++ [40])))) w112 := by have e1 : (str (funX bareC nm) ++ ⟨#[40]⟩ : ByteArray) = str (funX bareC nm ++ [40]) := (by exact app_str _ [40]); unfold oz6_22_5; go_simp; have z1 := HJL.out j (by omega); have z2 := HFL.out; have z3 := HJL.out ps.length (Nat.le_refl _); rw [xs_all rfl] at z3; simp only [str_size, List.length_append, List.length_cons, List.length_nil]; omega
    refine st_val gz6_22_5 rfl (wanted_is (j := 2) (d := 90) rfl rfl h90 rfl) Y fun a124 e => ?_; clear Y
    clear h92; have h93 := pt_ F e; replace F := pu_ F e; replace h90 := so_ e h90; replace h91 := so_ e h91; clear e
    refine st_val gz6_22_6 rfl (wanted_is (j := 2) (d := 90) rfl rfl h90 rfl) (ym_ rfl (F.of h8)) fun a125 e => ?_
    have h94 := pt_ F e; replace F := pu_ F e; replace h90 := so_ e h90; replace h91 := so_ e h91; replace h93 := so_ e h93; clear e
    have Y : (execOp a125.eval oz6_22_7).run Tryz.prog w112 = .ok (.value (.string (str (funX bareC nm ++ 40 :: (joinX (xsX ps)))))) w112 := by have e1 : (str (funX bareC nm ++ [40]) ++ str (joinX ((xsX ps).take j)) : ByteArray) = str (funX bareC nm ++ 40 :: (joinX (xsX ps))) := (by rw [app_str, HJE.out, List.append_assoc]; rfl); unfold oz6_22_7; go_simp; have z1 := HJL.out j (by omega); have z2 := HFL.out; have z3 := HJL.out ps.length (Nat.le_refl _); rw [xs_all rfl] at z3; simp only [str_size, List.length_append, List.length_cons, List.length_nil]; omega
    refine st_val gz6_22_7 rfl (wanted_is (j := 2) (d := 90) rfl rfl h90 rfl) Y fun a126 e => ?_; clear Y
    clear h93 h94; have h95 := pt_ F e; replace F := pu_ F e; replace h90 := so_ e h90; replace h91 := so_ e h91; clear e
    have Y : (execOp a126.eval oz6_22_8).run Tryz.prog w112 = .ok (.value (.string (str (funX bareC nm ++ 40 :: ((joinX (xsX ps)) ++ [41]))))) w112 := by have e1 : (str (funX bareC nm ++ 40 :: (joinX (xsX ps))) ++ ⟨#[41]⟩ : ByteArray) = str (funX bareC nm ++ 40 :: ((joinX (xsX ps)) ++ [41])) := (by exact (app_str _ [41]).trans (by rw [List.append_assoc]; rfl)); unfold oz6_22_8; go_simp; have z1 := HJL.out j (by omega); have z2 := HFL.out; have z3 := HJL.out ps.length (Nat.le_refl _); rw [xs_all rfl] at z3; simp only [str_size, List.length_append, List.length_cons, List.length_nil]; omega
    refine st_val gz6_22_8 rfl (wanted_is (j := 2) (d := 90) rfl rfl h90 rfl) Y fun a127 e => ?_; clear Y
    clear h95; have h96 := pt_ F e; replace F := pu_ F e; replace h90 := so_ e h90; replace h91 := so_ e h91; clear e
    have Y : (execOp a127.eval oz6_22_9).run Tryz.prog w112 = .ok (.value (.bool false)) w112 := by have e1 : (str (txV (partT nm ps)).1).toList = (str (funX bareC nm ++ 40 :: ((joinX (xsX ps)) ++ [41]))).toList := (by rw [comp_is HN.out (by rw [List.length_map]; exact HD.out)]; rfl); unfold oz6_22_9; go_simp
    refine st_val gz6_22_9 rfl (wanted_is (j := 2) (d := 90) rfl rfl h90 rfl) Y fun a128 e => ?_; clear Y
    clear h91 h96; have h97 := pt_ F e; replace F := pu_ F e; replace h90 := so_ e h90; clear e
    have Y : (execOp a128.eval oz6_22_10).run Tryz.prog w112 = .ok (.value (.bool false)) w112 := by unfold oz6_22_10; go_simp
    refine sv_ gz6_22_10 Y fun a129 e => ?_; clear Y
    clear h90 h97; have h98 := pt_ F e; replace F := pu_ F e; clear e
    refine st_end ?_
    replace h1 := F.of h1; clear h6; replace h8 := F.of h8; replace h9 := F.of h9; clear h14; clear h15; replace h56 := F.of h56; replace h57 := F.of h57; replace h58 := F.of h58; replace h59 := F.of h59; have R := F.r; clear F
    change (cz6_68).wp _ _ _ _
    refine wp_cond_false (x := cz6_69) (y := Code.skip) (eval_slot h98) ?_
    refine wp_skip ?_
    change (cz6_73).wp _ _ _ _
    refine wp_seq (x := cz6_74) (y := cz6_75) ?_
    change (Code.region 24 Oz6_24 false).wp _ _ _ _
    refine reg_in (l := [0, 1, 2, 3, 4]) rfl ?_
    have F : FE_ _ [] a129 a129 := ⟨R, Ag_.refl _⟩; clear R
    refine sv_ gz6_24_0 (ym_ rfl (F.of h1)) fun a130 e => ?_
    have h99 := pt_ F e; replace F := pu_ F e; clear e
    have Y : (execOp a130.eval oz6_24_1).run Tryz.prog w112 = .ok (.enter 17 #[.string (⟨#[91, 93]⟩)]) w112 := by unfold oz6_24_1; go_simp
    refine st_call gz6_24_1 rfl (wanted_free rfl) Y ((refA_any _ [91, 93]).mono ?_); clear Y
    rintro e9 w131 ⟨rfl, kk⟩
    replace K1 := keep_onto K1 kk
    clear kk
    refine ⟨_, rfl, fun a132 e => ?_⟩
    have h100 := pt_ F e; replace F := pu_ F e; replace h99 := so_ e h99; clear e
    have hca := refList_any (t := (.node 3 [91, 93] 0 [])) (a := none) (c := 0) (sc := sc) (tmsl_on HS.out K1) (tm_leaf (by decide) (by decide) (by decide)) HLN.out
    refine st_call gz6_24_2 rfl (wanted_free rfl) (yc2_ enz6_1016 rfl h99 h100) ((hca).mono ?_)
    rintro e9 w133 ⟨al, cl, rfl, hx, kk⟩
    replace K1 := keep_onto K1 kk
    clear kk
    have HXl := Lib.hid (hx : TmAt w133.heap.size w133 (lsA7 ps) al cl); clear hx hca
    have KXl := Keep.refl (fun g => g < w133.heap.size) w133
    refine ⟨_, rfl, fun a134 e => ?_⟩
    clear h99 h100; have h101 := pt_ F e; replace F := pu_ F e; clear e
    have Y : (execOp a134.eval oz6_24_3).run Tryz.prog w133 = .ok (.value (.pointer (some ⟨w133.heap.size, 0, none⟩))) (w133.alloc (.cells #[.int .i64 0, .string (⟨#[]⟩), .int .i64 0, .slice none 0 0] 24)) := by unfold oz6_24_3; go_simp
    have B135 := Blk.new w133 24 #[.int .i64 0, .string (⟨#[]⟩), .int .i64 0, .slice none 0 0]
    obtain ⟨w136, hw⟩ : ∃ x, x = w133.alloc (.cells #[.int .i64 0, .string (⟨#[]⟩), .int .i64 0, .slice none 0 0] 24) := ⟨_, rfl⟩; rw [← hw] at Y B135
    obtain ⟨b135, hb⟩ : ∃ x, x = w133.heap.size := ⟨_, rfl⟩; rw [← hb] at Y B135
    have LK1_b135 := lk_ hb K1; replace K1 := ka_ hw K1; have LKXl_b135 := lk_ hb KXl; replace KXl := ka_ hw KXl; clear hw hb
    refine sv_ gz6_24_3 Y fun a137 e => ?_; clear Y
    have h16 := pt_ F e; replace F := pu_ F e; replace h101 := so_ e h101; clear e
    obtain ⟨w138, Y, hk, hB⟩ := ys4_ (o := oz6_24_4) rfl h16 h101 B135
    replace K1 := kx_ hk K1 (Nat.not_lt.2 LK1_b135); replace KXl := kx_ hk KXl (Nat.not_lt.2 LKXl_b135); clear B135; have B135 := hB; clear hB hk
    refine st_skip gz6_24_4 rfl (wanted_free rfl) Y ?_; clear Y
    refine st_end ?_
    replace h1 := F.of h1; replace h8 := F.of h8; replace h9 := F.of h9; replace h56 := F.of h56; replace h57 := F.of h57; replace h58 := F.of h58; replace h59 := F.of h59; clear h98; clear h101; have R := F.r; clear F
    change (cz6_75).wp _ _ _ _
    refine wp_seq (x := cz6_76) (y := cz6_77) ?_
    change (Code.region 25 Oz6_25 false).wp _ _ _ _
    refine reg_in (l := [0, 1, 2, 3, 4, 5, 6]) rfl ?_
    have F : FE_ _ [] a137 a137 := ⟨R, Ag_.refl _⟩; clear R
    refine sv_ gz6_25_0 (yl4_ rfl (F.of h16) B135) fun a139 e => ?_
    have h103 := pt_ F e; replace F := pu_ F e; clear e
    refine st_call gz6_25_1 rfl (wanted_free rfl) (yc1_ enz6_1008 rfl h103) ((wText_any (HXl.out.on KXl) (HV.out.up K1.size K1)).mono ?_)
    rintro e9 w140 ⟨rfl, kk⟩
    replace K1 := keep_onto K1 kk
    replace KXl := keep_onto KXl kk
    replace B135 := blk_on B135 kk
    clear kk
    refine ⟨_, rfl, fun a141 e => ?_⟩
    clear h103; have h104 := pt_ F e; replace F := pu_ F e; clear e
    refine sv_ gz6_25_2 (ym_ rfl h104) fun a142 e => ?_
    clear h104; have h102 := pt_ F e; replace F := pu_ F e; clear e
    refine sv_ gz6_25_3 (ye20_ rfl h102) fun a143 e => ?_
    have h105 := pt_ F e; replace F := pu_ F e; replace h102 := so_ e h102; clear e
    refine sv_ gz6_25_4 (ye21_ rfl h102) fun a144 e => ?_
    clear h102; have h106 := pt_ F e; replace F := pu_ F e; replace h105 := so_ e h105; clear e
    refine sv_ gz6_25_5 (ya_ rfl h105) fun a145 e => ?_
    clear h105; have h17 := pt_ F e; replace F := pu_ F e; replace h106 := so_ e h106; clear e
    refine sv_ gz6_25_6 (ya_ rfl h106) fun a146 e => ?_
    clear h106; have h18 := pt_ F e; replace F := pu_ F e; replace h17 := so_ e h17; clear e
    refine st_end ?_
    replace h1 := F.of h1; replace h8 := F.of h8; replace h9 := F.of h9; replace h16 := F.of h16; replace h56 := F.of h56; replace h57 := F.of h57; replace h58 := F.of h58; replace h59 := F.of h59; have R := F.r; clear F
    change (cz6_77).wp _ _ _ _
    refine wp_seq (x := cz6_78) (y := cz6_79) ?_
    change (Code.region 26 Oz6_26 false).wp _ _ _ _
    refine reg_in (l := [0, 1, 2, 3, 4, 5, 6, 7, 8]) rfl ?_
    have F : FE_ _ [] a146 a146 := ⟨R, Ag_.refl _⟩; clear R
    refine sv_ gz6_26_0 (ym_ rfl (F.of h1)) fun a147 e => ?_
    have h108 := pt_ F e; replace F := pu_ F e; clear e
    have Y : (execOp a147.eval oz6_26_1).run Tryz.prog w140 = .ok (.enter 18 #[.int .i64 7]) w140 := by unfold oz6_26_1; go_simp
    refine st_call gz6_26_1 rfl (wanted_free rfl) Y ((refN_any _ 7).mono ?_); clear Y
    rintro e9 w148 ⟨rfl, kk⟩
    replace K1 := keep_onto K1 kk
    replace KXl := keep_onto KXl kk
    replace B135 := blk_on B135 kk
    clear kk
    refine ⟨_, rfl, fun a149 e => ?_⟩
    have h109 := pt_ F e; replace F := pu_ F e; replace h108 := so_ e h108; clear e
    have hca := refList_any (t := (.node 2 [] 7 [])) (a := none) (c := 0) (sc := sc) (tmsl_on HS.out K1) (tm_leaf (by decide) (by decide) (by decide)) HLN.out
    refine st_call gz6_26_2 rfl (wanted_free rfl) (yc2_ enz6_1016 rfl h108 h109) ((hca).mono ?_)
    rintro e9 w150 ⟨an, cn, rfl, hx, kk⟩
    replace K1 := keep_onto K1 kk
    replace KXl := keep_onto KXl kk
    replace B135 := blk_on B135 kk
    clear kk
    have HXn := Lib.hid (hx : TmAt w150.heap.size w150 (lsN7 ps) an cn); clear hx hca
    have KXn := Keep.refl (fun g => g < w150.heap.size) w150
    refine ⟨_, rfl, fun a151 e => ?_⟩
    clear h108 h109; have h110 := pt_ F e; replace F := pu_ F e; clear e
    refine st_call gz6_26_3 rfl (wanted_free rfl) (yc1_ enz6_1008 rfl h110) ((wText_any (HXn.out.on KXn) (HV.out.up K1.size K1)).mono ?_)
    rintro e9 w152 ⟨rfl, kk⟩
    replace K1 := keep_onto K1 kk
    replace KXl := keep_onto KXl kk
    replace KXn := keep_onto KXn kk
    replace B135 := blk_on B135 kk
    clear kk
    refine ⟨_, rfl, fun a153 e => ?_⟩
    clear h110; have h111 := pt_ F e; replace F := pu_ F e; clear e
    refine sv_ gz6_26_4 (ym_ rfl h111) fun a154 e => ?_
    clear h111; have h107 := pt_ F e; replace F := pu_ F e; clear e
    refine sv_ gz6_26_5 (ye20_ rfl h107) fun a155 e => ?_
    have h112 := pt_ F e; replace F := pu_ F e; replace h107 := so_ e h107; clear e
    refine sv_ gz6_26_6 (ye21_ rfl h107) fun a156 e => ?_
    clear h107; have h113 := pt_ F e; replace F := pu_ F e; replace h112 := so_ e h112; clear e
    refine sv_ gz6_26_7 (ya_ rfl h112) fun a157 e => ?_
    clear h112; have h19 := pt_ F e; replace F := pu_ F e; replace h113 := so_ e h113; clear e
    refine sv_ gz6_26_8 (ya_ rfl h113) fun a158 e => ?_
    clear h113; have h20 := pt_ F e; replace F := pu_ F e; replace h19 := so_ e h19; clear e
    refine st_end ?_
    clear h1; replace h8 := F.of h8; replace h9 := F.of h9; replace h16 := F.of h16; replace h17 := F.of h17; replace h18 := F.of h18; replace h56 := F.of h56; replace h57 := F.of h57; replace h58 := F.of h58; replace h59 := F.of h59; have R := F.r; clear F
    change (cz6_79).wp _ _ _ _
    refine wp_seq (x := cz6_80) (y := cz6_87) ?_
    refine wp_seq (x := cz6_81) (y := cz6_82) ?_
    change (Code.region 27 Oz6_27 false).wp _ _ _ _
    refine reg_in (l := [0, 1, 2]) rfl ?_
    have F : FE_ _ [] a158 a158 := ⟨R, Ag_.refl _⟩; clear R
    refine sv_ gz6_27_0 (yl4_ rfl (F.of h16) B135) fun a159 e => ?_
    have h114 := pt_ F e; replace F := pu_ F e; clear e
    obtain ⟨rr, hrr⟩ : ∃ q, (lsA7 ps).right = q := ⟨_, rfl⟩; have hcall := refRight_any (HXl.out.on KXl); rw [hrr] at hcall
    refine st_call gz6_27_1 rfl (wanted_free rfl) (yc1_ enz6_1009 rfl h114) ((hcall).mono ?_)
    rintro e9 w160 ⟨rfl, kk⟩
    replace K1 := keep_onto K1 kk
    replace KXl := keep_onto KXl kk
    replace KXn := keep_onto KXn kk
    replace B135 := blk_on B135 kk
    clear hcall; have HR := Lib.hid hrr; clear hrr
    clear kk
    refine ⟨_, rfl, fun a161 e => ?_⟩
    clear h114; have h115 := pt_ F e; replace F := pu_ F e; clear e
    cases rr with
    | false =>
      have Y : (execOp a161.eval oz6_27_2).run Tryz.prog w160 = .ok (.value (.bool true)) w160 := by unfold oz6_27_2; go_simp
      refine sv_ gz6_27_2 Y fun a162 e => ?_; clear Y
      clear h115; have h116 := pt_ F e; replace F := pu_ F e; clear e
      refine st_end ?_
      replace h8 := F.of h8; replace h9 := F.of h9; clear h16; replace h17 := F.of h17; replace h18 := F.of h18; replace h19 := F.of h19; replace h20 := F.of h20; replace h56 := F.of h56; replace h57 := F.of h57; replace h58 := F.of h58; replace h59 := F.of h59; have R := F.r; clear F
      change (cz6_82).wp _ _ _ _
      refine wp_cond_true (x := cz6_83) (y := Code.skip) (eval_slot h116) ?_
      refine wp_seq (x := cz6_84) (y := Code.ret) ?_
      change (Code.region 28 Oz6_28 false).wp _ _ _ _
      refine reg_in (l := [0, 1, 2]) rfl ?_
      have F : FE_ _ [] a162 a162 := ⟨R, Ag_.refl _⟩; clear R
      refine sv_ gz6_28_0 (ym_ rfl (F.of h18)) fun a163 e => ?_
      have h117 := pt_ F e; replace F := pu_ F e; clear e
      have Y : (execOp a163.eval oz6_28_1).run Tryz.prog w160 = .ok (.value (.bool true)) w160 := by have e1 : ((txV (lsA7 ps)).2 == 70) = true := (by rw [txV_unright HR.out]; rfl); unfold oz6_28_1; go_simp
      refine sv_ gz6_28_1 Y fun a164 e => ?_; clear Y
      clear h117; have h118 := pt_ F e; replace F := pu_ F e; clear e
      refine sv_ gz6_28_2 (ya_ rfl h118) fun a165 e => ?_
      clear h118; have h4 := pt_ F e; replace F := pu_ F e; clear e
      refine st_end ?_
      replace h8 := F.of h8; replace h9 := F.of h9; replace h17 := F.of h17; replace h18 := F.of h18; replace h19 := F.of h19; replace h20 := F.of h20; replace h56 := F.of h56; replace h57 := F.of h57; replace h58 := F.of h58; replace h59 := F.of h59; clear h116; have R := F.r; clear F
      change (Code.ret).wp _ _ _ _
      refine wp_ret ?_
      change bodyPost Tryz.prog Tryz.f6 (fun e w' => e = .returned (.bool true) ∧ Keep (fun g => g < W.heap.size) W w') .ret a165 w160
      refine ret_one rfl R h4 ?_
      exact ⟨rfl, K1⟩
    | true =>
      have Y : (execOp a161.eval oz6_27_2).run Tryz.prog w160 = .ok (.value (.bool false)) w160 := by unfold oz6_27_2; go_simp
      refine sv_ gz6_27_2 Y fun a166 e => ?_; clear Y
      clear h115; have h116 := pt_ F e; replace F := pu_ F e; clear e
      refine st_end ?_
      replace h8 := F.of h8; replace h9 := F.of h9; clear h16; replace h17 := F.of h17; replace h18 := F.of h18; replace h19 := F.of h19; replace h20 := F.of h20; replace h56 := F.of h56; replace h57 := F.of h57; replace h58 := F.of h58; replace h59 := F.of h59; have R := F.r; clear F
      change (cz6_82).wp _ _ _ _
      refine wp_cond_false (x := cz6_83) (y := Code.skip) (eval_slot h116) ?_
      refine wp_skip ?_
      change (cz6_87).wp _ _ _ _
      refine wp_seq (x := cz6_88) (y := Code.ret) ?_
      change (Code.region 29 Oz6_29 false).wp _ _ _ _
      refine reg_in (l := [0, 1, 2, 3, 4, 5, 6, 7, 8, 9, 10, 11, 12, 13, 14, 15, 16, 17, 18, 19, 20]) rfl ?_
      have F : FE_ _ [] a166 a166 := ⟨R, Ag_.refl _⟩; clear R
      refine sv_ gz6_29_0 (ym_ rfl (F.of h18)) fun a167 e => ?_
      have h119 := pt_ F e; replace F := pu_ F e; clear e
      have HNE : Hid (ps.map (·.1) ≠ []) := Lib.hid (fun h => by have h2 := (parts_of HN.out).2.1; rw [h] at h2; simp at h2); have HA := Lib.hid (lsA_is HNE.out (fun x hx => ((parts_of HN.out).2.2.2.2 x hx).2) HR.out); have HB := Lib.hid (lsN_is HNE.out (fun x hx => ((parts_of HN.out).2.2.2.2 x hx).2) HR.out)
      have Y : (execOp a167.eval oz6_29_1).run Tryz.prog w160 = .ok (.value (.bool true)) w160 := by have e1 : ((txV (lsA7 ps)).2 == 0) = true := (by rw [HA.out]; rfl); unfold oz6_29_1; go_simp
      refine sv_ gz6_29_1 Y fun a168 e => ?_; clear Y
      clear h119; have h120 := pt_ F e; replace F := pu_ F e; clear e
      refine sv_ gz6_29_2 (ym_ rfl h120) fun a169 e => ?_
      clear h120; have h121 := pt_ F e; replace F := pu_ F e; clear e
      refine st_val gz6_29_3 rfl (wanted_is (j := 2) (d := 121) rfl rfl h121 rfl) (ym_ rfl (F.of h17)) fun a170 e => ?_
      have h122 := pt_ F e; replace F := pu_ F e; replace h121 := so_ e h121; clear e
      refine st_val gz6_29_4 rfl (wanted_is (j := 2) (d := 121) rfl rfl h121 rfl) (ym_ rfl (F.of h9)) fun a171 e => ?_
      have h123 := pt_ F e; replace F := pu_ F e; replace h121 := so_ e h121; replace h122 := so_ e h122; clear e
      have Y : (execOp a171.eval oz6_29_5).run Tryz.prog w160 = .ok (.value (.string (str (91 :: (joinX (xsX ps)))))) w160 := by have e1 : (⟨#[91]⟩ ++ str (joinX ((xsX ps).take j)) : ByteArray) = str (91 :: (joinX (xsX ps))) := (by rw [HJE.out]; exact app_str [91] _); unfold oz6_29_5; go_simp; have z1 := HJL.out j (by omega); have z2 := HFL.out; have z3 := HJL.out ps.length (Nat.le_refl _); rw [xs_all rfl] at z3; simp only [str_size, List.length_append, List.length_cons, List.length_nil]; omega
      refine st_val gz6_29_5 rfl (wanted_is (j := 2) (d := 121) rfl rfl h121 rfl) Y fun a172 e => ?_; clear Y
      clear h123; have h124 := pt_ F e; replace F := pu_ F e; replace h121 := so_ e h121; replace h122 := so_ e h122; clear e
      have Y : (execOp a172.eval oz6_29_6).run Tryz.prog w160 = .ok (.value (.string (str (91 :: ((joinX (xsX ps)) ++ [93]))))) w160 := by have e1 : (str (91 :: (joinX (xsX ps))) ++ ⟨#[93]⟩ : ByteArray) = str (91 :: ((joinX (xsX ps)) ++ [93])) := (by exact app_str _ [93]); unfold oz6_29_6; go_simp; have z1 := HJL.out j (by omega); have z2 := HFL.out; have z3 := HJL.out ps.length (Nat.le_refl _); rw [xs_all rfl] at z3; simp only [str_size, List.length_append, List.length_cons, List.length_nil]; omega
      refine st_val gz6_29_6 rfl (wanted_is (j := 2) (d := 121) rfl rfl h121 rfl) Y fun a173 e => ?_; clear Y
      clear h124; have h125 := pt_ F e; replace F := pu_ F e; replace h121 := so_ e h121; replace h122 := so_ e h122; clear e
      have Y : (execOp a173.eval oz6_29_7).run Tryz.prog w160 = .ok (.value (.bool true)) w160 := by have e1 : (str (txV (lsA7 ps)).1).toList = (str (91 :: ((joinX (xsX ps)) ++ [93]))).toList := (by rw [HA.out]; rfl); unfold oz6_29_7; go_simp
      refine st_val gz6_29_7 rfl (wanted_is (j := 2) (d := 121) rfl rfl h121 rfl) Y fun a174 e => ?_; clear Y
      clear h122 h125; have h126 := pt_ F e; replace F := pu_ F e; replace h121 := so_ e h121; clear e
      have Y : (execOp a174.eval oz6_29_8).run Tryz.prog w160 = .ok (.value (.bool true)) w160 := by unfold oz6_29_8; go_simp
      refine sv_ gz6_29_8 Y fun a175 e => ?_; clear Y
      clear h121 h126; have h127 := pt_ F e; replace F := pu_ F e; clear e
      refine sv_ gz6_29_9 (ym_ rfl h127) fun a176 e => ?_
      clear h127; have h128 := pt_ F e; replace F := pu_ F e; clear e
      refine st_val gz6_29_10 rfl (wanted_is (j := 9) (d := 128) rfl rfl h128 rfl) (ym_ rfl (F.of h20)) fun a177 e => ?_
      have h129 := pt_ F e; replace F := pu_ F e; replace h128 := so_ e h128; clear e
      have Y : (execOp a177.eval oz6_29_11).run Tryz.prog w160 = .ok (.value (.bool true)) w160 := by have e1 : ((txV (lsN7 ps)).2 == 0) = true := (by rw [HB.out]; rfl); unfold oz6_29_11; go_simp
      refine st_val gz6_29_11 rfl (wanted_is (j := 9) (d := 128) rfl rfl h128 rfl) Y fun a178 e => ?_; clear Y
      clear h129; have h130 := pt_ F e; replace F := pu_ F e; replace h128 := so_ e h128; clear e
      have Y : (execOp a178.eval oz6_29_12).run Tryz.prog w160 = .ok (.value (.bool true)) w160 := by unfold oz6_29_12; go_simp
      refine sv_ gz6_29_12 Y fun a179 e => ?_; clear Y
      clear h128 h130; have h131 := pt_ F e; replace F := pu_ F e; clear e
      refine sv_ gz6_29_13 (ym_ rfl h131) fun a180 e => ?_
      clear h131; have h132 := pt_ F e; replace F := pu_ F e; clear e
      refine st_val gz6_29_14 rfl (wanted_is (j := 13) (d := 132) rfl rfl h132 rfl) (ym_ rfl (F.of h19)) fun a181 e => ?_
      have h133 := pt_ F e; replace F := pu_ F e; replace h132 := so_ e h132; clear e
      refine st_val gz6_29_15 rfl (wanted_is (j := 13) (d := 132) rfl rfl h132 rfl) (ym_ rfl (F.of h9)) fun a182 e => ?_
      have h134 := pt_ F e; replace F := pu_ F e; replace h132 := so_ e h132; replace h133 := so_ e h133; clear e
      have Y : (execOp a182.eval oz6_29_16).run Tryz.prog w160 = .ok (.value (.string (str (91 :: (joinX (xsX ps)))))) w160 := by have e1 : (⟨#[91]⟩ ++ str (joinX ((xsX ps).take j)) : ByteArray) = str (91 :: (joinX (xsX ps))) := (by rw [HJE.out]; exact app_str [91] _); unfold oz6_29_16; go_simp; have z1 := HJL.out j (by omega); have z2 := HFL.out; have z3 := HJL.out ps.length (Nat.le_refl _); rw [xs_all rfl] at z3; simp only [str_size, List.length_append, List.length_cons, List.length_nil]; omega
      refine st_val gz6_29_16 rfl (wanted_is (j := 13) (d := 132) rfl rfl h132 rfl) Y fun a183 e => ?_; clear Y
      clear h134; have h135 := pt_ F e; replace F := pu_ F e; replace h132 := so_ e h132; replace h133 := so_ e h133; clear e
      have Y : (execOp a183.eval oz6_29_17).run Tryz.prog w160 = .ok (.value (.string (str (91 :: ((joinX (xsX ps)) ++ [124, 55, 93]))))) w160 := by have e1 : (str (91 :: (joinX (xsX ps))) ++ ⟨#[124, 55, 93]⟩ : ByteArray) = str (91 :: ((joinX (xsX ps)) ++ [124, 55, 93])) := (by exact app_str _ [124, 55, 93]); unfold oz6_29_17; go_simp; have z1 := HJL.out j (by omega); have z2 := HFL.out; have z3 := HJL.out ps.length (Nat.le_refl _); rw [xs_all rfl] at z3; simp only [str_size, List.length_append, List.length_cons, List.length_nil]; omega
      refine st_val gz6_29_17 rfl (wanted_is (j := 13) (d := 132) rfl rfl h132 rfl) Y fun a184 e => ?_; clear Y
      clear h135; have h136 := pt_ F e; replace F := pu_ F e; replace h132 := so_ e h132; replace h133 := so_ e h133; clear e
      have Y : (execOp a184.eval oz6_29_18).run Tryz.prog w160 = .ok (.value (.bool true)) w160 := by have e1 : (str (txV (lsN7 ps)).1).toList = (str (91 :: ((joinX (xsX ps)) ++ [124, 55, 93]))).toList := (by rw [HB.out]; rfl); unfold oz6_29_18; go_simp
      refine st_val gz6_29_18 rfl (wanted_is (j := 13) (d := 132) rfl rfl h132 rfl) Y fun a185 e => ?_; clear Y
      clear h133 h136; have h137 := pt_ F e; replace F := pu_ F e; replace h132 := so_ e h132; clear e
      have Y : (execOp a185.eval oz6_29_19).run Tryz.prog w160 = .ok (.value (.bool true)) w160 := by unfold oz6_29_19; go_simp
      refine sv_ gz6_29_19 Y fun a186 e => ?_; clear Y
      clear h132 h137; have h138 := pt_ F e; replace F := pu_ F e; clear e
      refine sv_ gz6_29_20 (ya_ rfl h138) fun a187 e => ?_
      clear h138; have h4 := pt_ F e; replace F := pu_ F e; clear e
      refine st_end ?_
      replace h8 := F.of h8; replace h9 := F.of h9; clear h17; clear h18; clear h19; clear h20; replace h56 := F.of h56; replace h57 := F.of h57; replace h58 := F.of h58; replace h59 := F.of h59; clear h116; have R := F.r; clear F
      change (Code.ret).wp _ _ _ _
      refine wp_ret ?_
      change bodyPost Tryz.prog Tryz.f6 (fun e w' => e = .returned (.bool true) ∧ Keep (fun g => g < W.heap.size) W w') .ret a187 w160
      refine ret_one rfl R h4 ?_
      exact ⟨rfl, K1⟩
  | true =>
    have fb109 := hb109; clear hb109
    simp only [decide_eq_true_eq, decide_eq_false_iff_not, bne_iff_ne, bne_eq_false_iff_eq, beq_iff_eq, beq_eq_false_iff_ne, ne_eq, Bool.not_eq_true', Bool.not_eq_false', Bool.not_eq_eq_eq_not, Bool.not_true, Bool.not_false] at fb109
    refine wp_cond_true (x := Code.skip) (y := cz6_36) (eval_slot h59) ?_
    refine wp_skip ?_
    change (cz6_37).wp _ _ _ _
    refine wp_seq (x := cz6_38) (y := cz6_62) ?_
    refine wp_block (id := 1) (c := cz6_39) ?_
    refine wp_seq (x := cz6_40) (y := cz6_41) ?_
    change (Code.region 11 Oz6_11 false).wp _ _ _ _
    refine reg_in (l := [0, 1, 2, 3, 4, 5]) rfl ?_
    have F : FE_ _ [] a110 a110 := ⟨R, Ag_.refl _⟩; clear R
    refine sv_ gz6_11_0 (ym_ rfl (F.of h58)) fun a188 e => ?_
    have h60 := pt_ F e; replace F := pu_ F e; clear e
    obtain ⟨p, hp⟩ : ∃ p, ps[j]? = some p := ⟨_, List.getElem?_eq_getElem (by omega)⟩; obtain ⟨bA, oA, hA, -⟩ := tmsl_addr HS.out (show j < ps.length by omega); have HSA := Lib.hid hA; have HP := Lib.hid hp; clear hp hA; have hltA : (j : Int) < (ps.length : Int) := by omega
    have HJT := Lib.hid (join_take (xs_at HP.out)); have HXL : Hid ((p.1.tree.tx bareC).length ≤ 400000) := Lib.hid (by have h := HJL.out (j + 1) (by omega); rw [HJT.out, List.length_append] at h; omega)
    have Y : (execOp a188.eval oz6_11_1).run Tryz.prog w107 = .ok (.value (.pointer (some ⟨bA, oA + j * 4, none⟩))) w107 := by have r56 := F.of h56; have r58 := F.of h58; have hA := HSA.out; unfold oz6_11_1; go_simp
    refine sv_ gz6_11_1 Y fun a189 e => ?_; clear Y
    have h61 := pt_ F e; replace F := pu_ F e; replace h60 := so_ e h60; clear e
    have Y : (execOp a189.eval oz6_11_2).run Tryz.prog w107 = .ok (.value (.agg #[.int .i64 p.1.k, .string (str p.1.nm), .int .i64 p.1.i, .slice p.2.1 p.1.args.length p.2.2])) w107 := by obtain ⟨⟨c0, c1, c2, c3⟩, -⟩ := tmsl_at (tmsl_on HS.out K1) HSA.out HP.out; unfold oz6_11_2; go_simp
    refine sv_ gz6_11_2 Y fun a190 e => ?_; clear Y
    have h62 := pt_ F e; replace F := pu_ F e; replace h60 := so_ e h60; replace h61 := so_ e h61; clear e
    have Y : (execOp a190.eval oz6_11_3).run Tryz.prog w107 = .ok (.value (.pointer (some ⟨w107.heap.size, 0, none⟩))) (w107.alloc (.cells #[.int .i64 0, .string (⟨#[]⟩), .int .i64 0, .slice none 0 0] 24)) := by unfold oz6_11_3; go_simp
    have B191 := Blk.new w107 24 #[.int .i64 0, .string (⟨#[]⟩), .int .i64 0, .slice none 0 0]
    obtain ⟨w192, hw⟩ : ∃ x, x = w107.alloc (.cells #[.int .i64 0, .string (⟨#[]⟩), .int .i64 0, .slice none 0 0] 24) := ⟨_, rfl⟩; rw [← hw] at Y B191
    obtain ⟨b191, hb⟩ : ∃ x, x = w107.heap.size := ⟨_, rfl⟩; rw [← hb] at Y B191
    have LK1_b191 := lk_ hb K1; replace K1 := ka_ hw K1; clear hw hb
    refine sv_ gz6_11_3 Y fun a193 e => ?_; clear Y
    have h11 := pt_ F e; replace F := pu_ F e; replace h60 := so_ e h60; replace h61 := so_ e h61; replace h62 := so_ e h62; clear e
    refine sv_ gz6_11_4 (ya_ rfl h60) fun a194 e => ?_
    have h10 := pt_ F e; replace F := pu_ F e; replace h11 := so_ e h11; replace h60 := so_ e h60; replace h61 := so_ e h61; replace h62 := so_ e h62; clear e
    obtain ⟨w195, Y, hk, hB⟩ := ys4_ (o := oz6_11_5) rfl h11 h62 B191
    replace K1 := kx_ hk K1 (Nat.not_lt.2 LK1_b191); clear B191; have B191 := hB; clear hB hk
    refine st_skip gz6_11_5 rfl (wanted_free rfl) Y ?_; clear Y
    refine st_end ?_
    replace h0 := F.of h0; replace h1 := F.of h1; replace h6 := F.of h6; replace h8 := F.of h8; replace h9 := F.of h9; replace h56 := F.of h56; replace h57 := F.of h57; replace h58 := F.of h58; replace h59 := F.of h59; have R := F.r; clear F
    change (cz6_41).wp _ _ _ _
    refine wp_seq (x := cz6_42) (y := cz6_43) ?_
    change (Code.region 12 Oz6_12 false).wp _ _ _ _
    refine reg_in (l := [0, 1, 2, 3, 4, 5, 6]) rfl ?_
    have F : FE_ _ [] a194 a194 := ⟨R, Ag_.refl _⟩; clear R
    refine sv_ gz6_12_0 (yl4_ rfl (F.of h11) B191) fun a196 e => ?_
    have h64 := pt_ F e; replace F := pu_ F e; clear e
    have hcall := wText_any (tmsl_at (tmsl_on HS.out K1) HSA.out HP.out).2 (HV.out.up K1.size K1); rw [part_is HN.out (List.mem_map_of_mem (List.mem_of_getElem? HP.out))] at hcall
    refine st_call gz6_12_1 rfl (wanted_free rfl) (yc1_ enz6_1008 rfl h64) ((hcall).mono ?_)
    rintro e9 w197 ⟨rfl, kk⟩
    replace K1 := keep_onto K1 kk
    replace B191 := blk_on B191 kk
    clear hcall
    clear kk
    refine ⟨_, rfl, fun a198 e => ?_⟩
    have h65 := pt_ F e; replace F := pu_ F e; replace h64 := so_ e h64; clear e
    refine sv_ gz6_12_2 (ym_ rfl h65) fun a199 e => ?_
    have h63 := pt_ F e; replace F := pu_ F e; replace h64 := so_ e h64; replace h65 := so_ e h65; clear e
    refine sv_ gz6_12_3 (ye20_ rfl h63) fun a200 e => ?_
    have h66 := pt_ F e; replace F := pu_ F e; replace h63 := so_ e h63; replace h64 := so_ e h64; replace h65 := so_ e h65; clear e
    refine sv_ gz6_12_4 (ye21_ rfl h63) fun a201 e => ?_
    have h67 := pt_ F e; replace F := pu_ F e; replace h63 := so_ e h63; replace h64 := so_ e h64; replace h65 := so_ e h65; replace h66 := so_ e h66; clear e
    refine sv_ gz6_12_5 (ya_ rfl h66) fun a202 e => ?_
    have h12 := pt_ F e; replace F := pu_ F e; replace h63 := so_ e h63; replace h64 := so_ e h64; replace h65 := so_ e h65; replace h66 := so_ e h66; replace h67 := so_ e h67; clear e
    refine sv_ gz6_12_6 (ya_ rfl h67) fun a203 e => ?_
    have h13 := pt_ F e; replace F := pu_ F e; replace h12 := so_ e h12; replace h63 := so_ e h63; replace h64 := so_ e h64; replace h65 := so_ e h65; replace h66 := so_ e h66; replace h67 := so_ e h67; clear e
    refine st_end ?_
    replace h0 := F.of h0; replace h1 := F.of h1; replace h6 := F.of h6; replace h8 := F.of h8; replace h9 := F.of h9; replace h10 := F.of h10; replace h11 := F.of h11; replace h56 := F.of h56; replace h57 := F.of h57; replace h58 := F.of h58; replace h59 := F.of h59; replace h60 := F.of h60; replace h61 := F.of h61; replace h62 := F.of h62; have R := F.r; clear F
    change (cz6_43).wp _ _ _ _
    refine wp_seq (x := cz6_44) (y := cz6_51) ?_
    refine wp_seq (x := cz6_45) (y := cz6_46) ?_
    change (Code.region 13 Oz6_13 false).wp _ _ _ _
    refine reg_in (l := [0, 1]) rfl ?_
    have F : FE_ _ [] a203 a203 := ⟨R, Ag_.refl _⟩; clear R
    refine sv_ gz6_13_0 (ym_ rfl (F.of h13)) fun a204 e => ?_
    have h68 := pt_ F e; replace F := pu_ F e; clear e
    have Y : (execOp a204.eval oz6_13_1).run Tryz.prog w197 = .ok (.value (.bool false)) w197 := by unfold oz6_13_1; go_simp
    refine sv_ gz6_13_1 Y fun a205 e => ?_; clear Y
    have h69 := pt_ F e; replace F := pu_ F e; replace h68 := so_ e h68; clear e
    refine st_end ?_
    replace h0 := F.of h0; replace h1 := F.of h1; replace h6 := F.of h6; replace h8 := F.of h8; replace h9 := F.of h9; replace h10 := F.of h10; replace h11 := F.of h11; replace h12 := F.of h12; replace h13 := F.of h13; replace h56 := F.of h56; replace h57 := F.of h57; replace h58 := F.of h58; replace h59 := F.of h59; replace h60 := F.of h60; replace h61 := F.of h61; replace h62 := F.of h62; replace h63 := F.of h63; replace h64 := F.of h64; replace h65 := F.of h65; replace h66 := F.of h66; replace h67 := F.of h67; have R := F.r; clear F
    change (cz6_46).wp _ _ _ _
    refine wp_cond_false (x := cz6_47) (y := Code.skip) (eval_slot h69) ?_
    refine wp_skip ?_
    change (cz6_51).wp _ _ _ _
    refine wp_seq (x := cz6_52) (y := cz6_59) ?_
    refine wp_seq (x := cz6_53) (y := cz6_54) ?_
    change (Code.region 15 Oz6_15 false).wp _ _ _ _
    refine reg_in (l := [0, 1]) rfl ?_
    have F : FE_ _ [] a205 a205 := ⟨R, Ag_.refl _⟩; clear R
    refine sv_ gz6_15_0 (ym_ rfl (F.of h10)) fun a206 e => ?_
    have h70 := pt_ F e; replace F := pu_ F e; clear e
    obtain ⟨b207, hb207⟩ : ∃ x, (decide (0 < (j : Int))) = x := ⟨_, rfl⟩
    have Y : (execOp a206.eval oz6_15_1).run Tryz.prog w197 = .ok (.value (.bool b207)) w197 := by rw [← hb207]; unfold oz6_15_1; go_simp
    refine sv_ gz6_15_1 Y fun a208 e => ?_; clear Y
    have h71 := pt_ F e; replace F := pu_ F e; replace h70 := so_ e h70; clear e
    refine st_end ?_
    replace h0 := F.of h0; replace h1 := F.of h1; replace h6 := F.of h6; replace h8 := F.of h8; replace h9 := F.of h9; replace h10 := F.of h10; replace h11 := F.of h11; replace h12 := F.of h12; replace h13 := F.of h13; replace h56 := F.of h56; replace h57 := F.of h57; replace h58 := F.of h58; replace h59 := F.of h59; replace h60 := F.of h60; replace h61 := F.of h61; replace h62 := F.of h62; replace h63 := F.of h63; replace h64 := F.of h64; replace h65 := F.of h65; replace h66 := F.of h66; replace h67 := F.of h67; replace h68 := F.of h68; replace h69 := F.of h69; have R := F.r; clear F
    change (cz6_54).wp _ _ _ _
    cases b207 with
    | false =>
      have fb207 := hb207; clear hb207
      simp only [decide_eq_true_eq, decide_eq_false_iff_not, bne_iff_ne, bne_eq_false_iff_eq, beq_iff_eq, beq_eq_false_iff_ne, ne_eq, Bool.not_eq_true', Bool.not_eq_false', Bool.not_eq_eq_eq_not, Bool.not_true, Bool.not_false] at fb207
      refine wp_cond_false (x := cz6_55) (y := Code.skip) (eval_slot h71) ?_
      refine wp_skip ?_
      change (cz6_59).wp _ _ _ _
      refine wp_seq (x := cz6_60) (y := cz6_61) ?_
      change (Code.region 18 Oz6_18 false).wp _ _ _ _
      refine reg_in (l := [0, 1, 2, 3]) rfl ?_
      have F : FE_ _ [] a208 a208 := ⟨R, Ag_.refl _⟩; clear R
      refine sv_ gz6_18_0 (ym_ rfl (F.of h8)) fun a209 e => ?_
      have h76 := pt_ F e; replace F := pu_ F e; clear e
      refine sv_ gz6_18_1 (ym_ rfl (F.of h12)) fun a210 e => ?_
      have h77 := pt_ F e; replace F := pu_ F e; replace h76 := so_ e h76; clear e
      have Y : (execOp a210.eval oz6_18_2).run Tryz.prog w197 = .ok (.value (.string (str (joinX ((xsX ps).take (j + 1)))))) w197 := by have e1 : (str (joinX ((xsX ps).take j)) ++ str (p.1.tree.tx bareC) : ByteArray) = str (joinX ((xsX ps).take (j + 1))) := (by rw [app_str, HJT.out, if_neg (by omega), show j = 0 by omega]; rfl); unfold oz6_18_2; go_simp; have z1 := HJL.out j (by omega); have z2 := HFL.out; have z3 := HJL.out ps.length (Nat.le_refl _); rw [xs_all rfl] at z3; have z4 := HXL.out; simp only [str_size, List.length_append, List.length_cons, List.length_nil]; omega
      refine sv_ gz6_18_2 Y fun a211 e => ?_; clear Y
      have h78 := pt_ F e; replace F := pu_ F e; replace h76 := so_ e h76; replace h77 := so_ e h77; clear e
      refine sv_ gz6_18_3 (ya_ rfl h78) fun a212 e => ?_
      clear h8; have h8 := pt_ F e; replace F := pu_ F e; replace h76 := so_ e h76; replace h77 := so_ e h77; replace h78 := so_ e h78; clear e
      refine st_end ?_
      replace h0 := F.of h0; replace h1 := F.of h1; replace h6 := F.of h6; replace h9 := F.of h9; replace h10 := F.of h10; replace h11 := F.of h11; replace h12 := F.of h12; replace h13 := F.of h13; replace h56 := F.of h56; replace h57 := F.of h57; replace h58 := F.of h58; replace h59 := F.of h59; replace h60 := F.of h60; replace h61 := F.of h61; replace h62 := F.of h62; replace h63 := F.of h63; replace h64 := F.of h64; replace h65 := F.of h65; replace h66 := F.of h66; replace h67 := F.of h67; replace h68 := F.of h68; replace h69 := F.of h69; replace h70 := F.of h70; replace h71 := F.of h71; have R := F.r; clear F
      change (cz6_61).wp _ _ _ _
      change (Code.region 19 Oz6_19 false).wp _ _ _ _
      refine reg_in (l := [0, 1, 2, 3]) rfl ?_
      have F : FE_ _ [] a212 a212 := ⟨R, Ag_.refl _⟩; clear R
      refine sv_ gz6_19_0 (ym_ rfl (F.of h9)) fun a213 e => ?_
      have h79 := pt_ F e; replace F := pu_ F e; clear e
      refine sv_ gz6_19_1 (ym_ rfl (F.of h12)) fun a214 e => ?_
      have h80 := pt_ F e; replace F := pu_ F e; replace h79 := so_ e h79; clear e
      have Y : (execOp a214.eval oz6_19_2).run Tryz.prog w197 = .ok (.value (.string (str (joinX ((xsX ps).take (j + 1)))))) w197 := by have e1 : (str (joinX ((xsX ps).take j)) ++ str (p.1.tree.tx bareC) : ByteArray) = str (joinX ((xsX ps).take (j + 1))) := (by rw [app_str, HJT.out, if_neg (by omega), show j = 0 by omega]; rfl); unfold oz6_19_2; go_simp; have z1 := HJL.out j (by omega); have z2 := HFL.out; have z3 := HJL.out ps.length (Nat.le_refl _); rw [xs_all rfl] at z3; have z4 := HXL.out; simp only [str_size, List.length_append, List.length_cons, List.length_nil]; omega
      refine sv_ gz6_19_2 Y fun a215 e => ?_; clear Y
      have h81 := pt_ F e; replace F := pu_ F e; replace h79 := so_ e h79; replace h80 := so_ e h80; clear e
      refine sv_ gz6_19_3 (ya_ rfl h81) fun a216 e => ?_
      clear h9; have h9 := pt_ F e; replace F := pu_ F e; replace h79 := so_ e h79; replace h80 := so_ e h80; replace h81 := so_ e h81; clear e
      refine st_end ?_
      replace h0 := F.of h0; replace h1 := F.of h1; replace h6 := F.of h6; replace h8 := F.of h8; replace h10 := F.of h10; replace h11 := F.of h11; replace h12 := F.of h12; replace h13 := F.of h13; replace h56 := F.of h56; replace h57 := F.of h57; replace h58 := F.of h58; replace h59 := F.of h59; replace h60 := F.of h60; replace h61 := F.of h61; replace h62 := F.of h62; replace h63 := F.of h63; replace h64 := F.of h64; replace h65 := F.of h65; replace h66 := F.of h66; replace h67 := F.of h67; replace h68 := F.of h68; replace h69 := F.of h69; replace h70 := F.of h70; replace h71 := F.of h71; replace h76 := F.of h76; replace h77 := F.of h77; replace h78 := F.of h78; have R := F.r; clear F
      change (cz6_62).wp _ _ _ _
      change (Code.region 20 Oz6_20 false).wp _ _ _ _
      refine reg_in (l := [0, 1]) rfl ?_
      have F : FE_ _ [] a216 a216 := ⟨R, Ag_.refl _⟩; clear R
      have Y : (execOp a216.eval oz6_20_0).run Tryz.prog w197 = .ok (.value (.int .i64 ((j : Int) + 1))) w197 := by have r58 := F.of h58; have hwj : IntKind.i64.wrap ((j : Int) + 1) = (j : Int) + 1 := (by rw [IntKind.wrap_i64]; have := HLN.out; omega); unfold oz6_20_0; go_simp
      refine sv_ gz6_20_0 Y fun a217 e => ?_; clear Y
      have h82 := pt_ F e; replace F := pu_ F e; clear e
      refine sv_ gz6_20_1 (ym_ rfl h82) fun a218 e => ?_
      clear h58; have h58 := pt_ F e; replace F := pu_ F e; replace h82 := so_ e h82; clear e
      refine st_end ?_
      replace h0 := F.of h0; replace h1 := F.of h1; replace h6 := F.of h6; replace h8 := F.of h8; replace h9 := F.of h9; replace h10 := F.of h10; replace h11 := F.of h11; replace h12 := F.of h12; replace h13 := F.of h13; replace h56 := F.of h56; replace h57 := F.of h57; replace h59 := F.of h59; replace h60 := F.of h60; replace h61 := F.of h61; replace h62 := F.of h62; replace h63 := F.of h63; replace h64 := F.of h64; replace h65 := F.of h65; replace h66 := F.of h66; replace h67 := F.of h67; replace h68 := F.of h68; replace h69 := F.of h69; replace h70 := F.of h70; replace h71 := F.of h71; replace h76 := F.of h76; replace h77 := F.of h77; replace h78 := F.of h78; replace h79 := F.of h79; replace h80 := F.of h80; replace h81 := F.of h81; have R := F.r; clear F
      clear B191
      exact ⟨_, by omega, j + 1, rfl, R, h0, h1, h6, h8, h9, h56, h57, h58, K1, (by omega)⟩
    | true =>
      have fb207 := hb207; clear hb207
      simp only [decide_eq_true_eq, decide_eq_false_iff_not, bne_iff_ne, bne_eq_false_iff_eq, beq_iff_eq, beq_eq_false_iff_ne, ne_eq, Bool.not_eq_true', Bool.not_eq_false', Bool.not_eq_eq_eq_not, Bool.not_true, Bool.not_false] at fb207
      refine wp_cond_true (x := cz6_55) (y := Code.skip) (eval_slot h71) ?_
      refine wp_seq (x := cz6_56) (y := cz6_57) ?_
      change (Code.region 16 Oz6_16 false).wp _ _ _ _
      refine reg_in (l := [0, 1, 2]) rfl ?_
      have F : FE_ _ [] a208 a208 := ⟨R, Ag_.refl _⟩; clear R
      refine sv_ gz6_16_0 (ym_ rfl (F.of h8)) fun a219 e => ?_
      have h72 := pt_ F e; replace F := pu_ F e; clear e
      have Y : (execOp a219.eval oz6_16_1).run Tryz.prog w197 = .ok (.value (.string (str ((joinX ((xsX ps).take j)) ++ [44])))) w197 := by have e1 : (str (joinX ((xsX ps).take j)) ++ ⟨#[44]⟩ : ByteArray) = str ((joinX ((xsX ps).take j)) ++ [44]) := app_str _ [44]; unfold oz6_16_1; go_simp; have z1 := HJL.out j (by omega); have z2 := HFL.out; have z3 := HJL.out ps.length (Nat.le_refl _); rw [xs_all rfl] at z3; simp only [str_size, List.length_append, List.length_cons, List.length_nil]; omega
      refine sv_ gz6_16_1 Y fun a220 e => ?_; clear Y
      have h73 := pt_ F e; replace F := pu_ F e; replace h72 := so_ e h72; clear e
      refine sv_ gz6_16_2 (ya_ rfl h73) fun a221 e => ?_
      clear h8; have h8 := pt_ F e; replace F := pu_ F e; replace h72 := so_ e h72; replace h73 := so_ e h73; clear e
      refine st_end ?_
      replace h0 := F.of h0; replace h1 := F.of h1; replace h6 := F.of h6; replace h9 := F.of h9; replace h10 := F.of h10; replace h11 := F.of h11; replace h12 := F.of h12; replace h13 := F.of h13; replace h56 := F.of h56; replace h57 := F.of h57; replace h58 := F.of h58; replace h59 := F.of h59; replace h60 := F.of h60; replace h61 := F.of h61; replace h62 := F.of h62; replace h63 := F.of h63; replace h64 := F.of h64; replace h65 := F.of h65; replace h66 := F.of h66; replace h67 := F.of h67; replace h68 := F.of h68; replace h69 := F.of h69; replace h70 := F.of h70; replace h71 := F.of h71; have R := F.r; clear F
      change (cz6_57).wp _ _ _ _
      change (Code.region 17 Oz6_17 false).wp _ _ _ _
      refine reg_in (l := [0, 1, 2]) rfl ?_
      have F : FE_ _ [] a221 a221 := ⟨R, Ag_.refl _⟩; clear R
      refine sv_ gz6_17_0 (ym_ rfl (F.of h9)) fun a222 e => ?_
      have h74 := pt_ F e; replace F := pu_ F e; clear e
      have Y : (execOp a222.eval oz6_17_1).run Tryz.prog w197 = .ok (.value (.string (str ((joinX ((xsX ps).take j)) ++ [44])))) w197 := by have e1 : (str (joinX ((xsX ps).take j)) ++ ⟨#[44]⟩ : ByteArray) = str ((joinX ((xsX ps).take j)) ++ [44]) := app_str _ [44]; unfold oz6_17_1; go_simp; have z1 := HJL.out j (by omega); have z2 := HFL.out; have z3 := HJL.out ps.length (Nat.le_refl _); rw [xs_all rfl] at z3; simp only [str_size, List.length_append, List.length_cons, List.length_nil]; omega
      refine sv_ gz6_17_1 Y fun a223 e => ?_; clear Y
      have h75 := pt_ F e; replace F := pu_ F e; replace h74 := so_ e h74; clear e
      refine sv_ gz6_17_2 (ya_ rfl h75) fun a224 e => ?_
      clear h9; have h9 := pt_ F e; replace F := pu_ F e; replace h74 := so_ e h74; replace h75 := so_ e h75; clear e
      refine st_end ?_
      replace h0 := F.of h0; replace h1 := F.of h1; replace h6 := F.of h6; replace h8 := F.of h8; replace h10 := F.of h10; replace h11 := F.of h11; replace h12 := F.of h12; replace h13 := F.of h13; replace h56 := F.of h56; replace h57 := F.of h57; replace h58 := F.of h58; replace h59 := F.of h59; replace h60 := F.of h60; replace h61 := F.of h61; replace h62 := F.of h62; replace h63 := F.of h63; replace h64 := F.of h64; replace h65 := F.of h65; replace h66 := F.of h66; replace h67 := F.of h67; replace h68 := F.of h68; replace h69 := F.of h69; replace h70 := F.of h70; replace h71 := F.of h71; replace h72 := F.of h72; replace h73 := F.of h73; have R := F.r; clear F
      change (cz6_59).wp _ _ _ _
      refine wp_seq (x := cz6_60) (y := cz6_61) ?_
      change (Code.region 18 Oz6_18 false).wp _ _ _ _
      refine reg_in (l := [0, 1, 2, 3]) rfl ?_
      have F : FE_ _ [] a224 a224 := ⟨R, Ag_.refl _⟩; clear R
      refine sv_ gz6_18_0 (ym_ rfl (F.of h8)) fun a225 e => ?_
      have h76 := pt_ F e; replace F := pu_ F e; clear e
      refine sv_ gz6_18_1 (ym_ rfl (F.of h12)) fun a226 e => ?_
      have h77 := pt_ F e; replace F := pu_ F e; replace h76 := so_ e h76; clear e
      have Y : (execOp a226.eval oz6_18_2).run Tryz.prog w197 = .ok (.value (.string (str (joinX ((xsX ps).take (j + 1)))))) w197 := by have e1 : (str ((joinX ((xsX ps).take j)) ++ [44]) ++ str (p.1.tree.tx bareC) : ByteArray) = str (joinX ((xsX ps).take (j + 1))) := (by rw [app_str, HJT.out, if_pos (by omega)]); unfold oz6_18_2; go_simp; have z1 := HJL.out j (by omega); have z2 := HFL.out; have z3 := HJL.out ps.length (Nat.le_refl _); rw [xs_all rfl] at z3; have z4 := HXL.out; simp only [str_size, List.length_append, List.length_cons, List.length_nil]; omega
      refine sv_ gz6_18_2 Y fun a227 e => ?_; clear Y
      have h78 := pt_ F e; replace F := pu_ F e; replace h76 := so_ e h76; replace h77 := so_ e h77; clear e
      refine sv_ gz6_18_3 (ya_ rfl h78) fun a228 e => ?_
      clear h8; have h8 := pt_ F e; replace F := pu_ F e; replace h76 := so_ e h76; replace h77 := so_ e h77; replace h78 := so_ e h78; clear e
      refine st_end ?_
      replace h0 := F.of h0; replace h1 := F.of h1; replace h6 := F.of h6; replace h9 := F.of h9; replace h10 := F.of h10; replace h11 := F.of h11; replace h12 := F.of h12; replace h13 := F.of h13; replace h56 := F.of h56; replace h57 := F.of h57; replace h58 := F.of h58; replace h59 := F.of h59; replace h60 := F.of h60; replace h61 := F.of h61; replace h62 := F.of h62; replace h63 := F.of h63; replace h64 := F.of h64; replace h65 := F.of h65; replace h66 := F.of h66; replace h67 := F.of h67; replace h68 := F.of h68; replace h69 := F.of h69; replace h70 := F.of h70; replace h71 := F.of h71; replace h72 := F.of h72; replace h73 := F.of h73; replace h74 := F.of h74; replace h75 := F.of h75; have R := F.r; clear F
      change (cz6_61).wp _ _ _ _
      change (Code.region 19 Oz6_19 false).wp _ _ _ _
      refine reg_in (l := [0, 1, 2, 3]) rfl ?_
      have F : FE_ _ [] a228 a228 := ⟨R, Ag_.refl _⟩; clear R
      refine sv_ gz6_19_0 (ym_ rfl (F.of h9)) fun a229 e => ?_
      have h79 := pt_ F e; replace F := pu_ F e; clear e
      refine sv_ gz6_19_1 (ym_ rfl (F.of h12)) fun a230 e => ?_
      have h80 := pt_ F e; replace F := pu_ F e; replace h79 := so_ e h79; clear e
      have Y : (execOp a230.eval oz6_19_2).run Tryz.prog w197 = .ok (.value (.string (str (joinX ((xsX ps).take (j + 1)))))) w197 := by have e1 : (str ((joinX ((xsX ps).take j)) ++ [44]) ++ str (p.1.tree.tx bareC) : ByteArray) = str (joinX ((xsX ps).take (j + 1))) := (by rw [app_str, HJT.out, if_pos (by omega)]); unfold oz6_19_2; go_simp; have z1 := HJL.out j (by omega); have z2 := HFL.out; have z3 := HJL.out ps.length (Nat.le_refl _); rw [xs_all rfl] at z3; have z4 := HXL.out; simp only [str_size, List.length_append, List.length_cons, List.length_nil]; omega
      refine sv_ gz6_19_2 Y fun a231 e => ?_; clear Y
      have h81 := pt_ F e; replace F := pu_ F e; replace h79 := so_ e h79; replace h80 := so_ e h80; clear e
      refine sv_ gz6_19_3 (ya_ rfl h81) fun a232 e => ?_
      clear h9; have h9 := pt_ F e; replace F := pu_ F e; replace h79 := so_ e h79; replace h80 := so_ e h80; replace h81 := so_ e h81; clear e
      refine st_end ?_
      replace h0 := F.of h0; replace h1 := F.of h1; replace h6 := F.of h6; replace h8 := F.of h8; replace h10 := F.of h10; replace h11 := F.of h11; replace h12 := F.of h12; replace h13 := F.of h13; replace h56 := F.of h56; replace h57 := F.of h57; replace h58 := F.of h58; replace h59 := F.of h59; replace h60 := F.of h60; replace h61 := F.of h61; replace h62 := F.of h62; replace h63 := F.of h63; replace h64 := F.of h64; replace h65 := F.of h65; replace h66 := F.of h66; replace h67 := F.of h67; replace h68 := F.of h68; replace h69 := F.of h69; replace h70 := F.of h70; replace h71 := F.of h71; replace h72 := F.of h72; replace h73 := F.of h73; replace h74 := F.of h74; replace h75 := F.of h75; replace h76 := F.of h76; replace h77 := F.of h77; replace h78 := F.of h78; have R := F.r; clear F
      change (cz6_62).wp _ _ _ _
      change (Code.region 20 Oz6_20 false).wp _ _ _ _
      refine reg_in (l := [0, 1]) rfl ?_
      have F : FE_ _ [] a232 a232 := ⟨R, Ag_.refl _⟩; clear R
      have Y : (execOp a232.eval oz6_20_0).run Tryz.prog w197 = .ok (.value (.int .i64 ((j : Int) + 1))) w197 := by have r58 := F.of h58; have hwj : IntKind.i64.wrap ((j : Int) + 1) = (j : Int) + 1 := (by rw [IntKind.wrap_i64]; have := HLN.out; omega); unfold oz6_20_0; go_simp
      refine sv_ gz6_20_0 Y fun a233 e => ?_; clear Y
      have h82 := pt_ F e; replace F := pu_ F e; clear e
      refine sv_ gz6_20_1 (ym_ rfl h82) fun a234 e => ?_
      clear h58; have h58 := pt_ F e; replace F := pu_ F e; replace h82 := so_ e h82; clear e
      refine st_end ?_
      replace h0 := F.of h0; replace h1 := F.of h1; replace h6 := F.of h6; replace h8 := F.of h8; replace h9 := F.of h9; replace h10 := F.of h10; replace h11 := F.of h11; replace h12 := F.of h12; replace h13 := F.of h13; replace h56 := F.of h56; replace h57 := F.of h57; replace h59 := F.of h59; replace h60 := F.of h60; replace h61 := F.of h61; replace h62 := F.of h62; replace h63 := F.of h63; replace h64 := F.of h64; replace h65 := F.of h65; replace h66 := F.of h66; replace h67 := F.of h67; replace h68 := F.of h68; replace h69 := F.of h69; replace h70 := F.of h70; replace h71 := F.of h71; replace h72 := F.of h72; replace h73 := F.of h73; replace h74 := F.of h74; replace h75 := F.of h75; replace h76 := F.of h76; replace h77 := F.of h77; replace h78 := F.of h78; replace h79 := F.of h79; replace h80 := F.of h80; replace h81 := F.of h81; have R := F.r; clear F
      clear B191
      exact ⟨_, by omega, j + 1, rfl, R, h0, h1, h6, h8, h9, h56, h57, h58, K1, (by omega)⟩
set_option maxRecDepth 100000 in
set_option maxHeartbeats 4000000 in
theorem parts_w {W : World} {nm : List UInt8} {sa : Option Addr} {sc : Nat} {ps : List TP} {f0 : Act} {w0 : World} (R : FrS 139 f0) (h0 : f0.tmps[0]? = some (.string (str nm))) (h1 : f0.tmps[1]? = some (.slice sa ps.length sc)) (K1 : Keep (fun g => g < W.heap.size) W w0)  (HV : Hid (VarsAt W.heap.size W)) (HS : Hid (TmSl W.heap.size W sa ps)) (HNM : Hid (nm.length ≤ maxLen)) (HPM : Hid (ps.length ≤ maxLen)) : cz6_0.wp Tryz.prog (bodyPost Tryz.prog Tryz.f6 (fun e w' => e = .returned (.bool true) ∧ Keep (fun g => g < W.heap.size) W w')) f0 w0 := by
  refine wp_seq (x := cz6_1) (y := cz6_2) ?_
  change (Code.region 0 Oz6_0 false).wp _ _ _ _
  refine reg_in (l := [0]) rfl ?_
  have F : FE_ _ [] f0 f0 := ⟨R, Ag_.refl _⟩; clear R
  have Y : (execOp f0.eval oz6_0_0).run Tryz.prog w0 = .ok (.value (.bool false)) w0 := by unfold oz6_0_0; go_simp
  refine sv_ gz6_0_0 Y fun a101 e => ?_; clear Y
  have h4 := pt_ F e; replace F := pu_ F e; clear e
  refine st_end ?_
  replace h0 := F.of h0; replace h1 := F.of h1; have R := F.r; clear F
  change (cz6_2).wp _ _ _ _
  refine wp_seq (x := cz6_3) (y := cz6_10) ?_
  refine wp_seq (x := cz6_4) (y := cz6_5) ?_
  change (Code.region 1 Oz6_1 false).wp _ _ _ _
  refine reg_in (l := [0, 1]) rfl ?_
  have F : FE_ _ [] a101 a101 := ⟨R, Ag_.refl _⟩; clear R
  have Y : (execOp a101.eval oz6_1_0).run Tryz.prog w0 = .ok (.enter 7 #[]) w0 := by unfold oz6_1_0; go_simp
  refine st_call gz6_1_0 rfl (wanted_free rfl) Y ((alive_any w0 (HV.out.up K1.size K1)).mono ?_); clear Y
  rintro e9 w102 ⟨rfl, kk⟩
  replace K1 := keep_onto K1 kk
  clear kk
  refine ⟨_, rfl, fun a103 e => ?_⟩
  have h21 := pt_ F e; replace F := pu_ F e; clear e
  have Y : (execOp a103.eval oz6_1_1).run Tryz.prog w102 = .ok (.value (.bool false)) w102 := by unfold oz6_1_1; go_simp
  refine sv_ gz6_1_1 Y fun a104 e => ?_; clear Y
  clear h21; have h22 := pt_ F e; replace F := pu_ F e; clear e
  refine st_end ?_
  replace h0 := F.of h0; replace h1 := F.of h1; replace h4 := F.of h4; have R := F.r; clear F
  change (cz6_5).wp _ _ _ _
  refine wp_cond_false (x := cz6_6) (y := Code.skip) (eval_slot h22) ?_
  refine wp_skip ?_
  change (cz6_10).wp _ _ _ _
  refine wp_seq (x := cz6_11) (y := cz6_12) ?_
  change (Code.region 3 Oz6_3 false).wp _ _ _ _
  refine reg_in (l := [0, 1, 2, 3, 4]) rfl ?_
  have F : FE_ _ [] a104 a104 := ⟨R, Ag_.refl _⟩; clear R
  refine sv_ gz6_3_0 (ym_ rfl (F.of h0)) fun a105 e => ?_
  have h23 := pt_ F e; replace F := pu_ F e; clear e
  refine sv_ gz6_3_1 (ym_ rfl (F.of h1)) fun a106 e => ?_
  have h24 := pt_ F e; replace F := pu_ F e; replace h23 := so_ e h23; clear e
  have Y : (execOp a106.eval oz6_3_2).run Tryz.prog w102 = .ok (.value (.agg #[.int .i64 4, .string (str nm), .int .i64 0, .slice sa ps.length sc])) w102 := by unfold oz6_3_2; go_simp
  refine sv_ gz6_3_2 Y fun a107 e => ?_; clear Y
  clear h23 h24; have h25 := pt_ F e; replace F := pu_ F e; clear e
  have Y : (execOp a107.eval oz6_3_3).run Tryz.prog w102 = .ok (.value (.pointer (some ⟨w102.heap.size, 0, none⟩))) (w102.alloc (.cells #[.int .i64 0, .string (⟨#[]⟩), .int .i64 0, .slice none 0 0] 24)) := by unfold oz6_3_3; go_simp
  have B108 := Blk.new w102 24 #[.int .i64 0, .string (⟨#[]⟩), .int .i64 0, .slice none 0 0]
  obtain ⟨w109, hw⟩ : ∃ x, x = w102.alloc (.cells #[.int .i64 0, .string (⟨#[]⟩), .int .i64 0, .slice none 0 0] 24) := ⟨_, rfl⟩; rw [← hw] at Y B108
  obtain ⟨b108, hb⟩ : ∃ x, x = w102.heap.size := ⟨_, rfl⟩; rw [← hb] at Y B108
  have LK1_b108 := lk_ hb K1; replace K1 := ka_ hw K1; clear hw hb
  refine sv_ gz6_3_3 Y fun a110 e => ?_; clear Y
  have h5 := pt_ F e; replace F := pu_ F e; replace h25 := so_ e h25; clear e
  obtain ⟨w111, Y, hk, hB⟩ := ys4_ (o := oz6_3_4) rfl h5 h25 B108
  replace K1 := kx_ hk K1 (Nat.not_lt.2 LK1_b108); clear B108; have B108 := hB; clear hB hk
  refine st_skip gz6_3_4 rfl (wanted_free rfl) Y ?_; clear Y
  refine st_end ?_
  replace h0 := F.of h0; replace h1 := F.of h1; replace h4 := F.of h4; clear h22; clear h25; have R := F.r; clear F
  change (cz6_12).wp _ _ _ _
  refine wp_seq (x := cz6_13) (y := cz6_14) ?_
  change (Code.region 4 Oz6_4 false).wp _ _ _ _
  refine reg_in (l := [0, 1, 2, 3, 4, 5, 6]) rfl ?_
  have F : FE_ _ [] a110 a110 := ⟨R, Ag_.refl _⟩; clear R
  refine sv_ gz6_4_0 (yl4_ rfl (F.of h5) B108) fun a112 e => ?_
  have h27 := pt_ F e; replace F := pu_ F e; clear e
  have hcall := wText_any (tm_of_sl (c := sc) (nm := nm) (tmsl_on HS.out K1) HNM.out HPM.out) (HV.out.up K1.size K1); rw [tv_sl] at hcall
  refine st_call gz6_4_1 rfl (wanted_free rfl) (yc1_ enz6_1008 rfl h27) ((hcall).mono ?_)
  rintro e9 w113 ⟨rfl, kk⟩
  replace K1 := keep_onto K1 kk
  replace B108 := blk_on B108 kk
  clear hcall
  clear kk
  refine ⟨_, rfl, fun a114 e => ?_⟩
  clear h27; have h28 := pt_ F e; replace F := pu_ F e; clear e
  refine sv_ gz6_4_2 (ym_ rfl h28) fun a115 e => ?_
  clear h28; have h26 := pt_ F e; replace F := pu_ F e; clear e
  refine sv_ gz6_4_3 (ye20_ rfl h26) fun a116 e => ?_
  have h29 := pt_ F e; replace F := pu_ F e; replace h26 := so_ e h26; clear e
  refine sv_ gz6_4_4 (ye21_ rfl h26) fun a117 e => ?_
  clear h26; have h30 := pt_ F e; replace F := pu_ F e; replace h29 := so_ e h29; clear e
  refine sv_ gz6_4_5 (ya_ rfl h29) fun a118 e => ?_
  clear h29; have h6 := pt_ F e; replace F := pu_ F e; replace h30 := so_ e h30; clear e
  refine sv_ gz6_4_6 (ya_ rfl h30) fun a119 e => ?_
  clear h30; have h7 := pt_ F e; replace F := pu_ F e; replace h6 := so_ e h6; clear e
  refine st_end ?_
  replace h0 := F.of h0; replace h1 := F.of h1; replace h4 := F.of h4; clear h5; have R := F.r; clear F
  change (cz6_14).wp _ _ _ _
  refine wp_seq (x := cz6_15) (y := cz6_22) ?_
  refine wp_seq (x := cz6_16) (y := cz6_17) ?_
  change (Code.region 5 Oz6_5 false).wp _ _ _ _
  refine reg_in (l := [0, 1, 2, 3, 4, 5, 6, 7, 8, 9, 10, 11, 12, 13, 14, 15, 16, 17, 18]) rfl ?_
  have F : FE_ _ [] a119 a119 := ⟨R, Ag_.refl _⟩; clear R
  refine sv_ gz6_5_0 (ym_ rfl (F.of h7)) fun a120 e => ?_
  have h31 := pt_ F e; replace F := pu_ F e; clear e
  obtain ⟨l0, hl0⟩ : ∃ q, ((txV (partT nm ps)).2 != 0) = q := ⟨_, rfl⟩; have HL0 := Lib.hid hl0; clear hl0
  have Y : (execOp a120.eval oz6_5_1).run Tryz.prog w113 = .ok (.value (.bool l0)) w113 := by have e1 : ((txV (partT nm ps)).2 != 0) = l0 := HL0.out; unfold oz6_5_1; go_simp
  refine sv_ gz6_5_1 Y fun a121 e => ?_; clear Y
  clear h31; have h32 := pt_ F e; replace F := pu_ F e; clear e
  refine sv_ gz6_5_2 (ym_ rfl h32) fun a122 e => ?_
  clear h32; have h33 := pt_ F e; replace F := pu_ F e; clear e
  cases l0 with
  | false =>
    refine st_val gz6_5_3 rfl (wanted_is (j := 2) (d := 33) rfl rfl h33 rfl) (ym_ rfl (F.of h0)) fun a123 e => ?_
    have h34 := pt_ F e; replace F := pu_ F e; replace h33 := so_ e h33; clear e
    obtain ⟨l1, hl1⟩ : ∃ q, ((str nm).toList == [46]) = q := ⟨_, rfl⟩; have HL1 := Lib.hid hl1; clear hl1
    have Y : (execOp a123.eval oz6_5_4).run Tryz.prog w113 = .ok (.value (.bool l1)) w113 := by have e1 : ((str nm).toList == [46]) = l1 := HL1.out; unfold oz6_5_4; go_simp
    refine st_val gz6_5_4 rfl (wanted_is (j := 2) (d := 33) rfl rfl h33 rfl) Y fun a124 e => ?_; clear Y
    clear h34; have h35 := pt_ F e; replace F := pu_ F e; replace h33 := so_ e h33; clear e
    refine st_val gz6_5_5 rfl (wanted_is (j := 2) (d := 33) rfl rfl h33 rfl) (ym_ rfl h35) fun a125 e => ?_
    clear h35; have h36 := pt_ F e; replace F := pu_ F e; replace h33 := so_ e h33; clear e
    cases l1 with
    | false =>
      refine st_not gz6_5_6 rfl (wanted_is (j := 5) (d := 36) rfl rfl h36 rfl) fun a126 e => ?_
      have h37 := pt_ F e; replace F := pu_ F e; replace h33 := so_ e h33; replace h36 := so_ e h36; clear e
      refine st_not gz6_5_7 rfl (wanted_is (j := 5) (d := 36) rfl rfl h36 rfl) fun a127 e => ?_
      clear h37; have h38 := pt_ F e; replace F := pu_ F e; replace h33 := so_ e h33; replace h36 := so_ e h36; clear e
      refine st_not gz6_5_8 rfl (wanted_is (j := 5) (d := 36) rfl rfl h36 rfl) fun a128 e => ?_
      clear h38; have h39 := pt_ F e; replace F := pu_ F e; replace h33 := so_ e h33; replace h36 := so_ e h36; clear e
      have Y : (execOp a128.eval oz6_5_9).run Tryz.prog w113 = .ok (.value (.bool false)) w113 := by unfold oz6_5_9; go_simp
      refine st_val gz6_5_9 rfl (wanted_is (j := 2) (d := 33) rfl rfl h33 rfl) Y fun a129 e => ?_; clear Y
      clear h36 h39; have h40 := pt_ F e; replace F := pu_ F e; replace h33 := so_ e h33; clear e
      have Y : (execOp a129.eval oz6_5_10).run Tryz.prog w113 = .ok (.value (.bool false)) w113 := by unfold oz6_5_10; go_simp
      refine sv_ gz6_5_10 Y fun a130 e => ?_; clear Y
      clear h33 h40; have h41 := pt_ F e; replace F := pu_ F e; clear e
      refine sv_ gz6_5_11 (ym_ rfl h41) fun a131 e => ?_
      clear h41; have h42 := pt_ F e; replace F := pu_ F e; clear e
      refine st_val gz6_5_12 rfl (wanted_is (j := 11) (d := 42) rfl rfl h42 rfl) (ym_ rfl (F.of h0)) fun a132 e => ?_
      have h43 := pt_ F e; replace F := pu_ F e; replace h42 := so_ e h42; clear e
      obtain ⟨l3, hl3⟩ : ∃ q, ((str nm).toList == [91, 93]) = q := ⟨_, rfl⟩; have HL3 := Lib.hid hl3; clear hl3
      have Y : (execOp a132.eval oz6_5_13).run Tryz.prog w113 = .ok (.value (.bool l3)) w113 := by have e1 : ((str nm).toList == [91, 93]) = l3 := HL3.out; unfold oz6_5_13; go_simp
      refine st_val gz6_5_13 rfl (wanted_is (j := 11) (d := 42) rfl rfl h42 rfl) Y fun a133 e => ?_; clear Y
      clear h43; have h44 := pt_ F e; replace F := pu_ F e; replace h42 := so_ e h42; clear e
      have Y : (execOp a133.eval oz6_5_14).run Tryz.prog w113 = .ok (.value (.bool l3)) w113 := by unfold oz6_5_14; go_simp
      refine sv_ gz6_5_14 Y fun a134 e => ?_; clear Y
      clear h42 h44; have h45 := pt_ F e; replace F := pu_ F e; clear e
      refine sv_ gz6_5_15 (ym_ rfl h45) fun a135 e => ?_
      clear h45; have h46 := pt_ F e; replace F := pu_ F e; clear e
      cases l3 with
      | false =>
        refine st_val gz6_5_16 rfl (wanted_is (j := 15) (d := 46) rfl rfl h46 rfl) (ym_ rfl (F.of h0)) fun a136 e => ?_
        have h47 := pt_ F e; replace F := pu_ F e; replace h46 := so_ e h46; clear e
        obtain ⟨l4, hl4⟩ : ∃ q, ((str nm).toList == [123, 125]) = q := ⟨_, rfl⟩; have HL4 := Lib.hid hl4; clear hl4
        have Y : (execOp a136.eval oz6_5_17).run Tryz.prog w113 = .ok (.value (.bool l4)) w113 := by have e1 : ((str nm).toList == [123, 125]) = l4 := HL4.out; unfold oz6_5_17; go_simp
        refine st_val gz6_5_17 rfl (wanted_is (j := 15) (d := 46) rfl rfl h46 rfl) Y fun a137 e => ?_; clear Y
        clear h47; have h48 := pt_ F e; replace F := pu_ F e; replace h46 := so_ e h46; clear e
        have Y : (execOp a137.eval oz6_5_18).run Tryz.prog w113 = .ok (.value (.bool l4)) w113 := by unfold oz6_5_18; go_simp
        refine sv_ gz6_5_18 Y fun a138 e => ?_; clear Y
        clear h46 h48; have h49 := pt_ F e; replace F := pu_ F e; clear e
        refine st_end ?_
        replace h0 := F.of h0; replace h1 := F.of h1; replace h4 := F.of h4; replace h6 := F.of h6; replace h7 := F.of h7; have R := F.r; clear F
        change (cz6_17).wp _ _ _ _
        cases l4 with
        | false =>
          refine wp_cond_false (x := cz6_18) (y := Code.skip) (eval_slot h49) ?_
          refine wp_skip ?_
          have HDD : Hid (¬ (nm = [46] ∧ ps.length = 2)) := Lib.hid (fun h => by first | (have h1 := HL1.out; rw [str_list, h.1] at h1; simp at h1; done) | (have h2 := HL2.out; rw [h.2] at h2; simp at h2)); have HLC := Lib.hid (len_comp (tm_of_sl (c := sc) (nm := nm) (tmsl_on HS.out K1) HNM.out HPM.out) (by have h := HL0.out; simpa using h) HDD.out)
          exact parts_tail R h0 h1 h6 K1 HV HS (Lib.hid (by have h := (parts_of (nm := nm) (ts := ps.map (·.1)) (by have h := HL0.out; simpa using h)).2.2.1; rw [List.length_map] at h; omega)) (Lib.hid (by have h := HL0.out; simpa using h)) HDD (Lib.hid (fun h => by have h1 := HL3.out; rw [str_list, h] at h1; simp at h1)) (Lib.hid (fun h => by have h1 := HL4.out; rw [str_list, h] at h1; simp at h1)) (Lib.hid HLC.out.1) (Lib.hid HLC.out.2)
        | true =>
          refine wp_cond_true (x := cz6_18) (y := Code.skip) (eval_slot h49) ?_
          refine wp_seq (x := cz6_19) (y := Code.ret) ?_
          change (Code.region 6 Oz6_6 false).wp _ _ _ _
          refine reg_in (l := [0, 1, 2, 3, 4, 5, 6]) rfl ?_
          have F : FE_ _ [] a138 a138 := ⟨R, Ag_.refl _⟩; clear R
          refine sv_ gz6_6_0 (ym_ rfl (F.of h7)) fun a139 e => ?_
          have h50 := pt_ F e; replace F := pu_ F e; clear e
          obtain ⟨m0, hm0⟩ : ∃ q, ((txV (partT nm ps)).2 == 0) = q := ⟨_, rfl⟩; have HM := Lib.hid hm0; clear hm0
          have Y : (execOp a139.eval oz6_6_1).run Tryz.prog w113 = .ok (.value (.bool m0)) w113 := by have e1 : ((txV (partT nm ps)).2 == 0) = m0 := HM.out; unfold oz6_6_1; go_simp
          refine sv_ gz6_6_1 Y fun a140 e => ?_; clear Y
          clear h50; have h51 := pt_ F e; replace F := pu_ F e; clear e
          refine sv_ gz6_6_2 (ym_ rfl h51) fun a141 e => ?_
          clear h51; have h52 := pt_ F e; replace F := pu_ F e; clear e
          cases m0 with
          | false =>
            refine st_val gz6_6_3 rfl (wanted_is (j := 2) (d := 52) rfl rfl h52 rfl) (ym_ rfl (F.of h6)) fun a142 e => ?_
            have h53 := pt_ F e; replace F := pu_ F e; replace h52 := so_ e h52; clear e
            have Y : (execOp a142.eval oz6_6_4).run Tryz.prog w113 = .ok (.value (.bool true)) w113 := by have e1 : ((str (txV (partT nm ps)).1).toList == []) = true := (by rw [txV_bad (by have h := HM.out; simpa using h), str_list]; rfl); unfold oz6_6_4; go_simp
            refine st_val gz6_6_4 rfl (wanted_is (j := 2) (d := 52) rfl rfl h52 rfl) Y fun a143 e => ?_; clear Y
            clear h53; have h54 := pt_ F e; replace F := pu_ F e; replace h52 := so_ e h52; clear e
            have Y : (execOp a143.eval oz6_6_5).run Tryz.prog w113 = .ok (.value (.bool true)) w113 := by unfold oz6_6_5; go_simp
            refine sv_ gz6_6_5 Y fun a144 e => ?_; clear Y
            clear h52 h54; have h55 := pt_ F e; replace F := pu_ F e; clear e
            refine sv_ gz6_6_6 (ya_ rfl h55) fun a145 e => ?_
            clear h55 h4; have h4 := pt_ F e; replace F := pu_ F e; clear e
            refine st_end ?_
            replace h0 := F.of h0; replace h1 := F.of h1; replace h6 := F.of h6; clear h7; clear h49; have R := F.r; clear F
            change (Code.ret).wp _ _ _ _
            refine wp_ret ?_
            change bodyPost Tryz.prog Tryz.f6 (fun e w' => e = .returned (.bool true) ∧ Keep (fun g => g < W.heap.size) W w') .ret a145 w113
            refine ret_one rfl R h4 ?_
            exact ⟨rfl, K1⟩
          | true =>
            refine st_not gz6_6_3 rfl (wanted_is (j := 2) (d := 52) rfl rfl h52 rfl) fun a146 e => ?_
            have h53 := pt_ F e; replace F := pu_ F e; replace h52 := so_ e h52; clear e
            refine st_not gz6_6_4 rfl (wanted_is (j := 2) (d := 52) rfl rfl h52 rfl) fun a147 e => ?_
            clear h53; have h54 := pt_ F e; replace F := pu_ F e; replace h52 := so_ e h52; clear e
            have Y : (execOp a147.eval oz6_6_5).run Tryz.prog w113 = .ok (.value (.bool true)) w113 := by unfold oz6_6_5; go_simp
            refine sv_ gz6_6_5 Y fun a148 e => ?_; clear Y
            clear h52 h54; have h55 := pt_ F e; replace F := pu_ F e; clear e
            refine sv_ gz6_6_6 (ya_ rfl h55) fun a149 e => ?_
            clear h55 h4; have h4 := pt_ F e; replace F := pu_ F e; clear e
            refine st_end ?_
            replace h0 := F.of h0; replace h1 := F.of h1; replace h6 := F.of h6; clear h7; clear h49; have R := F.r; clear F
            change (Code.ret).wp _ _ _ _
            refine wp_ret ?_
            change bodyPost Tryz.prog Tryz.f6 (fun e w' => e = .returned (.bool true) ∧ Keep (fun g => g < W.heap.size) W w') .ret a149 w113
            refine ret_one rfl R h4 ?_
            exact ⟨rfl, K1⟩
      | true =>
        refine st_not gz6_5_16 rfl (wanted_is (j := 15) (d := 46) rfl rfl h46 rfl) fun a150 e => ?_
        have h47 := pt_ F e; replace F := pu_ F e; replace h46 := so_ e h46; clear e
        refine st_not gz6_5_17 rfl (wanted_is (j := 15) (d := 46) rfl rfl h46 rfl) fun a151 e => ?_
        clear h47; have h48 := pt_ F e; replace F := pu_ F e; replace h46 := so_ e h46; clear e
        have Y : (execOp a151.eval oz6_5_18).run Tryz.prog w113 = .ok (.value (.bool true)) w113 := by unfold oz6_5_18; go_simp
        refine sv_ gz6_5_18 Y fun a152 e => ?_; clear Y
        clear h46 h48; have h49 := pt_ F e; replace F := pu_ F e; clear e
        refine st_end ?_
        replace h0 := F.of h0; replace h1 := F.of h1; replace h4 := F.of h4; replace h6 := F.of h6; replace h7 := F.of h7; have R := F.r; clear F
        change (cz6_17).wp _ _ _ _
        refine wp_cond_true (x := cz6_18) (y := Code.skip) (eval_slot h49) ?_
        refine wp_seq (x := cz6_19) (y := Code.ret) ?_
        change (Code.region 6 Oz6_6 false).wp _ _ _ _
        refine reg_in (l := [0, 1, 2, 3, 4, 5, 6]) rfl ?_
        have F : FE_ _ [] a152 a152 := ⟨R, Ag_.refl _⟩; clear R
        refine sv_ gz6_6_0 (ym_ rfl (F.of h7)) fun a153 e => ?_
        have h50 := pt_ F e; replace F := pu_ F e; clear e
        obtain ⟨m0, hm0⟩ : ∃ q, ((txV (partT nm ps)).2 == 0) = q := ⟨_, rfl⟩; have HM := Lib.hid hm0; clear hm0
        have Y : (execOp a153.eval oz6_6_1).run Tryz.prog w113 = .ok (.value (.bool m0)) w113 := by have e1 : ((txV (partT nm ps)).2 == 0) = m0 := HM.out; unfold oz6_6_1; go_simp
        refine sv_ gz6_6_1 Y fun a154 e => ?_; clear Y
        clear h50; have h51 := pt_ F e; replace F := pu_ F e; clear e
        refine sv_ gz6_6_2 (ym_ rfl h51) fun a155 e => ?_
        clear h51; have h52 := pt_ F e; replace F := pu_ F e; clear e
        cases m0 with
        | false =>
          refine st_val gz6_6_3 rfl (wanted_is (j := 2) (d := 52) rfl rfl h52 rfl) (ym_ rfl (F.of h6)) fun a156 e => ?_
          have h53 := pt_ F e; replace F := pu_ F e; replace h52 := so_ e h52; clear e
          have Y : (execOp a156.eval oz6_6_4).run Tryz.prog w113 = .ok (.value (.bool true)) w113 := by have e1 : ((str (txV (partT nm ps)).1).toList == []) = true := (by rw [txV_bad (by have h := HM.out; simpa using h), str_list]; rfl); unfold oz6_6_4; go_simp
          refine st_val gz6_6_4 rfl (wanted_is (j := 2) (d := 52) rfl rfl h52 rfl) Y fun a157 e => ?_; clear Y
          clear h53; have h54 := pt_ F e; replace F := pu_ F e; replace h52 := so_ e h52; clear e
          have Y : (execOp a157.eval oz6_6_5).run Tryz.prog w113 = .ok (.value (.bool true)) w113 := by unfold oz6_6_5; go_simp
          refine sv_ gz6_6_5 Y fun a158 e => ?_; clear Y
          clear h52 h54; have h55 := pt_ F e; replace F := pu_ F e; clear e
          refine sv_ gz6_6_6 (ya_ rfl h55) fun a159 e => ?_
          clear h55 h4; have h4 := pt_ F e; replace F := pu_ F e; clear e
          refine st_end ?_
          replace h0 := F.of h0; replace h1 := F.of h1; replace h6 := F.of h6; clear h7; clear h49; have R := F.r; clear F
          change (Code.ret).wp _ _ _ _
          refine wp_ret ?_
          change bodyPost Tryz.prog Tryz.f6 (fun e w' => e = .returned (.bool true) ∧ Keep (fun g => g < W.heap.size) W w') .ret a159 w113
          refine ret_one rfl R h4 ?_
          exact ⟨rfl, K1⟩
        | true =>
          refine st_not gz6_6_3 rfl (wanted_is (j := 2) (d := 52) rfl rfl h52 rfl) fun a160 e => ?_
          have h53 := pt_ F e; replace F := pu_ F e; replace h52 := so_ e h52; clear e
          refine st_not gz6_6_4 rfl (wanted_is (j := 2) (d := 52) rfl rfl h52 rfl) fun a161 e => ?_
          clear h53; have h54 := pt_ F e; replace F := pu_ F e; replace h52 := so_ e h52; clear e
          have Y : (execOp a161.eval oz6_6_5).run Tryz.prog w113 = .ok (.value (.bool true)) w113 := by unfold oz6_6_5; go_simp
          refine sv_ gz6_6_5 Y fun a162 e => ?_; clear Y
          clear h52 h54; have h55 := pt_ F e; replace F := pu_ F e; clear e
          refine sv_ gz6_6_6 (ya_ rfl h55) fun a163 e => ?_
          clear h55 h4; have h4 := pt_ F e; replace F := pu_ F e; clear e
          refine st_end ?_
          replace h0 := F.of h0; replace h1 := F.of h1; replace h6 := F.of h6; clear h7; clear h49; have R := F.r; clear F
          change (Code.ret).wp _ _ _ _
          refine wp_ret ?_
          change bodyPost Tryz.prog Tryz.f6 (fun e w' => e = .returned (.bool true) ∧ Keep (fun g => g < W.heap.size) W w') .ret a163 w113
          refine ret_one rfl R h4 ?_
          exact ⟨rfl, K1⟩
    | true =>
      refine st_val gz6_5_6 rfl (wanted_is (j := 5) (d := 36) rfl rfl h36 rfl) (ym_ rfl (F.of h1)) fun a164 e => ?_
      have h37 := pt_ F e; replace F := pu_ F e; replace h33 := so_ e h33; replace h36 := so_ e h36; clear e
      have Y : (execOp a164.eval oz6_5_7).run Tryz.prog w113 = .ok (.value (.int .i64 ps.length)) w113 := by unfold oz6_5_7; go_simp
      refine st_val gz6_5_7 rfl (wanted_is (j := 5) (d := 36) rfl rfl h36 rfl) Y fun a165 e => ?_; clear Y
      clear h37; have h38 := pt_ F e; replace F := pu_ F e; replace h33 := so_ e h33; replace h36 := so_ e h36; clear e
      obtain ⟨l2, hl2⟩ : ∃ q, ((ps.length : Int) == 2) = q := ⟨_, rfl⟩; have HL2 := Lib.hid hl2; clear hl2
      have Y : (execOp a165.eval oz6_5_8).run Tryz.prog w113 = .ok (.value (.bool l2)) w113 := by have e1 : ((ps.length : Int) == 2) = l2 := HL2.out; unfold oz6_5_8; go_simp
      refine st_val gz6_5_8 rfl (wanted_is (j := 5) (d := 36) rfl rfl h36 rfl) Y fun a166 e => ?_; clear Y
      clear h38; have h39 := pt_ F e; replace F := pu_ F e; replace h33 := so_ e h33; replace h36 := so_ e h36; clear e
      have Y : (execOp a166.eval oz6_5_9).run Tryz.prog w113 = .ok (.value (.bool l2)) w113 := by unfold oz6_5_9; go_simp
      refine st_val gz6_5_9 rfl (wanted_is (j := 2) (d := 33) rfl rfl h33 rfl) Y fun a167 e => ?_; clear Y
      clear h36 h39; have h40 := pt_ F e; replace F := pu_ F e; replace h33 := so_ e h33; clear e
      have Y : (execOp a167.eval oz6_5_10).run Tryz.prog w113 = .ok (.value (.bool l2)) w113 := by unfold oz6_5_10; go_simp
      refine sv_ gz6_5_10 Y fun a168 e => ?_; clear Y
      clear h33 h40; have h41 := pt_ F e; replace F := pu_ F e; clear e
      refine sv_ gz6_5_11 (ym_ rfl h41) fun a169 e => ?_
      clear h41; have h42 := pt_ F e; replace F := pu_ F e; clear e
      cases l2 with
      | false =>
        refine st_val gz6_5_12 rfl (wanted_is (j := 11) (d := 42) rfl rfl h42 rfl) (ym_ rfl (F.of h0)) fun a170 e => ?_
        have h43 := pt_ F e; replace F := pu_ F e; replace h42 := so_ e h42; clear e
        obtain ⟨l3, hl3⟩ : ∃ q, ((str nm).toList == [91, 93]) = q := ⟨_, rfl⟩; have HL3 := Lib.hid hl3; clear hl3
        have Y : (execOp a170.eval oz6_5_13).run Tryz.prog w113 = .ok (.value (.bool l3)) w113 := by have e1 : ((str nm).toList == [91, 93]) = l3 := HL3.out; unfold oz6_5_13; go_simp
        refine st_val gz6_5_13 rfl (wanted_is (j := 11) (d := 42) rfl rfl h42 rfl) Y fun a171 e => ?_; clear Y
        clear h43; have h44 := pt_ F e; replace F := pu_ F e; replace h42 := so_ e h42; clear e
        have Y : (execOp a171.eval oz6_5_14).run Tryz.prog w113 = .ok (.value (.bool l3)) w113 := by unfold oz6_5_14; go_simp
        refine sv_ gz6_5_14 Y fun a172 e => ?_; clear Y
        clear h42 h44; have h45 := pt_ F e; replace F := pu_ F e; clear e
        refine sv_ gz6_5_15 (ym_ rfl h45) fun a173 e => ?_
        clear h45; have h46 := pt_ F e; replace F := pu_ F e; clear e
        cases l3 with
        | false =>
          refine st_val gz6_5_16 rfl (wanted_is (j := 15) (d := 46) rfl rfl h46 rfl) (ym_ rfl (F.of h0)) fun a174 e => ?_
          have h47 := pt_ F e; replace F := pu_ F e; replace h46 := so_ e h46; clear e
          obtain ⟨l4, hl4⟩ : ∃ q, ((str nm).toList == [123, 125]) = q := ⟨_, rfl⟩; have HL4 := Lib.hid hl4; clear hl4
          have Y : (execOp a174.eval oz6_5_17).run Tryz.prog w113 = .ok (.value (.bool l4)) w113 := by have e1 : ((str nm).toList == [123, 125]) = l4 := HL4.out; unfold oz6_5_17; go_simp
          refine st_val gz6_5_17 rfl (wanted_is (j := 15) (d := 46) rfl rfl h46 rfl) Y fun a175 e => ?_; clear Y
          clear h47; have h48 := pt_ F e; replace F := pu_ F e; replace h46 := so_ e h46; clear e
          have Y : (execOp a175.eval oz6_5_18).run Tryz.prog w113 = .ok (.value (.bool l4)) w113 := by unfold oz6_5_18; go_simp
          refine sv_ gz6_5_18 Y fun a176 e => ?_; clear Y
          clear h46 h48; have h49 := pt_ F e; replace F := pu_ F e; clear e
          refine st_end ?_
          replace h0 := F.of h0; replace h1 := F.of h1; replace h4 := F.of h4; replace h6 := F.of h6; replace h7 := F.of h7; have R := F.r; clear F
          change (cz6_17).wp _ _ _ _
          cases l4 with
          | false =>
            refine wp_cond_false (x := cz6_18) (y := Code.skip) (eval_slot h49) ?_
            refine wp_skip ?_
            have HDD : Hid (¬ (nm = [46] ∧ ps.length = 2)) := Lib.hid (fun h => by first | (have h1 := HL1.out; rw [str_list, h.1] at h1; simp at h1; done) | (have h2 := HL2.out; rw [h.2] at h2; simp at h2)); have HLC := Lib.hid (len_comp (tm_of_sl (c := sc) (nm := nm) (tmsl_on HS.out K1) HNM.out HPM.out) (by have h := HL0.out; simpa using h) HDD.out)
            exact parts_tail R h0 h1 h6 K1 HV HS (Lib.hid (by have h := (parts_of (nm := nm) (ts := ps.map (·.1)) (by have h := HL0.out; simpa using h)).2.2.1; rw [List.length_map] at h; omega)) (Lib.hid (by have h := HL0.out; simpa using h)) HDD (Lib.hid (fun h => by have h1 := HL3.out; rw [str_list, h] at h1; simp at h1)) (Lib.hid (fun h => by have h1 := HL4.out; rw [str_list, h] at h1; simp at h1)) (Lib.hid HLC.out.1) (Lib.hid HLC.out.2)
          | true =>
            refine wp_cond_true (x := cz6_18) (y := Code.skip) (eval_slot h49) ?_
            refine wp_seq (x := cz6_19) (y := Code.ret) ?_
            change (Code.region 6 Oz6_6 false).wp _ _ _ _
            refine reg_in (l := [0, 1, 2, 3, 4, 5, 6]) rfl ?_
            have F : FE_ _ [] a176 a176 := ⟨R, Ag_.refl _⟩; clear R
            refine sv_ gz6_6_0 (ym_ rfl (F.of h7)) fun a177 e => ?_
            have h50 := pt_ F e; replace F := pu_ F e; clear e
            obtain ⟨m0, hm0⟩ : ∃ q, ((txV (partT nm ps)).2 == 0) = q := ⟨_, rfl⟩; have HM := Lib.hid hm0; clear hm0
            have Y : (execOp a177.eval oz6_6_1).run Tryz.prog w113 = .ok (.value (.bool m0)) w113 := by have e1 : ((txV (partT nm ps)).2 == 0) = m0 := HM.out; unfold oz6_6_1; go_simp
            refine sv_ gz6_6_1 Y fun a178 e => ?_; clear Y
            clear h50; have h51 := pt_ F e; replace F := pu_ F e; clear e
            refine sv_ gz6_6_2 (ym_ rfl h51) fun a179 e => ?_
            clear h51; have h52 := pt_ F e; replace F := pu_ F e; clear e
            cases m0 with
            | false =>
              refine st_val gz6_6_3 rfl (wanted_is (j := 2) (d := 52) rfl rfl h52 rfl) (ym_ rfl (F.of h6)) fun a180 e => ?_
              have h53 := pt_ F e; replace F := pu_ F e; replace h52 := so_ e h52; clear e
              have Y : (execOp a180.eval oz6_6_4).run Tryz.prog w113 = .ok (.value (.bool true)) w113 := by have e1 : ((str (txV (partT nm ps)).1).toList == []) = true := (by rw [txV_bad (by have h := HM.out; simpa using h), str_list]; rfl); unfold oz6_6_4; go_simp
              refine st_val gz6_6_4 rfl (wanted_is (j := 2) (d := 52) rfl rfl h52 rfl) Y fun a181 e => ?_; clear Y
              clear h53; have h54 := pt_ F e; replace F := pu_ F e; replace h52 := so_ e h52; clear e
              have Y : (execOp a181.eval oz6_6_5).run Tryz.prog w113 = .ok (.value (.bool true)) w113 := by unfold oz6_6_5; go_simp
              refine sv_ gz6_6_5 Y fun a182 e => ?_; clear Y
              clear h52 h54; have h55 := pt_ F e; replace F := pu_ F e; clear e
              refine sv_ gz6_6_6 (ya_ rfl h55) fun a183 e => ?_
              clear h55 h4; have h4 := pt_ F e; replace F := pu_ F e; clear e
              refine st_end ?_
              replace h0 := F.of h0; replace h1 := F.of h1; replace h6 := F.of h6; clear h7; clear h49; have R := F.r; clear F
              change (Code.ret).wp _ _ _ _
              refine wp_ret ?_
              change bodyPost Tryz.prog Tryz.f6 (fun e w' => e = .returned (.bool true) ∧ Keep (fun g => g < W.heap.size) W w') .ret a183 w113
              refine ret_one rfl R h4 ?_
              exact ⟨rfl, K1⟩
            | true =>
              refine st_not gz6_6_3 rfl (wanted_is (j := 2) (d := 52) rfl rfl h52 rfl) fun a184 e => ?_
              have h53 := pt_ F e; replace F := pu_ F e; replace h52 := so_ e h52; clear e
              refine st_not gz6_6_4 rfl (wanted_is (j := 2) (d := 52) rfl rfl h52 rfl) fun a185 e => ?_
              clear h53; have h54 := pt_ F e; replace F := pu_ F e; replace h52 := so_ e h52; clear e
              have Y : (execOp a185.eval oz6_6_5).run Tryz.prog w113 = .ok (.value (.bool true)) w113 := by unfold oz6_6_5; go_simp
              refine sv_ gz6_6_5 Y fun a186 e => ?_; clear Y
              clear h52 h54; have h55 := pt_ F e; replace F := pu_ F e; clear e
              refine sv_ gz6_6_6 (ya_ rfl h55) fun a187 e => ?_
              clear h55 h4; have h4 := pt_ F e; replace F := pu_ F e; clear e
              refine st_end ?_
              replace h0 := F.of h0; replace h1 := F.of h1; replace h6 := F.of h6; clear h7; clear h49; have R := F.r; clear F
              change (Code.ret).wp _ _ _ _
              refine wp_ret ?_
              change bodyPost Tryz.prog Tryz.f6 (fun e w' => e = .returned (.bool true) ∧ Keep (fun g => g < W.heap.size) W w') .ret a187 w113
              refine ret_one rfl R h4 ?_
              exact ⟨rfl, K1⟩
        | true =>
          refine st_not gz6_5_16 rfl (wanted_is (j := 15) (d := 46) rfl rfl h46 rfl) fun a188 e => ?_
          have h47 := pt_ F e; replace F := pu_ F e; replace h46 := so_ e h46; clear e
          refine st_not gz6_5_17 rfl (wanted_is (j := 15) (d := 46) rfl rfl h46 rfl) fun a189 e => ?_
          clear h47; have h48 := pt_ F e; replace F := pu_ F e; replace h46 := so_ e h46; clear e
          have Y : (execOp a189.eval oz6_5_18).run Tryz.prog w113 = .ok (.value (.bool true)) w113 := by unfold oz6_5_18; go_simp
          refine sv_ gz6_5_18 Y fun a190 e => ?_; clear Y
          clear h46 h48; have h49 := pt_ F e; replace F := pu_ F e; clear e
          refine st_end ?_
          replace h0 := F.of h0; replace h1 := F.of h1; replace h4 := F.of h4; replace h6 := F.of h6; replace h7 := F.of h7; have R := F.r; clear F
          change (cz6_17).wp _ _ _ _
          refine wp_cond_true (x := cz6_18) (y := Code.skip) (eval_slot h49) ?_
          refine wp_seq (x := cz6_19) (y := Code.ret) ?_
          change (Code.region 6 Oz6_6 false).wp _ _ _ _
          refine reg_in (l := [0, 1, 2, 3, 4, 5, 6]) rfl ?_
          have F : FE_ _ [] a190 a190 := ⟨R, Ag_.refl _⟩; clear R
          refine sv_ gz6_6_0 (ym_ rfl (F.of h7)) fun a191 e => ?_
          have h50 := pt_ F e; replace F := pu_ F e; clear e
          obtain ⟨m0, hm0⟩ : ∃ q, ((txV (partT nm ps)).2 == 0) = q := ⟨_, rfl⟩; have HM := Lib.hid hm0; clear hm0
          have Y : (execOp a191.eval oz6_6_1).run Tryz.prog w113 = .ok (.value (.bool m0)) w113 := by have e1 : ((txV (partT nm ps)).2 == 0) = m0 := HM.out; unfold oz6_6_1; go_simp
          refine sv_ gz6_6_1 Y fun a192 e => ?_; clear Y
          clear h50; have h51 := pt_ F e; replace F := pu_ F e; clear e
          refine sv_ gz6_6_2 (ym_ rfl h51) fun a193 e => ?_
          clear h51; have h52 := pt_ F e; replace F := pu_ F e; clear e
          cases m0 with
          | false =>
            refine st_val gz6_6_3 rfl (wanted_is (j := 2) (d := 52) rfl rfl h52 rfl) (ym_ rfl (F.of h6)) fun a194 e => ?_
            have h53 := pt_ F e; replace F := pu_ F e; replace h52 := so_ e h52; clear e
            have Y : (execOp a194.eval oz6_6_4).run Tryz.prog w113 = .ok (.value (.bool true)) w113 := by have e1 : ((str (txV (partT nm ps)).1).toList == []) = true := (by rw [txV_bad (by have h := HM.out; simpa using h), str_list]; rfl); unfold oz6_6_4; go_simp
            refine st_val gz6_6_4 rfl (wanted_is (j := 2) (d := 52) rfl rfl h52 rfl) Y fun a195 e => ?_; clear Y
            clear h53; have h54 := pt_ F e; replace F := pu_ F e; replace h52 := so_ e h52; clear e
            have Y : (execOp a195.eval oz6_6_5).run Tryz.prog w113 = .ok (.value (.bool true)) w113 := by unfold oz6_6_5; go_simp
            refine sv_ gz6_6_5 Y fun a196 e => ?_; clear Y
            clear h52 h54; have h55 := pt_ F e; replace F := pu_ F e; clear e
            refine sv_ gz6_6_6 (ya_ rfl h55) fun a197 e => ?_
            clear h55 h4; have h4 := pt_ F e; replace F := pu_ F e; clear e
            refine st_end ?_
            replace h0 := F.of h0; replace h1 := F.of h1; replace h6 := F.of h6; clear h7; clear h49; have R := F.r; clear F
            change (Code.ret).wp _ _ _ _
            refine wp_ret ?_
            change bodyPost Tryz.prog Tryz.f6 (fun e w' => e = .returned (.bool true) ∧ Keep (fun g => g < W.heap.size) W w') .ret a197 w113
            refine ret_one rfl R h4 ?_
            exact ⟨rfl, K1⟩
          | true =>
            refine st_not gz6_6_3 rfl (wanted_is (j := 2) (d := 52) rfl rfl h52 rfl) fun a198 e => ?_
            have h53 := pt_ F e; replace F := pu_ F e; replace h52 := so_ e h52; clear e
            refine st_not gz6_6_4 rfl (wanted_is (j := 2) (d := 52) rfl rfl h52 rfl) fun a199 e => ?_
            clear h53; have h54 := pt_ F e; replace F := pu_ F e; replace h52 := so_ e h52; clear e
            have Y : (execOp a199.eval oz6_6_5).run Tryz.prog w113 = .ok (.value (.bool true)) w113 := by unfold oz6_6_5; go_simp
            refine sv_ gz6_6_5 Y fun a200 e => ?_; clear Y
            clear h52 h54; have h55 := pt_ F e; replace F := pu_ F e; clear e
            refine sv_ gz6_6_6 (ya_ rfl h55) fun a201 e => ?_
            clear h55 h4; have h4 := pt_ F e; replace F := pu_ F e; clear e
            refine st_end ?_
            replace h0 := F.of h0; replace h1 := F.of h1; replace h6 := F.of h6; clear h7; clear h49; have R := F.r; clear F
            change (Code.ret).wp _ _ _ _
            refine wp_ret ?_
            change bodyPost Tryz.prog Tryz.f6 (fun e w' => e = .returned (.bool true) ∧ Keep (fun g => g < W.heap.size) W w') .ret a201 w113
            refine ret_one rfl R h4 ?_
            exact ⟨rfl, K1⟩
      | true =>
        refine st_not gz6_5_12 rfl (wanted_is (j := 11) (d := 42) rfl rfl h42 rfl) fun a202 e => ?_
        have h43 := pt_ F e; replace F := pu_ F e; replace h42 := so_ e h42; clear e
        refine st_not gz6_5_13 rfl (wanted_is (j := 11) (d := 42) rfl rfl h42 rfl) fun a203 e => ?_
        clear h43; have h44 := pt_ F e; replace F := pu_ F e; replace h42 := so_ e h42; clear e
        have Y : (execOp a203.eval oz6_5_14).run Tryz.prog w113 = .ok (.value (.bool true)) w113 := by unfold oz6_5_14; go_simp
        refine sv_ gz6_5_14 Y fun a204 e => ?_; clear Y
        clear h42 h44; have h45 := pt_ F e; replace F := pu_ F e; clear e
        refine sv_ gz6_5_15 (ym_ rfl h45) fun a205 e => ?_
        clear h45; have h46 := pt_ F e; replace F := pu_ F e; clear e
        refine st_not gz6_5_16 rfl (wanted_is (j := 15) (d := 46) rfl rfl h46 rfl) fun a206 e => ?_
        have h47 := pt_ F e; replace F := pu_ F e; replace h46 := so_ e h46; clear e
        refine st_not gz6_5_17 rfl (wanted_is (j := 15) (d := 46) rfl rfl h46 rfl) fun a207 e => ?_
        clear h47; have h48 := pt_ F e; replace F := pu_ F e; replace h46 := so_ e h46; clear e
        have Y : (execOp a207.eval oz6_5_18).run Tryz.prog w113 = .ok (.value (.bool true)) w113 := by unfold oz6_5_18; go_simp
        refine sv_ gz6_5_18 Y fun a208 e => ?_; clear Y
        clear h46 h48; have h49 := pt_ F e; replace F := pu_ F e; clear e
        refine st_end ?_
        replace h0 := F.of h0; replace h1 := F.of h1; replace h4 := F.of h4; replace h6 := F.of h6; replace h7 := F.of h7; have R := F.r; clear F
        change (cz6_17).wp _ _ _ _
        refine wp_cond_true (x := cz6_18) (y := Code.skip) (eval_slot h49) ?_
        refine wp_seq (x := cz6_19) (y := Code.ret) ?_
        change (Code.region 6 Oz6_6 false).wp _ _ _ _
        refine reg_in (l := [0, 1, 2, 3, 4, 5, 6]) rfl ?_
        have F : FE_ _ [] a208 a208 := ⟨R, Ag_.refl _⟩; clear R
        refine sv_ gz6_6_0 (ym_ rfl (F.of h7)) fun a209 e => ?_
        have h50 := pt_ F e; replace F := pu_ F e; clear e
        obtain ⟨m0, hm0⟩ : ∃ q, ((txV (partT nm ps)).2 == 0) = q := ⟨_, rfl⟩; have HM := Lib.hid hm0; clear hm0
        have Y : (execOp a209.eval oz6_6_1).run Tryz.prog w113 = .ok (.value (.bool m0)) w113 := by have e1 : ((txV (partT nm ps)).2 == 0) = m0 := HM.out; unfold oz6_6_1; go_simp
        refine sv_ gz6_6_1 Y fun a210 e => ?_; clear Y
        clear h50; have h51 := pt_ F e; replace F := pu_ F e; clear e
        refine sv_ gz6_6_2 (ym_ rfl h51) fun a211 e => ?_
        clear h51; have h52 := pt_ F e; replace F := pu_ F e; clear e
        cases m0 with
        | false =>
          refine st_val gz6_6_3 rfl (wanted_is (j := 2) (d := 52) rfl rfl h52 rfl) (ym_ rfl (F.of h6)) fun a212 e => ?_
          have h53 := pt_ F e; replace F := pu_ F e; replace h52 := so_ e h52; clear e
          have Y : (execOp a212.eval oz6_6_4).run Tryz.prog w113 = .ok (.value (.bool true)) w113 := by have e1 : ((str (txV (partT nm ps)).1).toList == []) = true := (by rw [txV_bad (by have h := HM.out; simpa using h), str_list]; rfl); unfold oz6_6_4; go_simp
          refine st_val gz6_6_4 rfl (wanted_is (j := 2) (d := 52) rfl rfl h52 rfl) Y fun a213 e => ?_; clear Y
          clear h53; have h54 := pt_ F e; replace F := pu_ F e; replace h52 := so_ e h52; clear e
          have Y : (execOp a213.eval oz6_6_5).run Tryz.prog w113 = .ok (.value (.bool true)) w113 := by unfold oz6_6_5; go_simp
          refine sv_ gz6_6_5 Y fun a214 e => ?_; clear Y
          clear h52 h54; have h55 := pt_ F e; replace F := pu_ F e; clear e
          refine sv_ gz6_6_6 (ya_ rfl h55) fun a215 e => ?_
          clear h55 h4; have h4 := pt_ F e; replace F := pu_ F e; clear e
          refine st_end ?_
          replace h0 := F.of h0; replace h1 := F.of h1; replace h6 := F.of h6; clear h7; clear h49; have R := F.r; clear F
          change (Code.ret).wp _ _ _ _
          refine wp_ret ?_
          change bodyPost Tryz.prog Tryz.f6 (fun e w' => e = .returned (.bool true) ∧ Keep (fun g => g < W.heap.size) W w') .ret a215 w113
          refine ret_one rfl R h4 ?_
          exact ⟨rfl, K1⟩
        | true =>
          refine st_not gz6_6_3 rfl (wanted_is (j := 2) (d := 52) rfl rfl h52 rfl) fun a216 e => ?_
          have h53 := pt_ F e; replace F := pu_ F e; replace h52 := so_ e h52; clear e
          refine st_not gz6_6_4 rfl (wanted_is (j := 2) (d := 52) rfl rfl h52 rfl) fun a217 e => ?_
          clear h53; have h54 := pt_ F e; replace F := pu_ F e; replace h52 := so_ e h52; clear e
          have Y : (execOp a217.eval oz6_6_5).run Tryz.prog w113 = .ok (.value (.bool true)) w113 := by unfold oz6_6_5; go_simp
          refine sv_ gz6_6_5 Y fun a218 e => ?_; clear Y
          clear h52 h54; have h55 := pt_ F e; replace F := pu_ F e; clear e
          refine sv_ gz6_6_6 (ya_ rfl h55) fun a219 e => ?_
          clear h55 h4; have h4 := pt_ F e; replace F := pu_ F e; clear e
          refine st_end ?_
          replace h0 := F.of h0; replace h1 := F.of h1; replace h6 := F.of h6; clear h7; clear h49; have R := F.r; clear F
          change (Code.ret).wp _ _ _ _
          refine wp_ret ?_
          change bodyPost Tryz.prog Tryz.f6 (fun e w' => e = .returned (.bool true) ∧ Keep (fun g => g < W.heap.size) W w') .ret a219 w113
          refine ret_one rfl R h4 ?_
          exact ⟨rfl, K1⟩
  | true =>
    refine st_not gz6_5_3 rfl (wanted_is (j := 2) (d := 33) rfl rfl h33 rfl) fun a220 e => ?_
    have h34 := pt_ F e; replace F := pu_ F e; replace h33 := so_ e h33; clear e
    refine st_not gz6_5_4 rfl (wanted_is (j := 2) (d := 33) rfl rfl h33 rfl) fun a221 e => ?_
    clear h34; have h35 := pt_ F e; replace F := pu_ F e; replace h33 := so_ e h33; clear e
    refine st_not gz6_5_5 rfl (wanted_is (j := 2) (d := 33) rfl rfl h33 rfl) fun a222 e => ?_
    clear h35; have h36 := pt_ F e; replace F := pu_ F e; replace h33 := so_ e h33; clear e
    refine st_not gz6_5_6 rfl (wanted_un (j := 5) (d := 36) rfl rfl h36) fun a223 e => ?_
    have h37 := pt_ F e; replace F := pu_ F e; replace h33 := so_ e h33; replace h36 := so_ e h36; clear e
    refine st_not gz6_5_7 rfl (wanted_un (j := 5) (d := 36) rfl rfl h36) fun a224 e => ?_
    clear h37; have h38 := pt_ F e; replace F := pu_ F e; replace h33 := so_ e h33; replace h36 := so_ e h36; clear e
    refine st_not gz6_5_8 rfl (wanted_un (j := 5) (d := 36) rfl rfl h36) fun a225 e => ?_
    clear h38; have h39 := pt_ F e; replace F := pu_ F e; replace h33 := so_ e h33; replace h36 := so_ e h36; clear e
    refine st_not gz6_5_9 rfl (wanted_is (j := 2) (d := 33) rfl rfl h33 rfl) fun a226 e => ?_
    clear h36 h39; have h40 := pt_ F e; replace F := pu_ F e; replace h33 := so_ e h33; clear e
    have Y : (execOp a226.eval oz6_5_10).run Tryz.prog w113 = .ok (.value (.bool true)) w113 := by unfold oz6_5_10; go_simp
    refine sv_ gz6_5_10 Y fun a227 e => ?_; clear Y
    clear h33 h40; have h41 := pt_ F e; replace F := pu_ F e; clear e
    refine sv_ gz6_5_11 (ym_ rfl h41) fun a228 e => ?_
    clear h41; have h42 := pt_ F e; replace F := pu_ F e; clear e
    refine st_not gz6_5_12 rfl (wanted_is (j := 11) (d := 42) rfl rfl h42 rfl) fun a229 e => ?_
    have h43 := pt_ F e; replace F := pu_ F e; replace h42 := so_ e h42; clear e
    refine st_not gz6_5_13 rfl (wanted_is (j := 11) (d := 42) rfl rfl h42 rfl) fun a230 e => ?_
    clear h43; have h44 := pt_ F e; replace F := pu_ F e; replace h42 := so_ e h42; clear e
    have Y : (execOp a230.eval oz6_5_14).run Tryz.prog w113 = .ok (.value (.bool true)) w113 := by unfold oz6_5_14; go_simp
    refine sv_ gz6_5_14 Y fun a231 e => ?_; clear Y
    clear h42 h44; have h45 := pt_ F e; replace F := pu_ F e; clear e
    refine sv_ gz6_5_15 (ym_ rfl h45) fun a232 e => ?_
    clear h45; have h46 := pt_ F e; replace F := pu_ F e; clear e
    refine st_not gz6_5_16 rfl (wanted_is (j := 15) (d := 46) rfl rfl h46 rfl) fun a233 e => ?_
    have h47 := pt_ F e; replace F := pu_ F e; replace h46 := so_ e h46; clear e
    refine st_not gz6_5_17 rfl (wanted_is (j := 15) (d := 46) rfl rfl h46 rfl) fun a234 e => ?_
    clear h47; have h48 := pt_ F e; replace F := pu_ F e; replace h46 := so_ e h46; clear e
    have Y : (execOp a234.eval oz6_5_18).run Tryz.prog w113 = .ok (.value (.bool true)) w113 := by unfold oz6_5_18; go_simp
    refine sv_ gz6_5_18 Y fun a235 e => ?_; clear Y
    clear h46 h48; have h49 := pt_ F e; replace F := pu_ F e; clear e
    refine st_end ?_
    replace h0 := F.of h0; replace h1 := F.of h1; replace h4 := F.of h4; replace h6 := F.of h6; replace h7 := F.of h7; have R := F.r; clear F
    change (cz6_17).wp _ _ _ _
    refine wp_cond_true (x := cz6_18) (y := Code.skip) (eval_slot h49) ?_
    refine wp_seq (x := cz6_19) (y := Code.ret) ?_
    change (Code.region 6 Oz6_6 false).wp _ _ _ _
    refine reg_in (l := [0, 1, 2, 3, 4, 5, 6]) rfl ?_
    have F : FE_ _ [] a235 a235 := ⟨R, Ag_.refl _⟩; clear R
    refine sv_ gz6_6_0 (ym_ rfl (F.of h7)) fun a236 e => ?_
    have h50 := pt_ F e; replace F := pu_ F e; clear e
    obtain ⟨m0, hm0⟩ : ∃ q, ((txV (partT nm ps)).2 == 0) = q := ⟨_, rfl⟩; have HM := Lib.hid hm0; clear hm0
    have Y : (execOp a236.eval oz6_6_1).run Tryz.prog w113 = .ok (.value (.bool m0)) w113 := by have e1 : ((txV (partT nm ps)).2 == 0) = m0 := HM.out; unfold oz6_6_1; go_simp
    refine sv_ gz6_6_1 Y fun a237 e => ?_; clear Y
    clear h50; have h51 := pt_ F e; replace F := pu_ F e; clear e
    refine sv_ gz6_6_2 (ym_ rfl h51) fun a238 e => ?_
    clear h51; have h52 := pt_ F e; replace F := pu_ F e; clear e
    cases m0 with
    | false =>
      refine st_val gz6_6_3 rfl (wanted_is (j := 2) (d := 52) rfl rfl h52 rfl) (ym_ rfl (F.of h6)) fun a239 e => ?_
      have h53 := pt_ F e; replace F := pu_ F e; replace h52 := so_ e h52; clear e
      have Y : (execOp a239.eval oz6_6_4).run Tryz.prog w113 = .ok (.value (.bool true)) w113 := by have e1 : ((str (txV (partT nm ps)).1).toList == []) = true := (by rw [txV_bad (by have h := HM.out; simpa using h), str_list]; rfl); unfold oz6_6_4; go_simp
      refine st_val gz6_6_4 rfl (wanted_is (j := 2) (d := 52) rfl rfl h52 rfl) Y fun a240 e => ?_; clear Y
      clear h53; have h54 := pt_ F e; replace F := pu_ F e; replace h52 := so_ e h52; clear e
      have Y : (execOp a240.eval oz6_6_5).run Tryz.prog w113 = .ok (.value (.bool true)) w113 := by unfold oz6_6_5; go_simp
      refine sv_ gz6_6_5 Y fun a241 e => ?_; clear Y
      clear h52 h54; have h55 := pt_ F e; replace F := pu_ F e; clear e
      refine sv_ gz6_6_6 (ya_ rfl h55) fun a242 e => ?_
      clear h55 h4; have h4 := pt_ F e; replace F := pu_ F e; clear e
      refine st_end ?_
      replace h0 := F.of h0; replace h1 := F.of h1; replace h6 := F.of h6; clear h7; clear h49; have R := F.r; clear F
      change (Code.ret).wp _ _ _ _
      refine wp_ret ?_
      change bodyPost Tryz.prog Tryz.f6 (fun e w' => e = .returned (.bool true) ∧ Keep (fun g => g < W.heap.size) W w') .ret a242 w113
      refine ret_one rfl R h4 ?_
      exact ⟨rfl, K1⟩
    | true =>
      refine st_not gz6_6_3 rfl (wanted_is (j := 2) (d := 52) rfl rfl h52 rfl) fun a243 e => ?_
      have h53 := pt_ F e; replace F := pu_ F e; replace h52 := so_ e h52; clear e
      refine st_not gz6_6_4 rfl (wanted_is (j := 2) (d := 52) rfl rfl h52 rfl) fun a244 e => ?_
      clear h53; have h54 := pt_ F e; replace F := pu_ F e; replace h52 := so_ e h52; clear e
      have Y : (execOp a244.eval oz6_6_5).run Tryz.prog w113 = .ok (.value (.bool true)) w113 := by unfold oz6_6_5; go_simp
      refine sv_ gz6_6_5 Y fun a245 e => ?_; clear Y
      clear h52 h54; have h55 := pt_ F e; replace F := pu_ F e; clear e
      refine sv_ gz6_6_6 (ya_ rfl h55) fun a246 e => ?_
      clear h55 h4; have h4 := pt_ F e; replace F := pu_ F e; clear e
      refine st_end ?_
      replace h0 := F.of h0; replace h1 := F.of h1; replace h6 := F.of h6; clear h7; clear h49; have R := F.r; clear F
      change (Code.ret).wp _ _ _ _
      refine wp_ret ?_
      change bodyPost Tryz.prog Tryz.f6 (fun e w' => e = .returned (.bool true) ∧ Keep (fun g => g < W.heap.size) W w') .ret a246 w113
      refine ret_one rfl R h4 ?_
      exact ⟨rfl, K1⟩
theorem WriteParts_any (W : World) (nm : List UInt8) (ps : List TP) (sa : Option Addr) (sc : Nat) (hS : TmSl W.heap.size W sa ps) (hn : nm.length ≤ maxLen) (hl : ps.length ≤ maxLen) (hv : VarsAt W.heap.size W) : Calls Tryz.prog 6 #[.string (str nm), .slice sa ps.length sc] W fun e w' => e = .returned (.bool true) ∧ Keep (fun g => g < W.heap.size) W w' := by
  refine enter_sx Tryz.func6 bodyz6 rfl (by show (2 : Nat) ≤ 139; decide) fun f0 R0' hs => ?_
  exact parts_w R0' (hs 0 _ rfl) (hs 1 _ rfl) (Keep.refl _ W) (Lib.hid hv) (Lib.hid hS) (Lib.hid hn) (Lib.hid hl)
end Go.Proofs.YtfkbbbjicaedmaaGreatDoor
