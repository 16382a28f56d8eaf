/-
  The document's examples hold. Condition: the listed variables.
-/
import Derived.Test.YtfkbbbjicaedmaaGreatDoorQWrO
import Derived.Test.YtfkbbbjicaedmaaGreatDoorQSx16
namespace Go.Proofs.YtfkbbbjicaedmaaGreatDoor
open Go.RowKit Go.Maps
set_option linter.unusedVariables false
set_option linter.unusedSimpArgs false
theorem tmsl_blk {w : World} {b : Nat} {ps : List TP} (hb : Blk w b 24 (ps.flatMap TP.cells).toArray) (hs : ∀ p ∈ ps, TmAt w.heap.size w p.1 p.2.1 p.2.2) : TmSl w.heap.size w (some ⟨b, 0, none⟩) ps := fun j p hp => by
  refine ⟨⟨b, 0, rfl, hb.lt, fun f v hv => ?_⟩, hs p (List.mem_of_getElem? hp)⟩
  have hf : f < 4 := by
    have h := (List.getElem?_eq_some_iff.1 hv).1
    rw [TP.cells_len] at h
    exact h
  have h := flat_get ps j f hf
  rw [hp] at h
  have h2 : ((ps.flatMap TP.cells).toArray)[j * 4 + f]? = some v := by
    rw [List.getElem?_toArray, h]; exact hv
  rw [Nat.zero_add, hb.cell]
  exact h2
theorem comp_at {w : World} {b c : Nat} {nm : List UInt8} {ps : List TP} (hb : Blk w b 24 (ps.flatMap TP.cells).toArray) (hs : ∀ p ∈ ps, TmAt w.heap.size w p.1 p.2.1 p.2.2) (hn : nm.length ≤ maxLen) (h8 : ps.length ≤ 8) :
    TmAt w.heap.size w (.node 4 nm 0 (ps.map (·.1))) (some ⟨b, 0, none⟩) c := by
  refine .mk _ _ _ (fun j => (ps.getD j (default, none, 0)).2.1) (fun j => (ps.getD j (default, none, 0)).2.2) (by show (Lit.int .i64 4).wf = true; decide) (by show (Lit.int .i64 0).wf = true; decide) hn (by show (ps.map _).length ≤ maxLen; rw [List.length_map]; unfold maxLen; omega) (fun j x hj => ?_) (fun j x hj => ?_)
  all_goals
    change (ps.map (·.1))[j]? = some x at hj
    rw [List.getElem?_map] at hj
    obtain ⟨p, hp, rfl⟩ := Option.map_eq_some_iff.1 hj
    have hp' : ps.getD j (default, none, 0) = p := by rw [List.getD_eq_getElem?_getD, hp]; rfl
    obtain ⟨h1, h2⟩ := tmsl_blk hb hs j p hp
    rw [hp']
  · exact h1
  · exact h2
def lsA : Tm := .node 4 [46] 0 [.node 2 [] 1 [], .node 4 [46] 0 [.node 2 [] (-2) [], .node 1 [] 3 []]]
def plA : Tm := .node 4 [43] 0 [.node 2 [] 1 [], .node 2 [] 2 []]
def al1T : Tm := .node 4 [102] 0 [.node 1 [] 1 [], .node 3 [97, 32, 98] 0 [], lsA, plA]
def al3T : Tm := .node 4 [91, 93] 0 [.node 3 [97] 0 []]
theorem al_1 : txV al1T = ([102, 40, 95, 49, 44, 39, 97, 32, 98, 39, 44, 91, 49, 44, 45, 50, 124, 95, 51, 93, 44, 43, 40, 49, 44, 50, 41, 41], 0) := by kernel_rfl
theorem al_2 : nmV [44] = ([39, 44, 39], 0) := by kernel_rfl
theorem al_3 : txV al3T = ([39, 91, 93, 39, 40, 97, 41], 0) := by kernel_rfl
def oz7_0_0 : Oper := ⟨some 0, Op.assign (Operand.const (Value.bool false)), 4, "law.go:14", #[], none⟩
def Oz7_0 : Array Oper := List.toArray (oz7_0_0 :: [])
theorem gz7_0_0 : Oz7_0[0]? = some oz7_0_0 := rfl
def cz7_1 : Code := Code.region 0 Oz7_0 false
def oz7_1_0 : Oper := ⟨some 8, Op.call { callee := Callee.value (Operand.func 18), args := #[Operand.const (Value.int IntKind.i64 1)], argTypes := #[2] }, 24, "law.go:15", #[], none⟩
def oz7_1_1 : Oper := ⟨some 9, Op.call { callee := Callee.value (Operand.func 18), args := #[Operand.const (Value.int IntKind.i64 (-2))], argTypes := #[2] }, 24, "law.go:15", #[ec_ 0], none⟩
def oz7_1_2 : Oper := ⟨some 10, Op.buildSlice 22 2 #[(0, Operand.tmp 8), (1, Operand.tmp 9)], 22, "law.go:15", #[ed_ 0, ed_ 1], none⟩
def oz7_1_3 : Oper := ⟨some 11, Op.call { callee := Callee.value (Operand.func 19), args := #[Operand.const (Value.int IntKind.i64 3)], argTypes := #[2] }, 24, "law.go:15", #[ec_ 1], none⟩
def oz7_1_4 : Oper := ⟨some 12, Op.call { callee := Callee.value (Operand.func 16), args := #[Operand.tmp 10, Operand.tmp 11], argTypes := #[22, 24] }, 24, "law.go:15", #[ed_ 2, ed_ 3, ec_ 3], none⟩
def oz7_1_5 : Oper := ⟨some 1, Op.alloc 24, 0, "law.go:15", #[], none⟩
def oz7_1_6 : Oper := ⟨none, Op.store 24 (Operand.tmp 1) (Operand.tmp 12), 0, "law.go:15", #[ed_ 5, ed_ 4, ec_ 4, ep_ 0, ep_ 1, ep_ 2, ep_ 3, ep_ 4, ep_ 5], none⟩
def Oz7_1 : Array Oper := List.toArray (oz7_1_0 :: oz7_1_1 :: oz7_1_2 :: oz7_1_3 :: oz7_1_4 :: oz7_1_5 :: oz7_1_6 :: [])
theorem gz7_1_0 : Oz7_1[0]? = some oz7_1_0 := rfl
theorem gz7_1_1 : Oz7_1[1]? = some oz7_1_1 := rfl
theorem gz7_1_2 : Oz7_1[2]? = some oz7_1_2 := rfl
theorem gz7_1_3 : Oz7_1[3]? = some oz7_1_3 := rfl
theorem gz7_1_4 : Oz7_1[4]? = some oz7_1_4 := rfl
theorem gz7_1_5 : Oz7_1[5]? = some oz7_1_5 := rfl
theorem gz7_1_6 : Oz7_1[6]? = some oz7_1_6 := rfl
def cz7_3 : Code := Code.region 1 Oz7_1 false
def oz7_2_0 : Oper := ⟨some 14, Op.call { callee := Callee.value (Operand.func 19), args := #[Operand.const (Value.int IntKind.i64 1)], argTypes := #[2] }, 24, "law.go:16", #[], none⟩
def oz7_2_1 : Oper := ⟨some 15, Op.call { callee := Callee.value (Operand.func 17), args := #[Operand.const (Value.string { data := #[97, 32, 98] })], argTypes := #[9] }, 24, "law.go:16", #[ec_ 0], none⟩
def oz7_2_2 : Oper := ⟨some 16, Op.load 24 (Operand.tmp 1), 24, "law.go:16", #[], none⟩
def oz7_2_3 : Oper := ⟨some 17, Op.call { callee := Callee.value (Operand.func 18), args := #[Operand.const (Value.int IntKind.i64 1)], argTypes := #[2] }, 24, "law.go:16", #[ec_ 1], none⟩
def oz7_2_4 : Oper := ⟨some 18, Op.call { callee := Callee.value (Operand.func 18), args := #[Operand.const (Value.int IntKind.i64 2)], argTypes := #[2] }, 24, "law.go:16", #[ec_ 3], none⟩
def oz7_2_5 : Oper := ⟨some 19, Op.buildSlice 22 2 #[(0, Operand.tmp 17), (1, Operand.tmp 18)], 22, "law.go:16", #[ed_ 3, ed_ 4], none⟩
def oz7_2_6 : Oper := ⟨some 20, Op.call { callee := Callee.value (Operand.func 20), args := #[Operand.const (Value.string { data := #[43] }), Operand.tmp 19], argTypes := #[9, 22] }, 24, "law.go:16", #[ed_ 5, ec_ 4], none⟩
def oz7_2_7 : Oper := ⟨some 21, Op.buildSlice 22 4 #[(0, Operand.tmp 14), (1, Operand.tmp 15), (2, Operand.tmp 16), (3, Operand.tmp 20)], 22, "law.go:16", #[ed_ 0, ed_ 1, ed_ 2, ed_ 6], none⟩
def oz7_2_8 : Oper := ⟨some 22, Op.call { callee := Callee.value (Operand.func 20), args := #[Operand.const (Value.string { data := #[102] }), Operand.tmp 21], argTypes := #[9, 22] }, 24, "law.go:16", #[ed_ 7, ec_ 6], none⟩
def oz7_2_9 : Oper := ⟨some 23, Op.call { callee := Callee.value (Operand.func 8), args := #[Operand.tmp 22], argTypes := #[24] }, 27, "law.go:16", #[ed_ 8, ec_ 8], none⟩
def oz7_2_10 : Oper := ⟨some 13, Op.move (Operand.tmp 23), 27, "law.go:16", #[ed_ 9], none⟩
def oz7_2_11 : Oper := ⟨some 24, Op.extract (Operand.tmp 13) 0, 9, "law.go:16", #[ed_ 10], none⟩
def oz7_2_12 : Oper := ⟨some 25, Op.extract (Operand.tmp 13) 1, 26, "law.go:16", #[ed_ 10, { on := 13, ground := Go.Ground.gcOnly Go.Departure.lateStores }], none⟩
def oz7_2_13 : Oper := ⟨some 2, Op.assign (Operand.tmp 24), 9, "law.go:16", #[ed_ 11, ec_ 9, ep_ 0, ep_ 1, ep_ 2, ep_ 3, ep_ 4, ep_ 5, ep_ 6, ep_ 7, ep_ 8, ep_ 9, ep_ 10, ep_ 11, { on := 12, ground := Go.Ground.textOnly Go.Departure.lateStores }], none⟩
def oz7_2_14 : Oper := ⟨some 3, Op.assign (Operand.tmp 25), 26, "law.go:16", #[ed_ 12, ec_ 13, ep_ 0, ep_ 1, ep_ 2, ep_ 3, ep_ 4, ep_ 5, ep_ 6, ep_ 7, ep_ 8, ep_ 9, ep_ 10, ep_ 11, ep_ 12, ep_ 13], none⟩
def Oz7_2 : Array Oper := List.toArray (oz7_2_0 :: oz7_2_1 :: oz7_2_2 :: oz7_2_3 :: oz7_2_4 :: oz7_2_5 :: oz7_2_6 :: oz7_2_7 :: oz7_2_8 :: oz7_2_9 :: oz7_2_10 :: oz7_2_11 :: oz7_2_12 :: oz7_2_13 :: oz7_2_14 :: [])
theorem gz7_2_0 : Oz7_2[0]? = some oz7_2_0 := rfl
theorem gz7_2_1 : Oz7_2[1]? = some oz7_2_1 := rfl
theorem gz7_2_2 : Oz7_2[2]? = some oz7_2_2 := rfl
theorem gz7_2_3 : Oz7_2[3]? = some oz7_2_3 := rfl
theorem gz7_2_4 : Oz7_2[4]? = some oz7_2_4 := rfl
theorem gz7_2_5 : Oz7_2[5]? = some oz7_2_5 := rfl
theorem gz7_2_6 : Oz7_2[6]? = some oz7_2_6 := rfl
theorem gz7_2_7 : Oz7_2[7]? = some oz7_2_7 := rfl
theorem gz7_2_8 : Oz7_2[8]? = some oz7_2_8 := rfl
theorem gz7_2_9 : Oz7_2[9]? = some oz7_2_9 := rfl
theorem gz7_2_10 : Oz7_2[10]? = some oz7_2_10 := rfl
theorem gz7_2_11 : Oz7_2[11]? = some oz7_2_11 := rfl
theorem gz7_2_12 : Oz7_2[12]? = some oz7_2_12 := rfl
theorem gz7_2_13 : Oz7_2[13]? = some oz7_2_13 := rfl
theorem gz7_2_14 : Oz7_2[14]? = some oz7_2_14 := rfl
theorem nsz7_2 : Region.noSelect Oz7_2 = true := by kernel_rfl
def cz7_5 : Code := Code.region 2 Oz7_2 true
def oz7_3_0 : Oper := ⟨some 27, Op.call { callee := Callee.value (Operand.func 12), args := #[Operand.const (Value.string { data := #[44] })], argTypes := #[9] }, 27, "law.go:17", #[], none⟩
def oz7_3_1 : Oper := ⟨some 26, Op.move (Operand.tmp 27), 27, "law.go:17", #[ed_ 0], none⟩
def oz7_3_2 : Oper := ⟨some 28, Op.extract (Operand.tmp 26) 0, 9, "law.go:17", #[ed_ 1], none⟩
def oz7_3_3 : Oper := ⟨some 29, Op.extract (Operand.tmp 26) 1, 26, "law.go:17", #[ed_ 1, { on := 4, ground := Go.Ground.gcOnly Go.Departure.lateStores }], none⟩
def oz7_3_4 : Oper := ⟨some 4, Op.assign (Operand.tmp 28), 9, "law.go:17", #[ed_ 2, ec_ 0, ep_ 0, ep_ 1, ep_ 2, { on := 3, ground := Go.Ground.textOnly Go.Departure.lateStores }], none⟩
def oz7_3_5 : Oper := ⟨some 5, Op.assign (Operand.tmp 29), 26, "law.go:17", #[ed_ 3, ec_ 4, ep_ 0, ep_ 1, ep_ 2, ep_ 3, ep_ 4], none⟩
def Oz7_3 : Array Oper := List.toArray (oz7_3_0 :: oz7_3_1 :: oz7_3_2 :: oz7_3_3 :: oz7_3_4 :: oz7_3_5 :: [])
theorem gz7_3_0 : Oz7_3[0]? = some oz7_3_0 := rfl
theorem gz7_3_1 : Oz7_3[1]? = some oz7_3_1 := rfl
theorem gz7_3_2 : Oz7_3[2]? = some oz7_3_2 := rfl
theorem gz7_3_3 : Oz7_3[3]? = some oz7_3_3 := rfl
theorem gz7_3_4 : Oz7_3[4]? = some oz7_3_4 := rfl
theorem gz7_3_5 : Oz7_3[5]? = some oz7_3_5 := rfl
def cz7_7 : Code := Code.region 3 Oz7_3 false
def oz7_4_0 : Oper := ⟨some 31, Op.call { callee := Callee.value (Operand.func 17), args := #[Operand.const (Value.string { data := #[97] })], argTypes := #[9] }, 24, "law.go:18", #[], none⟩
def oz7_4_1 : Oper := ⟨some 32, Op.buildSlice 22 1 #[(0, Operand.tmp 31)], 22, "law.go:18", #[ed_ 0], none⟩
def oz7_4_2 : Oper := ⟨some 33, Op.call { callee := Callee.value (Operand.func 20), args := #[Operand.const (Value.string { data := #[91, 93] }), Operand.tmp 32], argTypes := #[9, 22] }, 24, "law.go:18", #[ed_ 1, ec_ 0], none⟩
def oz7_4_3 : Oper := ⟨some 34, Op.call { callee := Callee.value (Operand.func 8), args := #[Operand.tmp 33], argTypes := #[24] }, 27, "law.go:18", #[ed_ 2, ec_ 2], none⟩
def oz7_4_4 : Oper := ⟨some 30, Op.move (Operand.tmp 34), 27, "law.go:18", #[ed_ 3], none⟩
def oz7_4_5 : Oper := ⟨some 35, Op.extract (Operand.tmp 30) 0, 9, "law.go:18", #[ed_ 4], none⟩
def oz7_4_6 : Oper := ⟨some 36, Op.extract (Operand.tmp 30) 1, 26, "law.go:18", #[ed_ 4, { on := 7, ground := Go.Ground.gcOnly Go.Departure.lateStores }], none⟩
def oz7_4_7 : Oper := ⟨some 6, Op.assign (Operand.tmp 35), 9, "law.go:18", #[ed_ 5, ec_ 3, ep_ 0, ep_ 1, ep_ 2, ep_ 3, ep_ 4, ep_ 5, { on := 6, ground := Go.Ground.textOnly Go.Departure.lateStores }], none⟩
def oz7_4_8 : Oper := ⟨some 7, Op.assign (Operand.tmp 36), 26, "law.go:18", #[ed_ 6, ec_ 7, ep_ 0, ep_ 1, ep_ 2, ep_ 3, ep_ 4, ep_ 5, ep_ 6, ep_ 7], none⟩
def Oz7_4 : Array Oper := List.toArray (oz7_4_0 :: oz7_4_1 :: oz7_4_2 :: oz7_4_3 :: oz7_4_4 :: oz7_4_5 :: oz7_4_6 :: oz7_4_7 :: oz7_4_8 :: [])
theorem gz7_4_0 : Oz7_4[0]? = some oz7_4_0 := rfl
theorem gz7_4_1 : Oz7_4[1]? = some oz7_4_1 := rfl
theorem gz7_4_2 : Oz7_4[2]? = some oz7_4_2 := rfl
theorem gz7_4_3 : Oz7_4[3]? = some oz7_4_3 := rfl
theorem gz7_4_4 : Oz7_4[4]? = some oz7_4_4 := rfl
theorem gz7_4_5 : Oz7_4[5]? = some oz7_4_5 := rfl
theorem gz7_4_6 : Oz7_4[6]? = some oz7_4_6 := rfl
theorem gz7_4_7 : Oz7_4[7]? = some oz7_4_7 := rfl
theorem gz7_4_8 : Oz7_4[8]? = some oz7_4_8 := rfl
def cz7_9 : Code := Code.region 4 Oz7_4 false
def oz7_5_0 : Oper := ⟨some 37, Op.move (Operand.tmp 2), 9, "law.go:19", #[], none⟩
def oz7_5_1 : Oper := ⟨some 38, Op.binOp Go.BinOp.eql 9 (Operand.tmp 37) (Operand.const (Value.string { data := #[102, 40, 95, 49, 44, 39, 97, 32, 98, 39, 44, 91, 49, 44, 45, 50, 124, 95, 51, 93, 44, 43, 40, 49, 44, 50, 41, 41] })) 9, 4, "law.go:19", #[ed_ 0], none⟩
def oz7_5_2 : Oper := ⟨some 39, Op.move (Operand.tmp 38), 4, "law.go:19", #[ed_ 1], none⟩
def oz7_5_3 : Oper := ⟨some 40, Op.move (Operand.tmp 3), 26, "law.go:19", #[eg_ 2], some (2, true)⟩
def oz7_5_4 : Oper := ⟨some 41, Op.binOp Go.BinOp.eql 26 (Operand.tmp 40) (Operand.const (Value.int IntKind.i64 0)) 26, 4, "law.go:19", #[ed_ 3, eg_ 2], some (2, true)⟩
def oz7_5_5 : Oper := ⟨some 42, Op.pick (Operand.tmp 39) (Operand.tmp 41) (Operand.const (Value.bool false)), 4, "law.go:19", #[ed_ 2, ed_ 4], none⟩
def oz7_5_6 : Oper := ⟨some 43, Op.move (Operand.tmp 42), 4, "law.go:19", #[ed_ 5, ec_ 2], none⟩
def oz7_5_7 : Oper := ⟨some 44, Op.move (Operand.tmp 4), 9, "law.go:19", #[eg_ 6], some (6, true)⟩
def oz7_5_8 : Oper := ⟨some 45, Op.binOp Go.BinOp.eql 9 (Operand.tmp 44) (Operand.const (Value.string { data := #[39, 44, 39] })) 9, 4, "law.go:19", #[ed_ 7, eg_ 6], some (6, true)⟩
def oz7_5_9 : Oper := ⟨some 46, Op.pick (Operand.tmp 43) (Operand.tmp 45) (Operand.const (Value.bool false)), 4, "law.go:19", #[ed_ 6, ed_ 8], none⟩
def oz7_5_10 : Oper := ⟨some 47, Op.move (Operand.tmp 46), 4, "law.go:19", #[ed_ 9, ec_ 6], none⟩
def oz7_5_11 : Oper := ⟨some 48, Op.move (Operand.tmp 5), 26, "law.go:19", #[eg_ 10], some (10, true)⟩
def oz7_5_12 : Oper := ⟨some 49, Op.binOp Go.BinOp.eql 26 (Operand.tmp 48) (Operand.const (Value.int IntKind.i64 0)) 26, 4, "law.go:19", #[ed_ 11, eg_ 10], some (10, true)⟩
def oz7_5_13 : Oper := ⟨some 50, Op.pick (Operand.tmp 47) (Operand.tmp 49) (Operand.const (Value.bool false)), 4, "law.go:19", #[ed_ 10, ed_ 12], none⟩
def oz7_5_14 : Oper := ⟨some 51, Op.move (Operand.tmp 50), 4, "law.go:19", #[ed_ 13, ec_ 10], none⟩
def oz7_5_15 : Oper := ⟨some 52, Op.move (Operand.tmp 6), 9, "law.go:19", #[eg_ 14], some (14, true)⟩
def oz7_5_16 : Oper := ⟨some 53, Op.binOp Go.BinOp.eql 9 (Operand.tmp 52) (Operand.const (Value.string { data := #[39, 91, 93, 39, 40, 97, 41] })) 9, 4, "law.go:19", #[ed_ 15, eg_ 14], some (14, true)⟩
def oz7_5_17 : Oper := ⟨some 54, Op.pick (Operand.tmp 51) (Operand.tmp 53) (Operand.const (Value.bool false)), 4, "law.go:19", #[ed_ 14, ed_ 16], none⟩
def oz7_5_18 : Oper := ⟨some 55, Op.move (Operand.tmp 54), 4, "law.go:19", #[ed_ 17, ec_ 14], none⟩
def oz7_5_19 : Oper := ⟨some 56, Op.move (Operand.tmp 7), 26, "law.go:19", #[eg_ 18], some (18, true)⟩
def oz7_5_20 : Oper := ⟨some 57, Op.binOp Go.BinOp.eql 26 (Operand.tmp 56) (Operand.const (Value.int IntKind.i64 0)) 26, 4, "law.go:19", #[ed_ 19, eg_ 18], some (18, true)⟩
def oz7_5_21 : Oper := ⟨some 58, Op.pick (Operand.tmp 55) (Operand.tmp 57) (Operand.const (Value.bool false)), 4, "law.go:19", #[ed_ 18, ed_ 20], none⟩
def oz7_5_22 : Oper := ⟨some 0, Op.assign (Operand.tmp 58), 4, "law.go:19", #[ed_ 21, ec_ 18, ep_ 0, ep_ 1, ep_ 2, ep_ 3, ep_ 4, ep_ 5, ep_ 6, ep_ 7, ep_ 8, ep_ 9, ep_ 10, ep_ 11, ep_ 12, ep_ 13, ep_ 14, ep_ 15, ep_ 16, ep_ 17, ep_ 18, ep_ 19, ep_ 20, ep_ 21], none⟩
def Oz7_5 : Array Oper := List.toArray (oz7_5_0 :: oz7_5_1 :: oz7_5_2 :: oz7_5_3 :: oz7_5_4 :: oz7_5_5 :: oz7_5_6 :: oz7_5_7 :: oz7_5_8 :: oz7_5_9 :: oz7_5_10 :: oz7_5_11 :: oz7_5_12 :: oz7_5_13 :: oz7_5_14 :: oz7_5_15 :: oz7_5_16 :: oz7_5_17 :: oz7_5_18 :: oz7_5_19 :: oz7_5_20 :: oz7_5_21 :: oz7_5_22 :: [])
theorem gz7_5_0 : Oz7_5[0]? = some oz7_5_0 := rfl
theorem gz7_5_1 : Oz7_5[1]? = some oz7_5_1 := rfl
theorem gz7_5_2 : Oz7_5[2]? = some oz7_5_2 := rfl
theorem gz7_5_3 : Oz7_5[3]? = some oz7_5_3 := rfl
theorem gz7_5_4 : Oz7_5[4]? = some oz7_5_4 := rfl
theorem gz7_5_5 : Oz7_5[5]? = some oz7_5_5 := rfl
theorem gz7_5_6 : Oz7_5[6]? = some oz7_5_6 := rfl
theorem gz7_5_7 : Oz7_5[7]? = some oz7_5_7 := rfl
theorem gz7_5_8 : Oz7_5[8]? = some oz7_5_8 := rfl
theorem gz7_5_9 : Oz7_5[9]? = some oz7_5_9 := rfl
theorem gz7_5_10 : Oz7_5[10]? = some oz7_5_10 := rfl
theorem gz7_5_11 : Oz7_5[11]? = some oz7_5_11 := rfl
theorem gz7_5_12 : Oz7_5[12]? = some oz7_5_12 := rfl
theorem gz7_5_13 : Oz7_5[13]? = some oz7_5_13 := rfl
theorem gz7_5_14 : Oz7_5[14]? = some oz7_5_14 := rfl
theorem gz7_5_15 : Oz7_5[15]? = some oz7_5_15 := rfl
theorem gz7_5_16 : Oz7_5[16]? = some oz7_5_16 := rfl
theorem gz7_5_17 : Oz7_5[17]? = some oz7_5_17 := rfl
theorem gz7_5_18 : Oz7_5[18]? = some oz7_5_18 := rfl
theorem gz7_5_19 : Oz7_5[19]? = some oz7_5_19 := rfl
theorem gz7_5_20 : Oz7_5[20]? = some oz7_5_20 := rfl
theorem gz7_5_21 : Oz7_5[21]? = some oz7_5_21 := rfl
theorem gz7_5_22 : Oz7_5[22]? = some oz7_5_22 := rfl
def cz7_11 : Code := Code.region 5 Oz7_5 false
def cz7_10 : Code := Code.seq cz7_11 Code.ret
def cz7_8 : Code := Code.seq cz7_9 cz7_10
def cz7_6 : Code := Code.seq cz7_7 cz7_8
def cz7_4 : Code := Code.seq cz7_5 cz7_6
def cz7_2 : Code := Code.seq cz7_3 cz7_4
def cz7_0 : Code := Code.seq cz7_1 cz7_2
theorem enz7_1008 : Enters Tryz.prog 8 := enters_of Tryz.func8 (by kernel_rfl) rfl
theorem enz7_1016 : Enters Tryz.prog 16 := enters_of Tryz.func16 (by kernel_rfl) rfl
theorem bodyz7 : Tryz.f7.body = some cz7_0 := by kernel_rfl
set_option maxRecDepth 100000 in
set_option maxHeartbeats 4000000 in
theorem alive_w {W : World} {f0 : Act} {w0 : World} (R : FrS 59 f0)  (K1 : Keep (fun g => g < W.heap.size) W w0)  (HV : Hid (VarsAt W.heap.size W)) : cz7_0.wp Tryz.prog (bodyPost Tryz.prog Tryz.f7 (fun e w' => e = .returned (.bool true) ∧ Keep (fun g => g < W.heap.size) W w')) f0 w0 := by
  refine wp_seq (x := cz7_1) (y := cz7_2) ?_
  change (Code.region 0 Oz7_0 false).wp _ _ _ _
  refine reg_in (l := [0]) rfl ?_
  have F : FE_ _ [] f0 f0 := ⟨R, Ag_.refl _⟩; clear R
  have Y : (execOp f0.eval oz7_0_0).run Tryz.prog w0 = .ok (.value (.bool false)) w0 := by unfold oz7_0_0; go_simp
  refine sv_ gz7_0_0 Y fun a101 e => ?_; clear Y
  have h0 := pt_ F e; replace F := pu_ F e; clear e
  refine st_end ?_
  have R := F.r; clear F
  change (cz7_2).wp _ _ _ _
  refine wp_seq (x := cz7_3) (y := cz7_4) ?_
  change (Code.region 1 Oz7_1 false).wp _ _ _ _
  refine reg_in (l := [0, 1, 2, 3, 4, 5, 6]) rfl ?_
  have F : FE_ _ [] a101 a101 := ⟨R, Ag_.refl _⟩; clear R
  have Y : (execOp a101.eval oz7_1_0).run Tryz.prog w0 = .ok (.enter 18 #[.int .i64 1]) w0 := by unfold oz7_1_0; go_simp
  refine st_call gz7_1_0 rfl (wanted_free rfl) Y ((refN_any _ 1).mono ?_); clear Y
  rintro e9 w102 ⟨rfl, kk⟩
  replace K1 := keep_onto K1 kk
  clear kk
  refine ⟨_, rfl, fun a103 e => ?_⟩
  have h8 := pt_ F e; replace F := pu_ F e; clear e
  have Y : (execOp a103.eval oz7_1_1).run Tryz.prog w102 = .ok (.enter 18 #[.int .i64 (-2)]) w102 := by unfold oz7_1_1; go_simp
  refine st_call gz7_1_1 rfl (wanted_free rfl) Y ((refN_any _ (-2)).mono ?_); clear Y
  rintro e9 w104 ⟨rfl, kk⟩
  replace K1 := keep_onto K1 kk
  clear kk
  refine ⟨_, rfl, fun a105 e => ?_⟩
  have h9 := pt_ F e; replace F := pu_ F e; replace h8 := so_ e h8; clear e
  have Y : (execOp a105.eval oz7_1_2).run Tryz.prog w104 = .ok (.value (.slice (some ⟨w104.heap.size, 0, none⟩) 2 2)) (w104.alloc (.cells #[.int .i64 ((Tm.node 2 [] 1 []).k), .string (str (Tm.node 2 [] 1 []).nm), .int .i64 ((Tm.node 2 [] 1 []).i), .slice none (Tm.node 2 [] 1 []).args.length 0, .int .i64 ((Tm.node 2 [] (-2) []).k), .string (str (Tm.node 2 [] (-2) []).nm), .int .i64 ((Tm.node 2 [] (-2) []).i), .slice none (Tm.node 2 [] (-2) []).args.length 0] 24)) := by unfold oz7_1_2; go_simp
  have B106 := Blk.new w104 24 #[.int .i64 ((Tm.node 2 [] 1 []).k), .string (str (Tm.node 2 [] 1 []).nm), .int .i64 ((Tm.node 2 [] 1 []).i), .slice none (Tm.node 2 [] 1 []).args.length 0, .int .i64 ((Tm.node 2 [] (-2) []).k), .string (str (Tm.node 2 [] (-2) []).nm), .int .i64 ((Tm.node 2 [] (-2) []).i), .slice none (Tm.node 2 [] (-2) []).args.length 0]
  obtain ⟨w107, hw⟩ : ∃ x, x = w104.alloc (.cells #[.int .i64 ((Tm.node 2 [] 1 []).k), .string (str (Tm.node 2 [] 1 []).nm), .int .i64 ((Tm.node 2 [] 1 []).i), .slice none (Tm.node 2 [] 1 []).args.length 0, .int .i64 ((Tm.node 2 [] (-2) []).k), .string (str (Tm.node 2 [] (-2) []).nm), .int .i64 ((Tm.node 2 [] (-2) []).i), .slice none (Tm.node 2 [] (-2) []).args.length 0] 24) := ⟨_, rfl⟩; rw [← hw] at Y B106
  obtain ⟨b106, hb⟩ : ∃ x, x = w104.heap.size := ⟨_, rfl⟩; rw [← hb] at Y B106
  have LK1_b106 := lk_ hb K1; replace K1 := ka_ hw K1; clear hw hb
  refine sv_ gz7_1_2 Y fun a108 e => ?_; clear Y
  clear h8 h9; have h10 := pt_ F e; replace F := pu_ F e; clear e
  have Y : (execOp a108.eval oz7_1_3).run Tryz.prog w107 = .ok (.enter 19 #[.int .i64 3]) w107 := by unfold oz7_1_3; go_simp
  refine st_call gz7_1_3 rfl (wanted_free rfl) Y ((refV_any _ 3).mono ?_); clear Y
  rintro e9 w109 ⟨rfl, kk⟩
  replace K1 := keep_onto K1 kk
  replace B106 := blk_on B106 kk
  clear kk
  refine ⟨_, rfl, fun a110 e => ?_⟩
  have h11 := pt_ F e; replace F := pu_ F e; replace h10 := so_ e h10; clear e
  have hS : TmSl w109.heap.size w109 (some ⟨b106, 0, none⟩) [((Tm.node 2 [] 1 []), none, 0), ((Tm.node 2 [] (-2) []), none, 0)] := tmsl_blk B106 (fun p hp => by rcases List.mem_cons.1 hp with rfl | hp; exact tm_leaf (by decide) (by decide) (by decide); rw [List.mem_singleton.1 hp]; exact tm_leaf (by decide) (by decide) (by decide))
  have hca := refList_any (t := (Tm.node 1 [] 3 [])) (a := none) (c := 0) (sc := 2) hS (tm_leaf (by decide) (by decide) (by decide)) (by decide); clear hS
  refine st_call gz7_1_4 rfl (wanted_free rfl) (yc2_ enz7_1016 rfl h10 h11) ((hca).mono ?_)
  rintro e9 w111 ⟨al, cl, rfl, hx, kk⟩
  replace K1 := keep_onto K1 kk
  replace B106 := blk_on B106 kk
  clear kk
  have HXl := Lib.hid (hx : TmAt w111.heap.size w111 lsA al cl); clear hx hca
  have KXl := Keep.refl (fun g => g < w111.heap.size) w111
  refine ⟨_, rfl, fun a112 e => ?_⟩
  clear h10 h11; have h12 := pt_ F e; replace F := pu_ F e; clear e
  have Y : (execOp a112.eval oz7_1_5).run Tryz.prog w111 = .ok (.value (.pointer (some ⟨w111.heap.size, 0, none⟩))) (w111.alloc (.cells #[.int .i64 0, .string (⟨#[]⟩), .int .i64 0, .slice none 0 0] 24)) := by unfold oz7_1_5; go_simp
  have B113 := Blk.new w111 24 #[.int .i64 0, .string (⟨#[]⟩), .int .i64 0, .slice none 0 0]
  obtain ⟨w114, hw⟩ : ∃ x, x = w111.alloc (.cells #[.int .i64 0, .string (⟨#[]⟩), .int .i64 0, .slice none 0 0] 24) := ⟨_, rfl⟩; rw [← hw] at Y B113
  obtain ⟨b113, hb⟩ : ∃ x, x = w111.heap.size := ⟨_, rfl⟩; rw [← hb] at Y B113
  have Nb106_b113 := nb_ hb B106; replace B106 := ba_ hw B106; have LK1_b113 := lk_ hb K1; replace K1 := ka_ hw K1; have LKXl_b113 := lk_ hb KXl; replace KXl := ka_ hw KXl; clear hw hb
  refine sv_ gz7_1_5 Y fun a115 e => ?_; clear Y
  have h1 := pt_ F e; replace F := pu_ F e; replace h12 := so_ e h12; clear e
  obtain ⟨w116, Y, hk, hB⟩ := ys4_ (o := oz7_1_6) rfl h1 h12 B113
  replace K1 := kx_ hk K1 (Nat.not_lt.2 LK1_b113); replace KXl := kx_ hk KXl (Nat.not_lt.2 LKXl_b113); replace B106 := bx_ hk B106 Nb106_b113; clear B113; have B113 := hB; clear hB hk
  refine st_skip gz7_1_6 rfl (wanted_free rfl) Y ?_; clear Y
  refine st_end ?_
  replace h0 := F.of h0; clear h12; have R := F.r; clear F
  change (cz7_4).wp _ _ _ _
  refine wp_seq (x := cz7_5) (y := cz7_6) ?_
  change (Code.region 2 Oz7_2 true).wp _ _ _ _
  have D119 := B106
  have D120 := B113
  have K117 := (Keep.refl (fun g => g < w116.heap.size) w116).drew
  have EK1 := K1
  have EKXl := KXl
  refine dr_in (S := (fun W => Keep (fun g => g < w116.heap.size) w116 W)) (n := 15) (l := lb_ 15 0) (by kernel_rfl) K117 rfl (by kernel_rfl) ?_
  replace K1 := K1.drew
  replace KXl := KXl.drew
  replace B106 := B106.drew
  replace B113 := B113.drew
  generalize w116.drew = w118 at K117 K1 KXl B106 B113 ⊢
  have F : FE_ _ [] a115 a115 := ⟨R, Ag_.refl _⟩; clear R
  refine dt_ (i := 2) (l' := (lb_ 15 4)) gz7_2_2 rfl nsz7_2 (wanted_free rfl) K117 (fun W7 hS => (yl4_ rfl (F.of h1) (D120.keep hS D120.lt))) fun a121 e => ?_
  have h16 := pt_ F e; replace F := pu_ F e; clear e
  refine dr_only (i := 0) (fuel := 13) (by kernel_rfl) ?_
  have Y : (execOp a121.eval oz7_2_0).run Tryz.prog w118 = .ok (.enter 19 #[.int .i64 1]) w118 := by unfold oz7_2_0; go_simp
  refine dr_call (l' := (lb_ 15 5)) gz7_2_0 rfl (by kernel_rfl) (wanted_free rfl) Y ((refV_any _ 1).mono ?_); clear Y
  rintro e9 w122 ⟨rfl, kk⟩
  replace K1 := keep_onto K1 kk
  replace KXl := keep_onto KXl kk
  replace K117 := keep_onto K117 kk
  replace B106 := blk_on B106 kk
  replace B113 := blk_on B113 kk
  clear kk
  refine ⟨_, rfl, K117, fun a123 e => ?_⟩
  have h14 := pt_ F e; replace F := pu_ F e; replace h16 := so_ e h16; clear e
  refine dr_only (i := 1) (fuel := 12) (by kernel_rfl) ?_
  have Y : (execOp a123.eval oz7_2_1).run Tryz.prog w122 = .ok (.enter 17 #[.string (⟨#[97, 32, 98]⟩)]) w122 := by unfold oz7_2_1; go_simp
  refine dr_call (l' := (lb_ 15 7)) gz7_2_1 rfl (by kernel_rfl) (wanted_free rfl) Y ((refA_any _ [97, 32, 98]).mono ?_); clear Y
  rintro e9 w124 ⟨rfl, kk⟩
  replace K1 := keep_onto K1 kk
  replace KXl := keep_onto KXl kk
  replace K117 := keep_onto K117 kk
  replace B106 := blk_on B106 kk
  replace B113 := blk_on B113 kk
  clear kk
  refine ⟨_, rfl, K117, fun a125 e => ?_⟩
  have h15 := pt_ F e; replace F := pu_ F e; replace h14 := so_ e h14; replace h16 := so_ e h16; clear e
  refine dr_only (i := 3) (fuel := 11) (by kernel_rfl) ?_
  have Y : (execOp a125.eval oz7_2_3).run Tryz.prog w124 = .ok (.enter 18 #[.int .i64 1]) w124 := by unfold oz7_2_3; go_simp
  refine dr_call (l' := (lb_ 15 15)) gz7_2_3 rfl (by kernel_rfl) (wanted_free rfl) Y ((refN_any _ 1).mono ?_); clear Y
  rintro e9 w126 ⟨rfl, kk⟩
  replace K1 := keep_onto K1 kk
  replace KXl := keep_onto KXl kk
  replace K117 := keep_onto K117 kk
  replace B106 := blk_on B106 kk
  replace B113 := blk_on B113 kk
  clear kk
  refine ⟨_, rfl, K117, fun a127 e => ?_⟩
  have h17 := pt_ F e; replace F := pu_ F e; replace h14 := so_ e h14; replace h15 := so_ e h15; replace h16 := so_ e h16; clear e
  refine dr_only (i := 4) (fuel := 10) (by kernel_rfl) ?_
  have Y : (execOp a127.eval oz7_2_4).run Tryz.prog w126 = .ok (.enter 18 #[.int .i64 2]) w126 := by unfold oz7_2_4; go_simp
  refine dr_call (l' := (lb_ 15 31)) gz7_2_4 rfl (by kernel_rfl) (wanted_free rfl) Y ((refN_any _ 2).mono ?_); clear Y
  rintro e9 w128 ⟨rfl, kk⟩
  replace K1 := keep_onto K1 kk
  replace KXl := keep_onto KXl kk
  replace K117 := keep_onto K117 kk
  replace B106 := blk_on B106 kk
  replace B113 := blk_on B113 kk
  clear kk
  refine ⟨_, rfl, K117, fun a129 e => ?_⟩
  have h18 := pt_ F e; replace F := pu_ F e; replace h14 := so_ e h14; replace h15 := so_ e h15; replace h16 := so_ e h16; replace h17 := so_ e h17; clear e
  refine dr_only (i := 5) (fuel := 9) (by kernel_rfl) ?_
  have Y : (execOp a129.eval oz7_2_5).run Tryz.prog w128 = .ok (.value (.slice (some ⟨w128.heap.size, 0, none⟩) 2 2)) (w128.alloc (.cells #[.int .i64 ((Tm.node 2 [] 1 []).k), .string (str (Tm.node 2 [] 1 []).nm), .int .i64 ((Tm.node 2 [] 1 []).i), .slice none (Tm.node 2 [] 1 []).args.length 0, .int .i64 ((Tm.node 2 [] 2 []).k), .string (str (Tm.node 2 [] 2 []).nm), .int .i64 ((Tm.node 2 [] 2 []).i), .slice none (Tm.node 2 [] 2 []).args.length 0] 24)) := by unfold oz7_2_5; go_simp
  have B130 := Blk.new w128 24 #[.int .i64 ((Tm.node 2 [] 1 []).k), .string (str (Tm.node 2 [] 1 []).nm), .int .i64 ((Tm.node 2 [] 1 []).i), .slice none (Tm.node 2 [] 1 []).args.length 0, .int .i64 ((Tm.node 2 [] 2 []).k), .string (str (Tm.node 2 [] 2 []).nm), .int .i64 ((Tm.node 2 [] 2 []).i), .slice none (Tm.node 2 [] 2 []).args.length 0]
  obtain ⟨w131, hw⟩ : ∃ x, x = w128.alloc (.cells #[.int .i64 ((Tm.node 2 [] 1 []).k), .string (str (Tm.node 2 [] 1 []).nm), .int .i64 ((Tm.node 2 [] 1 []).i), .slice none (Tm.node 2 [] 1 []).args.length 0, .int .i64 ((Tm.node 2 [] 2 []).k), .string (str (Tm.node 2 [] 2 []).nm), .int .i64 ((Tm.node 2 [] 2 []).i), .slice none (Tm.node 2 [] 2 []).args.length 0] 24) := ⟨_, rfl⟩; rw [← hw] at Y B130
  obtain ⟨b130, hb⟩ : ∃ x, x = w128.heap.size := ⟨_, rfl⟩; rw [← hb] at Y B130
  have Nb106_b130 := nb_ hb B106; replace B106 := ba_ hw B106; have Nb113_b130 := nb_ hb B113; replace B113 := ba_ hw B113; have LK1_b130 := lk_ hb K1; replace K1 := ka_ hw K1; have LKXl_b130 := lk_ hb KXl; replace KXl := ka_ hw KXl; have LK117_b130 := lk_ hb K117; replace K117 := ka_ hw K117; clear hw hb
  refine dr_val (l' := (lb_ 15 63)) gz7_2_5 rfl (by kernel_rfl) (wanted_free rfl) Y K117 fun a132 e => ?_; clear Y
  clear h17 h18; have h19 := pt_ F e; replace F := pu_ F e; replace h14 := so_ e h14; replace h15 := so_ e h15; replace h16 := so_ e h16; clear e
  refine dr_only (i := 6) (fuel := 8) (by kernel_rfl) ?_
  have Y : (execOp a132.eval oz7_2_6).run Tryz.prog w131 = .ok (.enter 20 #[.string (⟨#[43]⟩), .slice (some ⟨b130, 0, none⟩) 2 2]) w131 := by unfold oz7_2_6; go_simp
  refine dr_call (l' := (lb_ 15 127)) gz7_2_6 rfl (by kernel_rfl) (wanted_free rfl) Y ((refC_any _ [43] [(Tm.node 2 [] 1 []), (Tm.node 2 [] 2 [])] (some ⟨b130, 0, none⟩) 2).mono ?_); clear Y
  rintro e9 w133 ⟨rfl, kk⟩
  replace K1 := keep_onto K1 kk
  replace KXl := keep_onto KXl kk
  replace K117 := keep_onto K117 kk
  replace B106 := blk_on B106 kk
  replace B113 := blk_on B113 kk
  replace B130 := blk_on B130 kk
  clear kk
  refine ⟨_, rfl, K117, fun a134 e => ?_⟩
  clear h19; have h20 := pt_ F e; replace F := pu_ F e; replace h14 := so_ e h14; replace h15 := so_ e h15; replace h16 := so_ e h16; clear e
  refine dr_only (i := 7) (fuel := 7) (by kernel_rfl) ?_
  have Y : (execOp a134.eval oz7_2_7).run Tryz.prog w133 = .ok (.value (.slice (some ⟨w133.heap.size, 0, none⟩) 4 4)) (w133.alloc (.cells #[.int .i64 ((Tm.node 1 [] 1 []).k), .string (str (Tm.node 1 [] 1 []).nm), .int .i64 ((Tm.node 1 [] 1 []).i), .slice none (Tm.node 1 [] 1 []).args.length 0, .int .i64 ((Tm.node 3 [97, 32, 98] 0 []).k), .string (str (Tm.node 3 [97, 32, 98] 0 []).nm), .int .i64 ((Tm.node 3 [97, 32, 98] 0 []).i), .slice none (Tm.node 3 [97, 32, 98] 0 []).args.length 0, .int .i64 lsA.k, .string (str lsA.nm), .int .i64 lsA.i, .slice al lsA.args.length cl, .int .i64 plA.k, .string (str plA.nm), .int .i64 plA.i, .slice (some ⟨b130, 0, none⟩) plA.args.length 2] 24)) := by unfold oz7_2_7; go_simp; rfl
  have B135 := Blk.new w133 24 #[.int .i64 ((Tm.node 1 [] 1 []).k), .string (str (Tm.node 1 [] 1 []).nm), .int .i64 ((Tm.node 1 [] 1 []).i), .slice none (Tm.node 1 [] 1 []).args.length 0, .int .i64 ((Tm.node 3 [97, 32, 98] 0 []).k), .string (str (Tm.node 3 [97, 32, 98] 0 []).nm), .int .i64 ((Tm.node 3 [97, 32, 98] 0 []).i), .slice none (Tm.node 3 [97, 32, 98] 0 []).args.length 0, .int .i64 lsA.k, .string (str lsA.nm), .int .i64 lsA.i, .slice al lsA.args.length cl, .int .i64 plA.k, .string (str plA.nm), .int .i64 plA.i, .slice (some ⟨b130, 0, none⟩) plA.args.length 2]
  obtain ⟨w136, hw⟩ : ∃ x, x = w133.alloc (.cells #[.int .i64 ((Tm.node 1 [] 1 []).k), .string (str (Tm.node 1 [] 1 []).nm), .int .i64 ((Tm.node 1 [] 1 []).i), .slice none (Tm.node 1 [] 1 []).args.length 0, .int .i64 ((Tm.node 3 [97, 32, 98] 0 []).k), .string (str (Tm.node 3 [97, 32, 98] 0 []).nm), .int .i64 ((Tm.node 3 [97, 32, 98] 0 []).i), .slice none (Tm.node 3 [97, 32, 98] 0 []).args.length 0, .int .i64 lsA.k, .string (str lsA.nm), .int .i64 lsA.i, .slice al lsA.args.length cl, .int .i64 plA.k, .string (str plA.nm), .int .i64 plA.i, .slice (some ⟨b130, 0, none⟩) plA.args.length 2] 24) := ⟨_, rfl⟩; rw [← hw] at Y B135
  obtain ⟨b135, hb⟩ : ∃ x, x = w133.heap.size := ⟨_, rfl⟩; rw [← hb] at Y B135
  have Nb106_b135 := nb_ hb B106; replace B106 := ba_ hw B106; have Nb113_b135 := nb_ hb B113; replace B113 := ba_ hw B113; have Nb130_b135 := nb_ hb B130; replace B130 := ba_ hw B130; have LK1_b135 := lk_ hb K1; replace K1 := ka_ hw K1; have LKXl_b135 := lk_ hb KXl; replace KXl := ka_ hw KXl; have LK117_b135 := lk_ hb K117; replace K117 := ka_ hw K117; clear hw hb
  refine dr_val (l' := (lb_ 15 255)) gz7_2_7 rfl (by kernel_rfl) (wanted_free rfl) Y K117 fun a137 e => ?_; clear Y
  clear h14 h15 h16 h20; have h21 := pt_ F e; replace F := pu_ F e; clear e
  refine dr_only (i := 8) (fuel := 6) (by kernel_rfl) ?_
  have Y : (execOp a137.eval oz7_2_8).run Tryz.prog w136 = .ok (.enter 20 #[.string (⟨#[102]⟩), .slice (some ⟨b135, 0, none⟩) 4 4]) w136 := by unfold oz7_2_8; go_simp
  refine dr_call (l' := (lb_ 15 511)) gz7_2_8 rfl (by kernel_rfl) (wanted_free rfl) Y ((refC_any _ [102] [(Tm.node 1 [] 1 []), (Tm.node 3 [97, 32, 98] 0 []), lsA, plA] (some ⟨b135, 0, none⟩) 4).mono ?_); clear Y
  rintro e9 w138 ⟨rfl, kk⟩
  replace K1 := keep_onto K1 kk
  replace KXl := keep_onto KXl kk
  replace K117 := keep_onto K117 kk
  replace B106 := blk_on B106 kk
  replace B113 := blk_on B113 kk
  replace B130 := blk_on B130 kk
  replace B135 := blk_on B135 kk
  clear kk
  refine ⟨_, rfl, K117, fun a139 e => ?_⟩
  clear h21; have h22 := pt_ F e; replace F := pu_ F e; clear e
  refine dr_only (i := 9) (fuel := 5) (by kernel_rfl) ?_
  have hP : TmAt w138.heap.size w138 plA (some ⟨b130, 0, none⟩) 2 := comp_at (ps := [((Tm.node 2 [] 1 []), none, 0), ((Tm.node 2 [] 2 []), none, 0)]) B130 (fun p hp => by rcases List.mem_cons.1 hp with rfl | hp; exact tm_leaf (by decide) (by decide) (by decide); rw [List.mem_singleton.1 hp]; exact tm_leaf (by decide) (by decide) (by decide)) (by decide) (Nat.le_of_ble_eq_true rfl)
  have hL := HXl.out.on KXl; have hT : TmAt w138.heap.size w138 al1T (some ⟨b135, 0, none⟩) 4 := comp_at (ps := [((Tm.node 1 [] 1 []), none, 0), ((Tm.node 3 [97, 32, 98] 0 []), none, 0), (lsA, al, cl), (plA, some ⟨b130, 0, none⟩, 2)]) B135 (fun p hp => by rcases List.mem_cons.1 hp with rfl | hp; exact tm_leaf (by decide) (by decide) (by decide); rcases List.mem_cons.1 hp with rfl | hp; exact tm_leaf (by decide) (by decide) (by decide); rcases List.mem_cons.1 hp with rfl | hp; exact hL; rw [List.mem_singleton.1 hp]; exact hP) (by decide) (Nat.le_of_ble_eq_true rfl)
  have hca := wText_any hT (HV.out.up K1.size K1); rw [al_1] at hca; clear hT hL hP
  refine dr_call (l' := (lb_ 15 1023)) gz7_2_9 rfl (by kernel_rfl) (wanted_free rfl) (yc1_ enz7_1008 rfl h22) ((hca).mono ?_)
  rintro e9 w140 ⟨rfl, kk⟩
  replace K1 := keep_onto K1 kk
  replace KXl := keep_onto KXl kk
  replace K117 := keep_onto K117 kk
  replace B106 := blk_on B106 kk
  replace B113 := blk_on B113 kk
  replace B130 := blk_on B130 kk
  replace B135 := blk_on B135 kk
  clear hca
  clear kk
  refine ⟨_, rfl, K117, fun a141 e => ?_⟩
  clear h22; have h23 := pt_ F e; replace F := pu_ F e; clear e
  refine dt_ (i := 10) (l' := (lb_ 15 2047)) gz7_2_10 rfl nsz7_2 (wanted_free rfl) K117 (fun _ _ => (ym_ rfl h23)) fun a142 e => ?_
  clear h23; have h13 := pt_ F e; replace F := pu_ F e; clear e
  refine dt_ (i := 11) (l' := (lb_ 15 4095)) gz7_2_11 rfl nsz7_2 (wanted_free rfl) K117 (fun _ _ => (ye20_ rfl h13)) fun a143 e => ?_
  have h24 := pt_ F e; replace F := pu_ F e; replace h13 := so_ e h13; clear e
  refine dt_ (i := 12) (l' := (lb_ 15 8191)) gz7_2_12 rfl nsz7_2 (wanted_free rfl) K117 (fun _ _ => (ye21_ rfl h13)) fun a144 e => ?_
  clear h13; have h25 := pt_ F e; replace F := pu_ F e; replace h24 := so_ e h24; clear e
  refine dt_ (i := 13) (l' := (lb_ 15 16383)) gz7_2_13 rfl nsz7_2 (wanted_free rfl) K117 (fun _ _ => (ya_ rfl h24)) fun a145 e => ?_
  clear h24; have h2 := pt_ F e; replace F := pu_ F e; replace h25 := so_ e h25; clear e
  refine dt_ (i := 14) (l' := (lb_ 15 32767)) gz7_2_14 rfl nsz7_2 (wanted_free rfl) K117 (fun _ _ => (ya_ rfl h25)) fun a146 e => ?_
  clear h25; have h3 := pt_ F e; replace F := pu_ F e; replace h2 := so_ e h2; clear e
  refine dr_end (by kernel_rfl) ?_
  replace h0 := F.of h0; clear h1; have R := F.r; clear F
  clear K117 EK1 EKXl D119 D120
  change (cz7_6).wp _ _ _ _
  refine wp_seq (x := cz7_7) (y := cz7_8) ?_
  change (Code.region 3 Oz7_3 false).wp _ _ _ _
  refine reg_in (l := [0, 1, 2, 3, 4, 5]) rfl ?_
  have F : FE_ _ [] a146 a146 := ⟨R, Ag_.refl _⟩; clear R
  have Y : (execOp a146.eval oz7_3_0).run Tryz.prog w140 = .ok (.enter 12 #[.string (⟨#[44]⟩)]) w140 := by unfold oz7_3_0; go_simp
  have hca := wName_any w140 [44] (by decide) (HV.out.up K1.size K1); rw [al_2] at hca
  refine st_call gz7_3_0 rfl (wanted_free rfl) Y ((hca).mono ?_); clear Y
  rintro e9 w147 ⟨rfl, kk⟩
  replace K1 := keep_onto K1 kk
  replace KXl := keep_onto KXl kk
  replace B106 := blk_on B106 kk
  replace B113 := blk_on B113 kk
  replace B130 := blk_on B130 kk
  replace B135 := blk_on B135 kk
  clear hca
  clear kk
  refine ⟨_, rfl, fun a148 e => ?_⟩
  have h27 := pt_ F e; replace F := pu_ F e; clear e
  refine sv_ gz7_3_1 (ym_ rfl h27) fun a149 e => ?_
  clear h27; have h26 := pt_ F e; replace F := pu_ F e; clear e
  refine sv_ gz7_3_2 (ye20_ rfl h26) fun a150 e => ?_
  have h28 := pt_ F e; replace F := pu_ F e; replace h26 := so_ e h26; clear e
  refine sv_ gz7_3_3 (ye21_ rfl h26) fun a151 e => ?_
  clear h26; have h29 := pt_ F e; replace F := pu_ F e; replace h28 := so_ e h28; clear e
  refine sv_ gz7_3_4 (ya_ rfl h28) fun a152 e => ?_
  clear h28; have h4 := pt_ F e; replace F := pu_ F e; replace h29 := so_ e h29; clear e
  refine sv_ gz7_3_5 (ya_ rfl h29) fun a153 e => ?_
  clear h29; have h5 := pt_ F e; replace F := pu_ F e; replace h4 := so_ e h4; clear e
  refine st_end ?_
  replace h0 := F.of h0; replace h2 := F.of h2; replace h3 := F.of h3; have R := F.r; clear F
  change (cz7_8).wp _ _ _ _
  refine wp_seq (x := cz7_9) (y := cz7_10) ?_
  change (Code.region 4 Oz7_4 false).wp _ _ _ _
  refine reg_in (l := [0, 1, 2, 3, 4, 5, 6, 7, 8]) rfl ?_
  have F : FE_ _ [] a153 a153 := ⟨R, Ag_.refl _⟩; clear R
  have Y : (execOp a153.eval oz7_4_0).run Tryz.prog w147 = .ok (.enter 17 #[.string (⟨#[97]⟩)]) w147 := by unfold oz7_4_0; go_simp
  refine st_call gz7_4_0 rfl (wanted_free rfl) Y ((refA_any _ [97]).mono ?_); clear Y
  rintro e9 w154 ⟨rfl, kk⟩
  replace K1 := keep_onto K1 kk
  replace KXl := keep_onto KXl kk
  replace B106 := blk_on B106 kk
  replace B113 := blk_on B113 kk
  replace B130 := blk_on B130 kk
  replace B135 := blk_on B135 kk
  clear kk
  refine ⟨_, rfl, fun a155 e => ?_⟩
  have h31 := pt_ F e; replace F := pu_ F e; clear e
  have Y : (execOp a155.eval oz7_4_1).run Tryz.prog w154 = .ok (.value (.slice (some ⟨w154.heap.size, 0, none⟩) 1 1)) (w154.alloc (.cells #[.int .i64 ((Tm.node 3 [97] 0 []).k), .string (str (Tm.node 3 [97] 0 []).nm), .int .i64 ((Tm.node 3 [97] 0 []).i), .slice none (Tm.node 3 [97] 0 []).args.length 0] 24)) := by unfold oz7_4_1; go_simp
  have B156 := Blk.new w154 24 #[.int .i64 ((Tm.node 3 [97] 0 []).k), .string (str (Tm.node 3 [97] 0 []).nm), .int .i64 ((Tm.node 3 [97] 0 []).i), .slice none (Tm.node 3 [97] 0 []).args.length 0]
  obtain ⟨w157, hw⟩ : ∃ x, x = w154.alloc (.cells #[.int .i64 ((Tm.node 3 [97] 0 []).k), .string (str (Tm.node 3 [97] 0 []).nm), .int .i64 ((Tm.node 3 [97] 0 []).i), .slice none (Tm.node 3 [97] 0 []).args.length 0] 24) := ⟨_, rfl⟩; rw [← hw] at Y B156
  obtain ⟨b156, hb⟩ : ∃ x, x = w154.heap.size := ⟨_, rfl⟩; rw [← hb] at Y B156
  have Nb106_b156 := nb_ hb B106; replace B106 := ba_ hw B106; have Nb113_b156 := nb_ hb B113; replace B113 := ba_ hw B113; have Nb130_b156 := nb_ hb B130; replace B130 := ba_ hw B130; have Nb135_b156 := nb_ hb B135; replace B135 := ba_ hw B135; have LK1_b156 := lk_ hb K1; replace K1 := ka_ hw K1; have LKXl_b156 := lk_ hb KXl; replace KXl := ka_ hw KXl; clear hw hb
  refine sv_ gz7_4_1 Y fun a158 e => ?_; clear Y
  clear h31; have h32 := pt_ F e; replace F := pu_ F e; clear e
  have Y : (execOp a158.eval oz7_4_2).run Tryz.prog w157 = .ok (.enter 20 #[.string (⟨#[91, 93]⟩), .slice (some ⟨b156, 0, none⟩) 1 1]) w157 := by unfold oz7_4_2; go_simp
  refine st_call gz7_4_2 rfl (wanted_free rfl) Y ((refC_any _ [91, 93] [(Tm.node 3 [97] 0 [])] (some ⟨b156, 0, none⟩) 1).mono ?_); clear Y
  rintro e9 w159 ⟨rfl, kk⟩
  replace K1 := keep_onto K1 kk
  replace KXl := keep_onto KXl kk
  replace B106 := blk_on B106 kk
  replace B113 := blk_on B113 kk
  replace B130 := blk_on B130 kk
  replace B135 := blk_on B135 kk
  replace B156 := blk_on B156 kk
  clear kk
  refine ⟨_, rfl, fun a160 e => ?_⟩
  clear h32; have h33 := pt_ F e; replace F := pu_ F e; clear e
  have hT : TmAt w159.heap.size w159 al3T (some ⟨b156, 0, none⟩) 1 := comp_at (ps := [((Tm.node 3 [97] 0 []), none, 0)]) B156 (fun p hp => by rw [List.mem_singleton.1 hp]; exact tm_leaf (by decide) (by decide) (by decide)) (by decide) (Nat.le_of_ble_eq_true rfl)
  have hca := wText_any hT (HV.out.up K1.size K1); rw [al_3] at hca; clear hT
  refine st_call gz7_4_3 rfl (wanted_free rfl) (yc1_ enz7_1008 rfl h33) ((hca).mono ?_)
  rintro e9 w161 ⟨rfl, kk⟩
  replace K1 := keep_onto K1 kk
  replace KXl := keep_onto KXl kk
  replace B106 := blk_on B106 kk
  replace B113 := blk_on B113 kk
  replace B130 := blk_on B130 kk
  replace B135 := blk_on B135 kk
  replace B156 := blk_on B156 kk
  clear hca
  clear kk
  refine ⟨_, rfl, fun a162 e => ?_⟩
  clear h33; have h34 := pt_ F e; replace F := pu_ F e; clear e
  refine sv_ gz7_4_4 (ym_ rfl h34) fun a163 e => ?_
  clear h34; have h30 := pt_ F e; replace F := pu_ F e; clear e
  refine sv_ gz7_4_5 (ye20_ rfl h30) fun a164 e => ?_
  have h35 := pt_ F e; replace F := pu_ F e; replace h30 := so_ e h30; clear e
  refine sv_ gz7_4_6 (ye21_ rfl h30) fun a165 e => ?_
  clear h30; have h36 := pt_ F e; replace F := pu_ F e; replace h35 := so_ e h35; clear e
  refine sv_ gz7_4_7 (ya_ rfl h35) fun a166 e => ?_
  clear h35; have h6 := pt_ F e; replace F := pu_ F e; replace h36 := so_ e h36; clear e
  refine sv_ gz7_4_8 (ya_ rfl h36) fun a167 e => ?_
  clear h36; have h7 := pt_ F e; replace F := pu_ F e; replace h6 := so_ e h6; clear e
  refine st_end ?_
  replace h0 := F.of h0; replace h2 := F.of h2; replace h3 := F.of h3; replace h4 := F.of h4; replace h5 := F.of h5; have R := F.r; clear F
  change (cz7_10).wp _ _ _ _
  refine wp_seq (x := cz7_11) (y := Code.ret) ?_
  change (Code.region 5 Oz7_5 false).wp _ _ _ _
  refine reg_in (l := [0, 1, 2, 3, 4, 5, 6, 7, 8, 9, 10, 11, 12, 13, 14, 15, 16, 17, 18, 19, 20, 21, 22]) rfl ?_
  have F : FE_ _ [] a167 a167 := ⟨R, Ag_.refl _⟩; clear R
  refine sv_ gz7_5_0 (ym_ rfl (F.of h2)) fun a168 e => ?_
  have h37 := pt_ F e; replace F := pu_ F e; clear e
  have Y : (execOp a168.eval oz7_5_1).run Tryz.prog w161 = .ok (.value (.bool true)) w161 := by have e1 : ((str [102, 40, 95, 49, 44, 39, 97, 32, 98, 39, 44, 91, 49, 44, 45, 50, 124, 95, 51, 93, 44, 43, 40, 49, 44, 50, 41, 41]).toList == [102, 40, 95, 49, 44, 39, 97, 32, 98, 39, 44, 91, 49, 44, 45, 50, 124, 95, 51, 93, 44, 43, 40, 49, 44, 50, 41, 41]) = true := (by rw [str_list]; decide); unfold oz7_5_1; go_simp
  refine sv_ gz7_5_1 Y fun a169 e => ?_; clear Y
  clear h37; have h38 := pt_ F e; replace F := pu_ F e; clear e
  refine sv_ gz7_5_2 (ym_ rfl h38) fun a170 e => ?_
  clear h38; have h39 := pt_ F e; replace F := pu_ F e; clear e
  refine st_val gz7_5_3 rfl (wanted_is (j := 2) (d := 39) rfl rfl h39 rfl) (ym_ rfl (F.of h3)) fun a171 e => ?_
  have h40 := pt_ F e; replace F := pu_ F e; replace h39 := so_ e h39; clear e
  have Y : (execOp a171.eval oz7_5_4).run Tryz.prog w161 = .ok (.value (.bool true)) w161 := by unfold oz7_5_4; go_simp
  refine st_val gz7_5_4 rfl (wanted_is (j := 2) (d := 39) rfl rfl h39 rfl) Y fun a172 e => ?_; clear Y
  clear h40; have h41 := pt_ F e; replace F := pu_ F e; replace h39 := so_ e h39; clear e
  have Y : (execOp a172.eval oz7_5_5).run Tryz.prog w161 = .ok (.value (.bool true)) w161 := by unfold oz7_5_5; go_simp
  refine sv_ gz7_5_5 Y fun a173 e => ?_; clear Y
  clear h39 h41; have h42 := pt_ F e; replace F := pu_ F e; clear e
  refine sv_ gz7_5_6 (ym_ rfl h42) fun a174 e => ?_
  clear h42; have h43 := pt_ F e; replace F := pu_ F e; clear e
  refine st_val gz7_5_7 rfl (wanted_is (j := 6) (d := 43) rfl rfl h43 rfl) (ym_ rfl (F.of h4)) fun a175 e => ?_
  have h44 := pt_ F e; replace F := pu_ F e; replace h43 := so_ e h43; clear e
  have Y : (execOp a175.eval oz7_5_8).run Tryz.prog w161 = .ok (.value (.bool true)) w161 := by have e1 : ((str [39, 44, 39]).toList == [39, 44, 39]) = true := (by rw [str_list]; decide); unfold oz7_5_8; go_simp
  refine st_val gz7_5_8 rfl (wanted_is (j := 6) (d := 43) rfl rfl h43 rfl) Y fun a176 e => ?_; clear Y
  clear h44; have h45 := pt_ F e; replace F := pu_ F e; replace h43 := so_ e h43; clear e
  have Y : (execOp a176.eval oz7_5_9).run Tryz.prog w161 = .ok (.value (.bool true)) w161 := by unfold oz7_5_9; go_simp
  refine sv_ gz7_5_9 Y fun a177 e => ?_; clear Y
  clear h43 h45; have h46 := pt_ F e; replace F := pu_ F e; clear e
  refine sv_ gz7_5_10 (ym_ rfl h46) fun a178 e => ?_
  clear h46; have h47 := pt_ F e; replace F := pu_ F e; clear e
  refine st_val gz7_5_11 rfl (wanted_is (j := 10) (d := 47) rfl rfl h47 rfl) (ym_ rfl (F.of h5)) fun a179 e => ?_
  have h48 := pt_ F e; replace F := pu_ F e; replace h47 := so_ e h47; clear e
  have Y : (execOp a179.eval oz7_5_12).run Tryz.prog w161 = .ok (.value (.bool true)) w161 := by unfold oz7_5_12; go_simp
  refine st_val gz7_5_12 rfl (wanted_is (j := 10) (d := 47) rfl rfl h47 rfl) Y fun a180 e => ?_; clear Y
  clear h48; have h49 := pt_ F e; replace F := pu_ F e; replace h47 := so_ e h47; clear e
  have Y : (execOp a180.eval oz7_5_13).run Tryz.prog w161 = .ok (.value (.bool true)) w161 := by unfold oz7_5_13; go_simp
  refine sv_ gz7_5_13 Y fun a181 e => ?_; clear Y
  clear h47 h49; have h50 := pt_ F e; replace F := pu_ F e; clear e
  refine sv_ gz7_5_14 (ym_ rfl h50) fun a182 e => ?_
  clear h50; have h51 := pt_ F e; replace F := pu_ F e; clear e
  refine st_val gz7_5_15 rfl (wanted_is (j := 14) (d := 51) rfl rfl h51 rfl) (ym_ rfl (F.of h6)) fun a183 e => ?_
  have h52 := pt_ F e; replace F := pu_ F e; replace h51 := so_ e h51; clear e
  have Y : (execOp a183.eval oz7_5_16).run Tryz.prog w161 = .ok (.value (.bool true)) w161 := by have e1 : ((str [39, 91, 93, 39, 40, 97, 41]).toList == [39, 91, 93, 39, 40, 97, 41]) = true := (by rw [str_list]; decide); unfold oz7_5_16; go_simp
  refine st_val gz7_5_16 rfl (wanted_is (j := 14) (d := 51) rfl rfl h51 rfl) Y fun a184 e => ?_; clear Y
  clear h52; have h53 := pt_ F e; replace F := pu_ F e; replace h51 := so_ e h51; clear e
  have Y : (execOp a184.eval oz7_5_17).run Tryz.prog w161 = .ok (.value (.bool true)) w161 := by unfold oz7_5_17; go_simp
  refine sv_ gz7_5_17 Y fun a185 e => ?_; clear Y
  clear h51 h53; have h54 := pt_ F e; replace F := pu_ F e; clear e
  refine sv_ gz7_5_18 (ym_ rfl h54) fun a186 e => ?_
  clear h54; have h55 := pt_ F e; replace F := pu_ F e; clear e
  refine st_val gz7_5_19 rfl (wanted_is (j := 18) (d := 55) rfl rfl h55 rfl) (ym_ rfl (F.of h7)) fun a187 e => ?_
  have h56 := pt_ F e; replace F := pu_ F e; replace h55 := so_ e h55; clear e
  have Y : (execOp a187.eval oz7_5_20).run Tryz.prog w161 = .ok (.value (.bool true)) w161 := by unfold oz7_5_20; go_simp
  refine st_val gz7_5_20 rfl (wanted_is (j := 18) (d := 55) rfl rfl h55 rfl) Y fun a188 e => ?_; clear Y
  clear h56; have h57 := pt_ F e; replace F := pu_ F e; replace h55 := so_ e h55; clear e
  have Y : (execOp a188.eval oz7_5_21).run Tryz.prog w161 = .ok (.value (.bool true)) w161 := by unfold oz7_5_21; go_simp
  refine sv_ gz7_5_21 Y fun a189 e => ?_; clear Y
  clear h55 h57; have h58 := pt_ F e; replace F := pu_ F e; clear e
  refine sv_ gz7_5_22 (ya_ rfl h58) fun a190 e => ?_
  clear h58 h0; have h0 := pt_ F e; replace F := pu_ F e; clear e
  refine st_end ?_
  clear h2; clear h3; clear h4; clear h5; clear h6; clear h7; have R := F.r; clear F
  change (Code.ret).wp _ _ _ _
  refine wp_ret ?_
  change bodyPost Tryz.prog Tryz.f7 (fun e w' => e = .returned (.bool true) ∧ Keep (fun g => g < W.heap.size) W w') .ret a190 w161
  refine ret_one rfl R h0 ?_
  exact ⟨rfl, K1⟩
theorem alive_any (W : World) (hv : VarsAt W.heap.size W) : Calls Tryz.prog 7 #[] W fun e w' => e = .returned (.bool true) ∧ Keep (fun g => g < W.heap.size) W w' := by
  refine enter_sx Tryz.func7 bodyz7 rfl (by show (0 : Nat) ≤ 59; decide) fun f0 R0' hs => ?_
  exact alive_w R0' (Keep.refl _ W) (Lib.hid hv)
end Go.Proofs.YtfkbbbjicaedmaaGreatDoor
