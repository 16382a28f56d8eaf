/-
  The law of the order: walked with letter frames. No condition but where the terms lie.
-/
import Derived.Test.YtaaodgkbopficaaMQ
namespace Go.Proofs.Ytaaodgkbopficaa
open Go.RowKit Go.Maps
set_option linter.unusedVariables false
set_option linter.unusedSimpArgs false

theorem ord_neg {a b : Tm} (ha : a.right = true) (hb : b.right = true) : ordV a b = a.tree.cmp b.tree ∧ ordV b a = -(a.tree.cmp b.tree) ∧ ordV a a = 0 ∧ sameV a b = (a.tree.cmp b.tree == 0) := by
  unfold ordV sameV
  rw [if_pos ⟨ha, hb⟩, if_pos ⟨hb, ha⟩, if_pos ⟨ha, ha⟩, ha, hb]
  refine ⟨rfl, ?_, (T.lin a.tree).zero a.tree |>.2 rfl, by simp⟩
  rw [(T.lin a.tree).neg]; omega
theorem or2_vals {x y : Int} (hx : x = -1 ∨ x = 0 ∨ x = 1) (hy : y = -1 ∨ y = 0 ∨ y = 1) : or2 x y = -1 ∨ or2 x y = 0 ∨ or2 x y = 1 := by
  unfold or2; split <;> assumption
theorem cmpI_vals (x y : Int) : cmpI x y = -1 ∨ cmpI x y = 0 ∨ cmpI x y = 1 := by
  unfold cmpI; split
  · simp
  · split <;> simp
theorem cmp_vals : ∀ t u : T, t.cmp u = -1 ∨ t.cmp u = 0 ∨ t.cmp u = 1 := by
  intro t
  induction t using T.ind with
  | hv x => intro u; cases u <;> rw [T.cmp] <;> first | exact cmpI_vals _ _ | simp
  | hn x => intro u; cases u <;> rw [T.cmp] <;> first | exact cmpI_vals _ _ | simp
  | ha x => intro u; cases u <;> rw [T.cmp] <;> first | exact cmpB_vals _ _ | simp
  | hc f as_ ih =>
    intro u
    cases u with
    | v x => simp [T.cmp]
    | n x => simp [T.cmp]
    | a x => simp [T.cmp]
    | c g bs =>
      rw [T.cmp]
      refine or2_vals (cmpI_vals _ _) (or2_vals (cmpB_vals _ _) ?_)
      induction as_ generalizing bs with
      | nil => cases bs <;> rw [cmpL] <;> simp
      | cons y ys ih2 =>
        cases bs with
        | nil => rw [cmpL]; simp
        | cons z zs => rw [cmpL]; exact or2_vals (ih y List.mem_cons_self z) (ih2 (fun x hx => ih x (List.mem_cons_of_mem _ hx)) zs)
theorem ren_plain {a : Tm} {m : Int} (h : a.right = true) (hm : 1 ≤ m) : vtV a (a.tree.ren m).tm = true ∧ vaV a = a.tree.vars ∧ vaV (a.tree.ren m).tm = (a.tree.ren m).vars ∧ (a.tree.ren m).vars.length = a.tree.vars.length ∧ (∀ i (hi : i < (a.tree.ren m).vars.length), (a.tree.ren m).vars[i] = m + i) ∧ (a.tree.ren m).tm.size = a.size ∧ (a.tree.ren m).tm.depth = a.depth ∧ a.tree.vars.length ≤ 2000 := by
  have hR := right_of.1 h
  have hT := Tm.tree_right hR
  have hok : (a.tree.ren m).ok = true := by
    unfold T.ren
    refine T.sub_ok hT.1 fun x hx => ?_
    show (T.v _).ok = true
    rw [T.ok]; exact decide_eq_true (by omega)
  have hsz : (a.tree.ren m).ns = a.tree.ns ∧ (a.tree.ren m).nd = a.tree.nd := T.vr_size (fun x => m + (idx a.tree.vars x : Int)) a.tree
  have hx : (a.tree.ren m).tm.Right := (T.tm_right _).2 ⟨hok, by rw [hsz.1]; exact hT.2.1, by rw [hsz.2]; exact hT.2.2⟩
  have hxr := right_of.2 hx
  have s1 := Tm.right_size h
  have s2 := Tm.right_size hxr
  refine ⟨?_, by rw [vaV, if_pos h], by rw [vaV, if_pos hxr, T.tm_tree], by rw [T.vars_ren, List.length_map], fun i hi => T.vars_ren_at m a.tree i hi, ?_, ?_, Nat.le_trans a.tree.vars_len hT.2.1⟩
  · unfold vtV
    rw [h, hxr, T.tm_tree, T.ren_ren, ((T.lin _).zero _).2 rfl]; rfl
  · have e1 : (a.tree.ren m).tm.size = ((a.tree.ren m).tm.ns : Int) := by
      unfold Tm.size
      rw [if_pos (show ((a.tree.ren m).tm.meas 1 (0, 0)).2 = true from hxr), s2]
    have e2 : a.size = (a.ns : Int) := by
      unfold Tm.size
      rw [if_pos (show (a.meas 1 (0, 0)).2 = true from h), s1]
    rw [e1, e2, (T.tm_ok _).2.1, hsz.1, (Tm.tree_ns hR.1).1]
  · have e1 : (a.tree.ren m).tm.depth = ((a.tree.ren m).tm.nd : Int) := by
      unfold Tm.depth
      rw [if_pos (show ((a.tree.ren m).tm.meas 1 (0, 0)).2 = true from hxr), s2]
    have e2 : a.depth = (a.nd : Int) := by
      unfold Tm.depth
      rw [if_pos (show (a.meas 1 (0, 0)).2 = true from h), s1]
    rw [e1, e2, (T.tm_ok _).2.2, hsz.2, (Tm.tree_ns hR.1).2.1]
def o7_0_0 : Oper := { dst := some 4, op := Go.Op.box 24 (Go.Operand.tmp 0), type := 0, pos := "law.go:224", after := #[], guard := none }
def o7_0_1 : Oper := { dst := some 5, op := Go.Op.box 24 (Go.Operand.tmp 1), type := 0, pos := "law.go:224", after := #[], guard := none }
def o7_0_2 : Oper := { dst := some 6, op := Go.Op.box 24 (Go.Operand.tmp 2), type := 0, pos := "law.go:224", after := #[], guard := none }
def o7_0_3 : Oper := { dst := some 8, op := Go.Op.assign (Go.Operand.const (Go.Value.bool false)), type := 4, pos := "law.go:224", after := #[], guard := none }
def O7_0 : Array Oper := List.toArray (o7_0_0 :: o7_0_1 :: o7_0_2 :: o7_0_3 :: [])
theorem g7_0_0 : O7_0[0]? = some o7_0_0 := rfl
theorem g7_0_1 : O7_0[1]? = some o7_0_1 := rfl
theorem g7_0_2 : O7_0[2]? = some o7_0_2 := rfl
theorem g7_0_3 : O7_0[3]? = some o7_0_3 := rfl
def c7_1 : Code := Code.region 0 O7_0 false
def o7_1_0 : Oper := { dst := some 14, op := Go.Op.call { callee := Go.Callee.value (Go.Operand.func 13), args := #[], argTypes := #[] }, type := 4, pos := "law.go:225", after := #[], guard := none }
def o7_1_1 : Oper := { dst := some 15, op := Go.Op.unOp Go.UnOp.not 4 (Go.Operand.tmp 14), type := 4, pos := "law.go:225", after := #[{ on := 0, ground := Go.Ground.data }], guard := none }
def O7_1 : Array Oper := List.toArray (o7_1_0 :: o7_1_1 :: [])
theorem g7_1_0 : O7_1[0]? = some o7_1_0 := rfl
theorem g7_1_1 : O7_1[1]? = some o7_1_1 := rfl
def c7_4 : Code := Code.region 1 O7_1 false
def o7_2_0 : Oper := { dst := some 8, op := Go.Op.assign (Go.Operand.const (Go.Value.bool false)), type := 4, pos := "law.go:226", after := #[], guard := none }
def O7_2 : Array Oper := List.toArray (o7_2_0 :: [])
theorem g7_2_0 : O7_2[0]? = some o7_2_0 := rfl
def c7_7 : Code := Code.region 2 O7_2 false
def c7_6 : Code := Code.seq c7_7 Code.ret
def c7_5 : Code := Code.cond (Go.Operand.tmp 15) c7_6 Code.skip
def c7_3 : Code := Code.seq c7_4 c7_5
def o7_3_0 : Oper := { dst := some 16, op := Go.Op.load 24 (Go.Operand.tmp 4), type := 24, pos := "law.go:228", after := #[], guard := none }
def o7_3_1 : Oper := { dst := some 17, op := Go.Op.call { callee := Go.Callee.value (Go.Operand.func 15), args := #[Go.Operand.tmp 16], argTypes := #[24] }, type := 27, pos := "law.go:228", after := #[{ on := 0, ground := Go.Ground.data }], guard := none }
def o7_3_2 : Oper := { dst := some 18, op := Go.Op.binOp Go.BinOp.neq 27 (Go.Operand.tmp 17) (Go.Operand.const (Go.Value.int Go.IntKind.i64 0)) 27, type := 4, pos := "law.go:228", after := #[{ on := 1, ground := Go.Ground.data }], guard := none }
def o7_3_3 : Oper := { dst := some 19, op := Go.Op.move (Go.Operand.tmp 18), type := 4, pos := "law.go:228", after := #[{ on := 2, ground := Go.Ground.data }, { on := 1, ground := Go.Ground.chain }], guard := none }
def o7_3_4 : Oper := { dst := some 20, op := Go.Op.load 24 (Go.Operand.tmp 5), type := 24, pos := "law.go:228", after := #[{ on := 3, ground := Go.Ground.guard }], guard := some (3, false) }
def o7_3_5 : Oper := { dst := some 21, op := Go.Op.call { callee := Go.Callee.value (Go.Operand.func 15), args := #[Go.Operand.tmp 20], argTypes := #[24] }, type := 27, pos := "law.go:228", after := #[{ on := 4, ground := Go.Ground.data }, { on := 3, ground := Go.Ground.chain }, { on := 3, ground := Go.Ground.guard }], guard := some (3, false) }
def o7_3_6 : Oper := { dst := some 22, op := Go.Op.binOp Go.BinOp.neq 27 (Go.Operand.tmp 21) (Go.Operand.const (Go.Value.int Go.IntKind.i64 0)) 27, type := 4, pos := "law.go:228", after := #[{ on := 5, ground := Go.Ground.data }, { on := 3, ground := Go.Ground.guard }], guard := some (3, false) }
def o7_3_7 : Oper := { dst := some 23, op := Go.Op.pick (Go.Operand.tmp 19) (Go.Operand.const (Go.Value.bool true)) (Go.Operand.tmp 22), type := 4, pos := "law.go:228", after := #[{ on := 3, ground := Go.Ground.data }, { on := 6, ground := Go.Ground.data }], guard := none }
def o7_3_8 : Oper := { dst := some 24, op := Go.Op.move (Go.Operand.tmp 23), type := 4, pos := "law.go:228", after := #[{ on := 7, ground := Go.Ground.data }, { on := 5, ground := Go.Ground.chain }], guard := none }
def o7_3_9 : Oper := { dst := some 25, op := Go.Op.load 24 (Go.Operand.tmp 6), type := 24, pos := "law.go:228", after := #[{ on := 8, ground := Go.Ground.guard }], guard := some (8, false) }
def o7_3_10 : Oper := { dst := some 26, op := Go.Op.call { callee := Go.Callee.value (Go.Operand.func 15), args := #[Go.Operand.tmp 25], argTypes := #[24] }, type := 27, pos := "law.go:228", after := #[{ on := 9, ground := Go.Ground.data }, { on := 8, ground := Go.Ground.chain }, { on := 8, ground := Go.Ground.guard }], guard := some (8, false) }
def o7_3_11 : Oper := { dst := some 27, op := Go.Op.binOp Go.BinOp.neq 27 (Go.Operand.tmp 26) (Go.Operand.const (Go.Value.int Go.IntKind.i64 0)) 27, type := 4, pos := "law.go:228", after := #[{ on := 10, ground := Go.Ground.data }, { on := 8, ground := Go.Ground.guard }], guard := some (8, false) }
def o7_3_12 : Oper := { dst := some 28, op := Go.Op.pick (Go.Operand.tmp 24) (Go.Operand.const (Go.Value.bool true)) (Go.Operand.tmp 27), type := 4, pos := "law.go:228", after := #[{ on := 8, ground := Go.Ground.data }, { on := 11, ground := Go.Ground.data }], guard := none }
def O7_3 : Array Oper := List.toArray (o7_3_0 :: o7_3_1 :: o7_3_2 :: o7_3_3 :: o7_3_4 :: o7_3_5 :: o7_3_6 :: o7_3_7 :: o7_3_8 :: o7_3_9 :: o7_3_10 :: o7_3_11 :: o7_3_12 :: [])
theorem g7_3_0 : O7_3[0]? = some o7_3_0 := rfl
theorem g7_3_1 : O7_3[1]? = some o7_3_1 := rfl
theorem g7_3_2 : O7_3[2]? = some o7_3_2 := rfl
theorem g7_3_3 : O7_3[3]? = some o7_3_3 := rfl
theorem g7_3_4 : O7_3[4]? = some o7_3_4 := rfl
theorem g7_3_5 : O7_3[5]? = some o7_3_5 := rfl
theorem g7_3_6 : O7_3[6]? = some o7_3_6 := rfl
theorem g7_3_7 : O7_3[7]? = some o7_3_7 := rfl
theorem g7_3_8 : O7_3[8]? = some o7_3_8 := rfl
theorem g7_3_9 : O7_3[9]? = some o7_3_9 := rfl
theorem g7_3_10 : O7_3[10]? = some o7_3_10 := rfl
theorem g7_3_11 : O7_3[11]? = some o7_3_11 := rfl
theorem g7_3_12 : O7_3[12]? = some o7_3_12 := rfl
def c7_12 : Code := Code.region 3 O7_3 false
def o7_4_0 : Oper := { dst := some 8, op := Go.Op.assign (Go.Operand.const (Go.Value.bool true)), type := 4, pos := "law.go:229", after := #[], guard := none }
def O7_4 : Array Oper := List.toArray (o7_4_0 :: [])
theorem g7_4_0 : O7_4[0]? = some o7_4_0 := rfl
def c7_15 : Code := Code.region 4 O7_4 false
def c7_14 : Code := Code.seq c7_15 Code.ret
def c7_13 : Code := Code.cond (Go.Operand.tmp 28) c7_14 Code.skip
def c7_11 : Code := Code.seq c7_12 c7_13
def o7_5_0 : Oper := { dst := some 29, op := Go.Op.load 24 (Go.Operand.tmp 4), type := 24, pos := "law.go:231", after := #[], guard := none }
def o7_5_1 : Oper := { dst := some 30, op := Go.Op.load 24 (Go.Operand.tmp 5), type := 24, pos := "law.go:231", after := #[], guard := none }
def o7_5_2 : Oper := { dst := some 31, op := Go.Op.call { callee := Go.Callee.value (Go.Operand.func 20), args := #[Go.Operand.tmp 29, Go.Operand.tmp 30], argTypes := #[24, 24] }, type := 3, pos := "law.go:231", after := #[{ on := 0, ground := Go.Ground.data }, { on := 1, ground := Go.Ground.data }], guard := none }
def o7_5_3 : Oper := { dst := some 32, op := Go.Op.load 24 (Go.Operand.tmp 5), type := 24, pos := "law.go:231", after := #[], guard := none }
def o7_5_4 : Oper := { dst := some 33, op := Go.Op.load 24 (Go.Operand.tmp 4), type := 24, pos := "law.go:231", after := #[], guard := none }
def o7_5_5 : Oper := { dst := some 34, op := Go.Op.call { callee := Go.Callee.value (Go.Operand.func 20), args := #[Go.Operand.tmp 32, Go.Operand.tmp 33], argTypes := #[24, 24] }, type := 3, pos := "law.go:231", after := #[{ on := 3, ground := Go.Ground.data }, { on := 4, ground := Go.Ground.data }, { on := 2, ground := Go.Ground.chain }], guard := none }
def o7_5_6 : Oper := { dst := some 35, op := Go.Op.unOp Go.UnOp.neg 3 (Go.Operand.tmp 34), type := 3, pos := "law.go:231", after := #[{ on := 5, ground := Go.Ground.data }], guard := none }
def o7_5_7 : Oper := { dst := some 36, op := Go.Op.binOp Go.BinOp.neq 3 (Go.Operand.tmp 31) (Go.Operand.tmp 35) 3, type := 4, pos := "law.go:231", after := #[{ on := 2, ground := Go.Ground.data }, { on := 6, ground := Go.Ground.data }], guard := none }
def o7_5_8 : Oper := { dst := some 37, op := Go.Op.move (Go.Operand.tmp 36), type := 4, pos := "law.go:231", after := #[{ on := 7, ground := Go.Ground.data }, { on := 5, ground := Go.Ground.chain }], guard := none }
def o7_5_9 : Oper := { dst := some 38, op := Go.Op.load 24 (Go.Operand.tmp 4), type := 24, pos := "law.go:231", after := #[{ on := 8, ground := Go.Ground.guard }], guard := some (8, false) }
def o7_5_10 : Oper := { dst := some 39, op := Go.Op.load 24 (Go.Operand.tmp 4), type := 24, pos := "law.go:231", after := #[{ on := 8, ground := Go.Ground.guard }], guard := some (8, false) }
def o7_5_11 : Oper := { dst := some 40, op := Go.Op.call { callee := Go.Callee.value (Go.Operand.func 20), args := #[Go.Operand.tmp 38, Go.Operand.tmp 39], argTypes := #[24, 24] }, type := 3, pos := "law.go:231", after := #[{ on := 9, ground := Go.Ground.data }, { on := 10, ground := Go.Ground.data }, { on := 8, ground := Go.Ground.chain }, { on := 8, ground := Go.Ground.guard }], guard := some (8, false) }
def o7_5_12 : Oper := { dst := some 41, op := Go.Op.binOp Go.BinOp.neq 3 (Go.Operand.tmp 40) (Go.Operand.const (Go.Value.int Go.IntKind.i64 0)) 3, type := 4, pos := "law.go:231", after := #[{ on := 11, ground := Go.Ground.data }, { on := 8, ground := Go.Ground.guard }], guard := some (8, false) }
def o7_5_13 : Oper := { dst := some 42, op := Go.Op.pick (Go.Operand.tmp 37) (Go.Operand.const (Go.Value.bool true)) (Go.Operand.tmp 41), type := 4, pos := "law.go:231", after := #[{ on := 8, ground := Go.Ground.data }, { on := 12, ground := Go.Ground.data }], guard := none }
def o7_5_14 : Oper := { dst := some 43, op := Go.Op.move (Go.Operand.tmp 42), type := 4, pos := "law.go:231", after := #[{ on := 13, ground := Go.Ground.data }, { on := 11, ground := Go.Ground.chain }], guard := none }
def o7_5_15 : Oper := { dst := some 44, op := Go.Op.load 24 (Go.Operand.tmp 4), type := 24, pos := "law.go:231", after := #[{ on := 14, ground := Go.Ground.guard }], guard := some (14, false) }
def o7_5_16 : Oper := { dst := some 45, op := Go.Op.load 24 (Go.Operand.tmp 5), type := 24, pos := "law.go:231", after := #[{ on := 14, ground := Go.Ground.guard }], guard := some (14, false) }
def o7_5_17 : Oper := { dst := some 46, op := Go.Op.call { callee := Go.Callee.value (Go.Operand.func 20), args := #[Go.Operand.tmp 44, Go.Operand.tmp 45], argTypes := #[24, 24] }, type := 3, pos := "law.go:231", after := #[{ on := 15, ground := Go.Ground.data }, { on := 16, ground := Go.Ground.data }, { on := 14, ground := Go.Ground.chain }, { on := 14, ground := Go.Ground.guard }], guard := some (14, false) }
def o7_5_18 : Oper := { dst := some 47, op := Go.Op.binOp Go.BinOp.eql 3 (Go.Operand.tmp 46) (Go.Operand.const (Go.Value.int Go.IntKind.i64 0)) 3, type := 4, pos := "law.go:231", after := #[{ on := 17, ground := Go.Ground.data }, { on := 14, ground := Go.Ground.guard }], guard := some (14, false) }
def o7_5_19 : Oper := { dst := some 48, op := Go.Op.load 24 (Go.Operand.tmp 4), type := 24, pos := "law.go:231", after := #[{ on := 14, ground := Go.Ground.guard }], guard := some (14, false) }
def o7_5_20 : Oper := { dst := some 49, op := Go.Op.load 24 (Go.Operand.tmp 5), type := 24, pos := "law.go:231", after := #[{ on := 14, ground := Go.Ground.guard }], guard := some (14, false) }
def o7_5_21 : Oper := { dst := some 50, op := Go.Op.call { callee := Go.Callee.value (Go.Operand.func 19), args := #[Go.Operand.tmp 48, Go.Operand.tmp 49], argTypes := #[24, 24] }, type := 4, pos := "law.go:231", after := #[{ on := 19, ground := Go.Ground.data }, { on := 20, ground := Go.Ground.data }, { on := 17, ground := Go.Ground.chain }, { on := 14, ground := Go.Ground.guard }], guard := some (14, false) }
def o7_5_22 : Oper := { dst := some 51, op := Go.Op.binOp Go.BinOp.neq 4 (Go.Operand.tmp 47) (Go.Operand.tmp 50) 4, type := 4, pos := "law.go:231", after := #[{ on := 18, ground := Go.Ground.data }, { on := 21, ground := Go.Ground.data }, { on := 14, ground := Go.Ground.guard }], guard := some (14, false) }
def o7_5_23 : Oper := { dst := some 52, op := Go.Op.pick (Go.Operand.tmp 43) (Go.Operand.const (Go.Value.bool true)) (Go.Operand.tmp 51), type := 4, pos := "law.go:231", after := #[{ on := 14, ground := Go.Ground.data }, { on := 22, ground := Go.Ground.data }], guard := none }
def O7_5 : Array Oper := List.toArray (o7_5_0 :: o7_5_1 :: o7_5_2 :: o7_5_3 :: o7_5_4 :: o7_5_5 :: o7_5_6 :: o7_5_7 :: o7_5_8 :: o7_5_9 :: o7_5_10 :: o7_5_11 :: o7_5_12 :: o7_5_13 :: o7_5_14 :: o7_5_15 :: o7_5_16 :: o7_5_17 :: o7_5_18 :: o7_5_19 :: o7_5_20 :: o7_5_21 :: o7_5_22 :: o7_5_23 :: [])
theorem g7_5_0 : O7_5[0]? = some o7_5_0 := rfl
theorem g7_5_1 : O7_5[1]? = some o7_5_1 := rfl
theorem g7_5_2 : O7_5[2]? = some o7_5_2 := rfl
theorem g7_5_3 : O7_5[3]? = some o7_5_3 := rfl
theorem g7_5_4 : O7_5[4]? = some o7_5_4 := rfl
theorem g7_5_5 : O7_5[5]? = some o7_5_5 := rfl
theorem g7_5_6 : O7_5[6]? = some o7_5_6 := rfl
theorem g7_5_7 : O7_5[7]? = some o7_5_7 := rfl
theorem g7_5_8 : O7_5[8]? = some o7_5_8 := rfl
theorem g7_5_9 : O7_5[9]? = some o7_5_9 := rfl
theorem g7_5_10 : O7_5[10]? = some o7_5_10 := rfl
theorem g7_5_11 : O7_5[11]? = some o7_5_11 := rfl
theorem g7_5_12 : O7_5[12]? = some o7_5_12 := rfl
theorem g7_5_13 : O7_5[13]? = some o7_5_13 := rfl
theorem g7_5_14 : O7_5[14]? = some o7_5_14 := rfl
theorem g7_5_15 : O7_5[15]? = some o7_5_15 := rfl
theorem g7_5_16 : O7_5[16]? = some o7_5_16 := rfl
theorem g7_5_17 : O7_5[17]? = some o7_5_17 := rfl
theorem g7_5_18 : O7_5[18]? = some o7_5_18 := rfl
theorem g7_5_19 : O7_5[19]? = some o7_5_19 := rfl
theorem g7_5_20 : O7_5[20]? = some o7_5_20 := rfl
theorem g7_5_21 : O7_5[21]? = some o7_5_21 := rfl
theorem g7_5_22 : O7_5[22]? = some o7_5_22 := rfl
theorem g7_5_23 : O7_5[23]? = some o7_5_23 := rfl
theorem ns7_5 : Region.noSelect O7_5 = true := by kernel_rfl
def c7_20 : Code := Code.region 5 O7_5 true
def o7_6_0 : Oper := { dst := some 8, op := Go.Op.assign (Go.Operand.const (Go.Value.bool false)), type := 4, pos := "law.go:232", after := #[], guard := none }
def O7_6 : Array Oper := List.toArray (o7_6_0 :: [])
theorem g7_6_0 : O7_6[0]? = some o7_6_0 := rfl
def c7_23 : Code := Code.region 6 O7_6 false
def c7_22 : Code := Code.seq c7_23 Code.ret
def c7_21 : Code := Code.cond (Go.Operand.tmp 52) c7_22 Code.skip
def c7_19 : Code := Code.seq c7_20 c7_21
def o7_7_0 : Oper := { dst := some 53, op := Go.Op.load 24 (Go.Operand.tmp 4), type := 24, pos := "law.go:234", after := #[], guard := none }
def o7_7_1 : Oper := { dst := some 54, op := Go.Op.load 24 (Go.Operand.tmp 5), type := 24, pos := "law.go:234", after := #[], guard := none }
def o7_7_2 : Oper := { dst := some 55, op := Go.Op.call { callee := Go.Callee.value (Go.Operand.func 20), args := #[Go.Operand.tmp 53, Go.Operand.tmp 54], argTypes := #[24, 24] }, type := 3, pos := "law.go:234", after := #[{ on := 0, ground := Go.Ground.data }, { on := 1, ground := Go.Ground.data }], guard := none }
def o7_7_3 : Oper := { dst := some 56, op := Go.Op.binOp Go.BinOp.leq 3 (Go.Operand.tmp 55) (Go.Operand.const (Go.Value.int Go.IntKind.i64 0)) 3, type := 4, pos := "law.go:234", after := #[{ on := 2, ground := Go.Ground.data }], guard := none }
def o7_7_4 : Oper := { dst := some 57, op := Go.Op.move (Go.Operand.tmp 56), type := 4, pos := "law.go:234", after := #[{ on := 3, ground := Go.Ground.data }, { on := 2, ground := Go.Ground.chain }], guard := none }
def o7_7_5 : Oper := { dst := some 58, op := Go.Op.load 24 (Go.Operand.tmp 5), type := 24, pos := "law.go:234", after := #[{ on := 4, ground := Go.Ground.guard }], guard := some (4, true) }
def o7_7_6 : Oper := { dst := some 59, op := Go.Op.load 24 (Go.Operand.tmp 6), type := 24, pos := "law.go:234", after := #[{ on := 4, ground := Go.Ground.guard }], guard := some (4, true) }
def o7_7_7 : Oper := { dst := some 60, op := Go.Op.call { callee := Go.Callee.value (Go.Operand.func 20), args := #[Go.Operand.tmp 58, Go.Operand.tmp 59], argTypes := #[24, 24] }, type := 3, pos := "law.go:234", after := #[{ on := 5, ground := Go.Ground.data }, { on := 6, ground := Go.Ground.data }, { on := 4, ground := Go.Ground.chain }, { on := 4, ground := Go.Ground.guard }], guard := some (4, true) }
def o7_7_8 : Oper := { dst := some 61, op := Go.Op.binOp Go.BinOp.leq 3 (Go.Operand.tmp 60) (Go.Operand.const (Go.Value.int Go.IntKind.i64 0)) 3, type := 4, pos := "law.go:234", after := #[{ on := 7, ground := Go.Ground.data }, { on := 4, ground := Go.Ground.guard }], guard := some (4, true) }
def o7_7_9 : Oper := { dst := some 62, op := Go.Op.pick (Go.Operand.tmp 57) (Go.Operand.tmp 61) (Go.Operand.const (Go.Value.bool false)), type := 4, pos := "law.go:234", after := #[{ on := 4, ground := Go.Ground.data }, { on := 8, ground := Go.Ground.data }], guard := none }
def o7_7_10 : Oper := { dst := some 63, op := Go.Op.move (Go.Operand.tmp 62), type := 4, pos := "law.go:234", after := #[{ on := 9, ground := Go.Ground.data }, { on := 7, ground := Go.Ground.chain }], guard := none }
def o7_7_11 : Oper := { dst := some 64, op := Go.Op.load 24 (Go.Operand.tmp 4), type := 24, pos := "law.go:234", after := #[{ on := 10, ground := Go.Ground.guard }], guard := some (10, true) }
def o7_7_12 : Oper := { dst := some 65, op := Go.Op.load 24 (Go.Operand.tmp 6), type := 24, pos := "law.go:234", after := #[{ on := 10, ground := Go.Ground.guard }], guard := some (10, true) }
def o7_7_13 : Oper := { dst := some 66, op := Go.Op.call { callee := Go.Callee.value (Go.Operand.func 20), args := #[Go.Operand.tmp 64, Go.Operand.tmp 65], argTypes := #[24, 24] }, type := 3, pos := "law.go:234", after := #[{ on := 11, ground := Go.Ground.data }, { on := 12, ground := Go.Ground.data }, { on := 10, ground := Go.Ground.chain }, { on := 10, ground := Go.Ground.guard }], guard := some (10, true) }
def o7_7_14 : Oper := { dst := some 67, op := Go.Op.binOp Go.BinOp.gtr 3 (Go.Operand.tmp 66) (Go.Operand.const (Go.Value.int Go.IntKind.i64 0)) 3, type := 4, pos := "law.go:234", after := #[{ on := 13, ground := Go.Ground.data }, { on := 10, ground := Go.Ground.guard }], guard := some (10, true) }
def o7_7_15 : Oper := { dst := some 68, op := Go.Op.pick (Go.Operand.tmp 63) (Go.Operand.tmp 67) (Go.Operand.const (Go.Value.bool false)), type := 4, pos := "law.go:234", after := #[{ on := 10, ground := Go.Ground.data }, { on := 14, ground := Go.Ground.data }], guard := none }
def O7_7 : Array Oper := List.toArray (o7_7_0 :: o7_7_1 :: o7_7_2 :: o7_7_3 :: o7_7_4 :: o7_7_5 :: o7_7_6 :: o7_7_7 :: o7_7_8 :: o7_7_9 :: o7_7_10 :: o7_7_11 :: o7_7_12 :: o7_7_13 :: o7_7_14 :: o7_7_15 :: [])
theorem g7_7_0 : O7_7[0]? = some o7_7_0 := rfl
theorem g7_7_1 : O7_7[1]? = some o7_7_1 := rfl
theorem g7_7_2 : O7_7[2]? = some o7_7_2 := rfl
theorem g7_7_3 : O7_7[3]? = some o7_7_3 := rfl
theorem g7_7_4 : O7_7[4]? = some o7_7_4 := rfl
theorem g7_7_5 : O7_7[5]? = some o7_7_5 := rfl
theorem g7_7_6 : O7_7[6]? = some o7_7_6 := rfl
theorem g7_7_7 : O7_7[7]? = some o7_7_7 := rfl
theorem g7_7_8 : O7_7[8]? = some o7_7_8 := rfl
theorem g7_7_9 : O7_7[9]? = some o7_7_9 := rfl
theorem g7_7_10 : O7_7[10]? = some o7_7_10 := rfl
theorem g7_7_11 : O7_7[11]? = some o7_7_11 := rfl
theorem g7_7_12 : O7_7[12]? = some o7_7_12 := rfl
theorem g7_7_13 : O7_7[13]? = some o7_7_13 := rfl
theorem g7_7_14 : O7_7[14]? = some o7_7_14 := rfl
theorem g7_7_15 : O7_7[15]? = some o7_7_15 := rfl
def c7_28 : Code := Code.region 7 O7_7 false
def o7_8_0 : Oper := { dst := some 8, op := Go.Op.assign (Go.Operand.const (Go.Value.bool false)), type := 4, pos := "law.go:235", after := #[], guard := none }
def O7_8 : Array Oper := List.toArray (o7_8_0 :: [])
theorem g7_8_0 : O7_8[0]? = some o7_8_0 := rfl
def c7_31 : Code := Code.region 8 O7_8 false
def c7_30 : Code := Code.seq c7_31 Code.ret
def c7_29 : Code := Code.cond (Go.Operand.tmp 68) c7_30 Code.skip
def c7_27 : Code := Code.seq c7_28 c7_29
def o7_9_0 : Oper := { dst := some 69, op := Go.Op.move (Go.Operand.tmp 3), type := 2, pos := "law.go:237", after := #[], guard := none }
def o7_9_1 : Oper := { dst := some 70, op := Go.Op.binOp Go.BinOp.lss 2 (Go.Operand.tmp 69) (Go.Operand.const (Go.Value.int Go.IntKind.i64 1)) 2, type := 4, pos := "law.go:237", after := #[{ on := 0, ground := Go.Ground.data }], guard := none }
def o7_9_2 : Oper := { dst := some 71, op := Go.Op.move (Go.Operand.tmp 70), type := 4, pos := "law.go:237", after := #[{ on := 1, ground := Go.Ground.data }], guard := none }
def o7_9_3 : Oper := { dst := some 72, op := Go.Op.move (Go.Operand.tmp 3), type := 2, pos := "law.go:237", after := #[{ on := 2, ground := Go.Ground.guard }], guard := some (2, false) }
def o7_9_4 : Oper := { dst := some 73, op := Go.Op.binOp Go.BinOp.gtr 2 (Go.Operand.tmp 72) (Go.Operand.const (Go.Value.int Go.IntKind.i64 1152921504606846976)) 2, type := 4, pos := "law.go:237", after := #[{ on := 3, ground := Go.Ground.data }, { on := 2, ground := Go.Ground.guard }], guard := some (2, false) }
def o7_9_5 : Oper := { dst := some 74, op := Go.Op.pick (Go.Operand.tmp 71) (Go.Operand.const (Go.Value.bool true)) (Go.Operand.tmp 73), type := 4, pos := "law.go:237", after := #[{ on := 2, ground := Go.Ground.data }, { on := 4, ground := Go.Ground.data }], guard := none }
def O7_9 : Array Oper := List.toArray (o7_9_0 :: o7_9_1 :: o7_9_2 :: o7_9_3 :: o7_9_4 :: o7_9_5 :: [])
theorem g7_9_0 : O7_9[0]? = some o7_9_0 := rfl
theorem g7_9_1 : O7_9[1]? = some o7_9_1 := rfl
theorem g7_9_2 : O7_9[2]? = some o7_9_2 := rfl
theorem g7_9_3 : O7_9[3]? = some o7_9_3 := rfl
theorem g7_9_4 : O7_9[4]? = some o7_9_4 := rfl
theorem g7_9_5 : O7_9[5]? = some o7_9_5 := rfl
def c7_36 : Code := Code.region 9 O7_9 false
def o7_10_0 : Oper := { dst := some 8, op := Go.Op.assign (Go.Operand.const (Go.Value.bool true)), type := 4, pos := "law.go:238", after := #[], guard := none }
def O7_10 : Array Oper := List.toArray (o7_10_0 :: [])
theorem g7_10_0 : O7_10[0]? = some o7_10_0 := rfl
def c7_39 : Code := Code.region 10 O7_10 false
def c7_38 : Code := Code.seq c7_39 Code.ret
def c7_37 : Code := Code.cond (Go.Operand.tmp 74) c7_38 Code.skip
def c7_35 : Code := Code.seq c7_36 c7_37
def o7_11_0 : Oper := { dst := some 76, op := Go.Op.load 24 (Go.Operand.tmp 4), type := 24, pos := "law.go:240", after := #[], guard := none }
def o7_11_1 : Oper := { dst := some 77, op := Go.Op.move (Go.Operand.tmp 3), type := 2, pos := "law.go:240", after := #[], guard := none }
def o7_11_2 : Oper := { dst := some 78, op := Go.Op.call { callee := Go.Callee.value (Go.Operand.func 32), args := #[Go.Operand.tmp 76, Go.Operand.tmp 77], argTypes := #[24, 2] }, type := 45, pos := "law.go:240", after := #[{ on := 0, ground := Go.Ground.data }, { on := 1, ground := Go.Ground.data }], guard := none }
def o7_11_3 : Oper := { dst := some 75, op := Go.Op.move (Go.Operand.tmp 78), type := 45, pos := "law.go:240", after := #[{ on := 2, ground := Go.Ground.data }], guard := none }
def o7_11_4 : Oper := { dst := some 79, op := Go.Op.extract (Go.Operand.tmp 75) 0, type := 24, pos := "law.go:240", after := #[{ on := 3, ground := Go.Ground.data }], guard := none }
def o7_11_5 : Oper := { dst := some 80, op := Go.Op.extract (Go.Operand.tmp 75) 1, type := 2, pos := "law.go:240", after := #[{ on := 3, ground := Go.Ground.data }, { on := 8, ground := Go.Ground.gcOnly Go.Departure.lateStores }], guard := none }
def o7_11_6 : Oper := { dst := some 81, op := Go.Op.extract (Go.Operand.tmp 75) 2, type := 27, pos := "law.go:240", after := #[{ on := 3, ground := Go.Ground.data }, { on := 9, ground := Go.Ground.gcOnly Go.Departure.lateStores }], guard := none }
def o7_11_7 : Oper := { dst := some 9, op := Go.Op.alloc 24, type := 0, pos := "law.go:240", after := #[], guard := none }
def o7_11_8 : Oper := { dst := none, op := Go.Op.store 24 (Go.Operand.tmp 9) (Go.Operand.tmp 79), type := 0, pos := "law.go:240", after := #[{ on := 7, ground := Go.Ground.data }, { on := 4, ground := Go.Ground.data }, { on := 2, ground := Go.Ground.chain }, { on := 0, ground := Go.Ground.phase }, { on := 1, ground := Go.Ground.phase }, { on := 2, ground := Go.Ground.phase }, { on := 3, ground := Go.Ground.phase }, { on := 4, ground := Go.Ground.phase }, { on := 5, ground := Go.Ground.textOnly Go.Departure.lateStores }, { on := 6, ground := Go.Ground.textOnly Go.Departure.lateStores }, { on := 7, ground := Go.Ground.phase }], guard := none }
def o7_11_9 : Oper := { dst := some 10, op := Go.Op.assign (Go.Operand.tmp 80), type := 2, pos := "law.go:240", after := #[{ on := 5, ground := Go.Ground.data }, { on := 8, ground := Go.Ground.chain }, { on := 0, ground := Go.Ground.phase }, { on := 1, ground := Go.Ground.phase }, { on := 2, ground := Go.Ground.phase }, { on := 3, ground := Go.Ground.phase }, { on := 4, ground := Go.Ground.phase }, { on := 5, ground := Go.Ground.phase }, { on := 6, ground := Go.Ground.textOnly Go.Departure.lateStores }, { on := 7, ground := Go.Ground.phase }, { on := 8, ground := Go.Ground.phase }], guard := none }
def o7_11_10 : Oper := { dst := some 11, op := Go.Op.assign (Go.Operand.tmp 81), type := 27, pos := "law.go:240", after := #[{ on := 6, ground := Go.Ground.data }, { on := 9, ground := Go.Ground.chain }, { on := 0, ground := Go.Ground.phase }, { on := 1, ground := Go.Ground.phase }, { on := 2, ground := Go.Ground.phase }, { on := 3, ground := Go.Ground.phase }, { on := 4, ground := Go.Ground.phase }, { on := 5, ground := Go.Ground.phase }, { on := 6, ground := Go.Ground.phase }, { on := 7, ground := Go.Ground.phase }, { on := 8, ground := Go.Ground.phase }, { on := 9, ground := Go.Ground.phase }], guard := none }
def O7_11 : Array Oper := List.toArray (o7_11_0 :: o7_11_1 :: o7_11_2 :: o7_11_3 :: o7_11_4 :: o7_11_5 :: o7_11_6 :: o7_11_7 :: o7_11_8 :: o7_11_9 :: o7_11_10 :: [])
theorem g7_11_0 : O7_11[0]? = some o7_11_0 := rfl
theorem g7_11_1 : O7_11[1]? = some o7_11_1 := rfl
theorem g7_11_2 : O7_11[2]? = some o7_11_2 := rfl
theorem g7_11_3 : O7_11[3]? = some o7_11_3 := rfl
theorem g7_11_4 : O7_11[4]? = some o7_11_4 := rfl
theorem g7_11_5 : O7_11[5]? = some o7_11_5 := rfl
theorem g7_11_6 : O7_11[6]? = some o7_11_6 := rfl
theorem g7_11_7 : O7_11[7]? = some o7_11_7 := rfl
theorem g7_11_8 : O7_11[8]? = some o7_11_8 := rfl
theorem g7_11_9 : O7_11[9]? = some o7_11_9 := rfl
theorem g7_11_10 : O7_11[10]? = some o7_11_10 := rfl
def c7_43 : Code := Code.region 11 O7_11 false
def o7_12_0 : Oper := { dst := some 82, op := Go.Op.move (Go.Operand.tmp 11), type := 27, pos := "law.go:241", after := #[], guard := none }
def o7_12_1 : Oper := { dst := some 83, op := Go.Op.binOp Go.BinOp.neq 27 (Go.Operand.tmp 82) (Go.Operand.const (Go.Value.int Go.IntKind.i64 0)) 27, type := 4, pos := "law.go:241", after := #[{ on := 0, ground := Go.Ground.data }], guard := none }
def o7_12_2 : Oper := { dst := some 84, op := Go.Op.move (Go.Operand.tmp 83), type := 4, pos := "law.go:241", after := #[{ on := 1, ground := Go.Ground.data }], guard := none }
def o7_12_3 : Oper := { dst := some 85, op := Go.Op.load 24 (Go.Operand.tmp 4), type := 24, pos := "law.go:241", after := #[{ on := 2, ground := Go.Ground.guard }], guard := some (2, false) }
def o7_12_4 : Oper := { dst := some 86, op := Go.Op.load 24 (Go.Operand.tmp 9), type := 24, pos := "law.go:241", after := #[{ on := 2, ground := Go.Ground.guard }], guard := some (2, false) }
def o7_12_5 : Oper := { dst := some 87, op := Go.Op.call { callee := Go.Callee.value (Go.Operand.func 21), args := #[Go.Operand.tmp 85, Go.Operand.tmp 86], argTypes := #[24, 24] }, type := 4, pos := "law.go:241", after := #[{ on := 3, ground := Go.Ground.data }, { on := 4, ground := Go.Ground.data }, { on := 2, ground := Go.Ground.chain }, { on := 2, ground := Go.Ground.guard }], guard := some (2, false) }
def o7_12_6 : Oper := { dst := some 88, op := Go.Op.unOp Go.UnOp.not 4 (Go.Operand.tmp 87), type := 4, pos := "law.go:241", after := #[{ on := 5, ground := Go.Ground.data }, { on := 2, ground := Go.Ground.guard }], guard := some (2, false) }
def o7_12_7 : Oper := { dst := some 89, op := Go.Op.pick (Go.Operand.tmp 84) (Go.Operand.const (Go.Value.bool true)) (Go.Operand.tmp 88), type := 4, pos := "law.go:241", after := #[{ on := 2, ground := Go.Ground.data }, { on := 6, ground := Go.Ground.data }], guard := none }
def o7_12_8 : Oper := { dst := some 90, op := Go.Op.move (Go.Operand.tmp 89), type := 4, pos := "law.go:241", after := #[{ on := 7, ground := Go.Ground.data }, { on := 5, ground := Go.Ground.chain }], guard := none }
def o7_12_9 : Oper := { dst := some 91, op := Go.Op.move (Go.Operand.tmp 10), type := 2, pos := "law.go:241", after := #[{ on := 8, ground := Go.Ground.guard }], guard := some (8, false) }
def o7_12_10 : Oper := { dst := some 92, op := Go.Op.move (Go.Operand.tmp 3), type := 2, pos := "law.go:241", after := #[{ on := 8, ground := Go.Ground.guard }], guard := some (8, false) }
def o7_12_11 : Oper := { dst := some 93, op := Go.Op.load 24 (Go.Operand.tmp 4), type := 24, pos := "law.go:241", after := #[{ on := 8, ground := Go.Ground.guard }], guard := some (8, false) }
def o7_12_12 : Oper := { dst := some 94, op := Go.Op.call { callee := Go.Callee.value (Go.Operand.func 18), args := #[Go.Operand.tmp 93], argTypes := #[24] }, type := 30, pos := "law.go:241", after := #[{ on := 11, ground := Go.Ground.data }, { on := 8, ground := Go.Ground.chain }, { on := 8, ground := Go.Ground.guard }], guard := some (8, false) }
def o7_12_13 : Oper := { dst := some 95, op := Go.Op.call { callee := Go.Callee.builtin Go.Builtin.len, args := #[Go.Operand.tmp 94], argTypes := #[30] }, type := 3, pos := "law.go:241", after := #[{ on := 12, ground := Go.Ground.data }, { on := 8, ground := Go.Ground.guard }], guard := some (8, false) }
def o7_12_14 : Oper := { dst := some 96, op := Go.Op.binOp Go.BinOp.add 2 (Go.Operand.tmp 92) (Go.Operand.tmp 95) 2, type := 2, pos := "law.go:241", after := #[{ on := 10, ground := Go.Ground.data }, { on := 13, ground := Go.Ground.data }, { on := 8, ground := Go.Ground.guard }], guard := some (8, false) }
def o7_12_15 : Oper := { dst := some 97, op := Go.Op.binOp Go.BinOp.neq 2 (Go.Operand.tmp 91) (Go.Operand.tmp 96) 2, type := 4, pos := "law.go:241", after := #[{ on := 9, ground := Go.Ground.data }, { on := 14, ground := Go.Ground.data }, { on := 8, ground := Go.Ground.guard }], guard := some (8, false) }
def o7_12_16 : Oper := { dst := some 98, op := Go.Op.pick (Go.Operand.tmp 90) (Go.Operand.const (Go.Value.bool true)) (Go.Operand.tmp 97), type := 4, pos := "law.go:241", after := #[{ on := 8, ground := Go.Ground.data }, { on := 15, ground := Go.Ground.data }], guard := none }
def O7_12 : Array Oper := List.toArray (o7_12_0 :: o7_12_1 :: o7_12_2 :: o7_12_3 :: o7_12_4 :: o7_12_5 :: o7_12_6 :: o7_12_7 :: o7_12_8 :: o7_12_9 :: o7_12_10 :: o7_12_11 :: o7_12_12 :: o7_12_13 :: o7_12_14 :: o7_12_15 :: o7_12_16 :: [])
theorem g7_12_0 : O7_12[0]? = some o7_12_0 := rfl
theorem g7_12_1 : O7_12[1]? = some o7_12_1 := rfl
theorem g7_12_2 : O7_12[2]? = some o7_12_2 := rfl
theorem g7_12_3 : O7_12[3]? = some o7_12_3 := rfl
theorem g7_12_4 : O7_12[4]? = some o7_12_4 := rfl
theorem g7_12_5 : O7_12[5]? = some o7_12_5 := rfl
theorem g7_12_6 : O7_12[6]? = some o7_12_6 := rfl
theorem g7_12_7 : O7_12[7]? = some o7_12_7 := rfl
theorem g7_12_8 : O7_12[8]? = some o7_12_8 := rfl
theorem g7_12_9 : O7_12[9]? = some o7_12_9 := rfl
theorem g7_12_10 : O7_12[10]? = some o7_12_10 := rfl
theorem g7_12_11 : O7_12[11]? = some o7_12_11 := rfl
theorem g7_12_12 : O7_12[12]? = some o7_12_12 := rfl
theorem g7_12_13 : O7_12[13]? = some o7_12_13 := rfl
theorem g7_12_14 : O7_12[14]? = some o7_12_14 := rfl
theorem g7_12_15 : O7_12[15]? = some o7_12_15 := rfl
theorem g7_12_16 : O7_12[16]? = some o7_12_16 := rfl
def c7_46 : Code := Code.region 12 O7_12 false
def o7_13_0 : Oper := { dst := some 8, op := Go.Op.assign (Go.Operand.const (Go.Value.bool false)), type := 4, pos := "law.go:242", after := #[], guard := none }
def O7_13 : Array Oper := List.toArray (o7_13_0 :: [])
theorem g7_13_0 : O7_13[0]? = some o7_13_0 := rfl
def c7_49 : Code := Code.region 13 O7_13 false
def c7_48 : Code := Code.seq c7_49 Code.ret
def c7_47 : Code := Code.cond (Go.Operand.tmp 98) c7_48 Code.skip
def c7_45 : Code := Code.seq c7_46 c7_47
def o7_14_0 : Oper := { dst := some 99, op := Go.Op.load 24 (Go.Operand.tmp 9), type := 24, pos := "law.go:244", after := #[], guard := none }
def o7_14_1 : Oper := { dst := some 100, op := Go.Op.call { callee := Go.Callee.value (Go.Operand.func 18), args := #[Go.Operand.tmp 99], argTypes := #[24] }, type := 30, pos := "law.go:244", after := #[{ on := 0, ground := Go.Ground.data }], guard := none }
def o7_14_2 : Oper := { dst := some 101, op := Go.Op.call { callee := Go.Callee.builtin Go.Builtin.len, args := #[Go.Operand.tmp 100], argTypes := #[30] }, type := 3, pos := "law.go:244", after := #[{ on := 1, ground := Go.Ground.data }], guard := none }
def o7_14_3 : Oper := { dst := some 102, op := Go.Op.move (Go.Operand.const (Go.Value.int Go.IntKind.i64 0)), type := 3, pos := "law.go:244", after := #[], guard := none }
def O7_14 : Array Oper := List.toArray (o7_14_0 :: o7_14_1 :: o7_14_2 :: o7_14_3 :: [])
theorem g7_14_0 : O7_14[0]? = some o7_14_0 := rfl
theorem g7_14_1 : O7_14[1]? = some o7_14_1 := rfl
theorem g7_14_2 : O7_14[2]? = some o7_14_2 := rfl
theorem g7_14_3 : O7_14[3]? = some o7_14_3 := rfl
def c7_54 : Code := Code.region 14 O7_14 false
def o7_15_0 : Oper := { dst := some 103, op := Go.Op.binOp Go.BinOp.lss 3 (Go.Operand.tmp 102) (Go.Operand.tmp 101) 3, type := 0, pos := "law.go:244", after := #[], guard := none }
def O7_15 : Array Oper := List.toArray (o7_15_0 :: [])
theorem g7_15_0 : O7_15[0]? = some o7_15_0 := rfl
def c7_58 : Code := Code.region 15 O7_15 false
def c7_62 : Code := Code.exit 0
def c7_60 : Code := Code.cond (Go.Operand.tmp 103) Code.skip c7_62
def o7_16_0 : Oper := { dst := some 104, op := Go.Op.move (Go.Operand.tmp 102), type := 3, pos := "law.go:244", after := #[], guard := none }
def o7_16_1 : Oper := { dst := some 105, op := Go.Op.indexAddr 30 (Go.Operand.tmp 100) (Go.Operand.tmp 102), type := 0, pos := "law.go:244", after := #[], guard := none }
def o7_16_2 : Oper := { dst := some 106, op := Go.Op.load 2 (Go.Operand.tmp 105), type := 2, pos := "law.go:244", after := #[{ on := 1, ground := Go.Ground.data }], guard := none }
def o7_16_3 : Oper := { dst := some 12, op := Go.Op.assign (Go.Operand.tmp 104), type := 3, pos := "law.go:244", after := #[{ on := 0, ground := Go.Ground.data }, { on := 0, ground := Go.Ground.phase }, { on := 1, ground := Go.Ground.phase }, { on := 2, ground := Go.Ground.phase }], guard := none }
def o7_16_4 : Oper := { dst := some 13, op := Go.Op.assign (Go.Operand.tmp 106), type := 2, pos := "law.go:244", after := #[{ on := 2, ground := Go.Ground.data }, { on := 3, ground := Go.Ground.chain }, { on := 0, ground := Go.Ground.phase }, { on := 1, ground := Go.Ground.phase }, { on := 2, ground := Go.Ground.phase }, { on := 3, ground := Go.Ground.phase }], guard := none }
def O7_16 : Array Oper := List.toArray (o7_16_0 :: o7_16_1 :: o7_16_2 :: o7_16_3 :: o7_16_4 :: [])
theorem g7_16_0 : O7_16[0]? = some o7_16_0 := rfl
theorem g7_16_1 : O7_16[1]? = some o7_16_1 := rfl
theorem g7_16_2 : O7_16[2]? = some o7_16_2 := rfl
theorem g7_16_3 : O7_16[3]? = some o7_16_3 := rfl
theorem g7_16_4 : O7_16[4]? = some o7_16_4 := rfl
def c7_66 : Code := Code.region 16 O7_16 false
def o7_17_0 : Oper := { dst := some 107, op := Go.Op.move (Go.Operand.tmp 13), type := 2, pos := "law.go:245", after := #[], guard := none }
def o7_17_1 : Oper := { dst := some 108, op := Go.Op.move (Go.Operand.tmp 3), type := 2, pos := "law.go:245", after := #[], guard := none }
def o7_17_2 : Oper := { dst := some 109, op := Go.Op.move (Go.Operand.tmp 12), type := 3, pos := "law.go:245", after := #[], guard := none }
def o7_17_3 : Oper := { dst := some 110, op := Go.Op.binOp Go.BinOp.add 2 (Go.Operand.tmp 108) (Go.Operand.tmp 109) 2, type := 2, pos := "law.go:245", after := #[{ on := 1, ground := Go.Ground.data }, { on := 2, ground := Go.Ground.data }], guard := none }
def o7_17_4 : Oper := { dst := some 111, op := Go.Op.binOp Go.BinOp.neq 2 (Go.Operand.tmp 107) (Go.Operand.tmp 110) 2, type := 4, pos := "law.go:245", after := #[{ on := 0, ground := Go.Ground.data }, { on := 3, ground := Go.Ground.data }], guard := none }
def O7_17 : Array Oper := List.toArray (o7_17_0 :: o7_17_1 :: o7_17_2 :: o7_17_3 :: o7_17_4 :: [])
theorem g7_17_0 : O7_17[0]? = some o7_17_0 := rfl
theorem g7_17_1 : O7_17[1]? = some o7_17_1 := rfl
theorem g7_17_2 : O7_17[2]? = some o7_17_2 := rfl
theorem g7_17_3 : O7_17[3]? = some o7_17_3 := rfl
theorem g7_17_4 : O7_17[4]? = some o7_17_4 := rfl
def c7_68 : Code := Code.region 17 O7_17 false
def o7_18_0 : Oper := { dst := some 8, op := Go.Op.assign (Go.Operand.const (Go.Value.bool false)), type := 4, pos := "law.go:246", after := #[], guard := none }
def O7_18 : Array Oper := List.toArray (o7_18_0 :: [])
theorem g7_18_0 : O7_18[0]? = some o7_18_0 := rfl
def c7_71 : Code := Code.region 18 O7_18 false
def c7_70 : Code := Code.seq c7_71 Code.ret
def c7_69 : Code := Code.cond (Go.Operand.tmp 111) c7_70 Code.skip
def c7_67 : Code := Code.seq c7_68 c7_69
def c7_65 : Code := Code.seq c7_66 c7_67
def c7_64 : Code := Code.block 1 c7_65
def o7_19_0 : Oper := { dst := some 112, op := Go.Op.binOp Go.BinOp.add 3 (Go.Operand.tmp 102) (Go.Operand.const (Go.Value.int Go.IntKind.i64 1)) 3, type := 3, pos := "law.go:244", after := #[], guard := none }
def o7_19_1 : Oper := { dst := some 102, op := Go.Op.move (Go.Operand.tmp 112), type := 3, pos := "law.go:244", after := #[{ on := 0, ground := Go.Ground.data }], guard := none }
def O7_19 : Array Oper := List.toArray (o7_19_0 :: o7_19_1 :: [])
theorem g7_19_0 : O7_19[0]? = some o7_19_0 := rfl
theorem g7_19_1 : O7_19[1]? = some o7_19_1 := rfl
def c7_74 : Code := Code.region 19 O7_19 false
def c7_63 : Code := Code.seq c7_64 c7_74
def c7_59 : Code := Code.seq c7_60 c7_63
def c7_57 : Code := Code.seq c7_58 c7_59
def c7_56 : Code := Code.loop c7_57
def c7_55 : Code := Code.block 0 c7_56
def c7_53 : Code := Code.seq c7_54 c7_55
def o7_20_0 : Oper := { dst := some 113, op := Go.Op.load 24 (Go.Operand.tmp 9), type := 24, pos := "law.go:249", after := #[], guard := none }
def o7_20_1 : Oper := { dst := some 114, op := Go.Op.call { callee := Go.Callee.value (Go.Operand.func 16), args := #[Go.Operand.tmp 113], argTypes := #[24] }, type := 3, pos := "law.go:249", after := #[{ on := 0, ground := Go.Ground.data }], guard := none }
def o7_20_2 : Oper := { dst := some 115, op := Go.Op.load 24 (Go.Operand.tmp 4), type := 24, pos := "law.go:249", after := #[], guard := none }
def o7_20_3 : Oper := { dst := some 116, op := Go.Op.call { callee := Go.Callee.value (Go.Operand.func 16), args := #[Go.Operand.tmp 115], argTypes := #[24] }, type := 3, pos := "law.go:249", after := #[{ on := 2, ground := Go.Ground.data }, { on := 1, ground := Go.Ground.chain }], guard := none }
def o7_20_4 : Oper := { dst := some 117, op := Go.Op.binOp Go.BinOp.eql 3 (Go.Operand.tmp 114) (Go.Operand.tmp 116) 3, type := 4, pos := "law.go:249", after := #[{ on := 1, ground := Go.Ground.data }, { on := 3, ground := Go.Ground.data }], guard := none }
def o7_20_5 : Oper := { dst := some 118, op := Go.Op.move (Go.Operand.tmp 117), type := 4, pos := "law.go:249", after := #[{ on := 4, ground := Go.Ground.data }, { on := 3, ground := Go.Ground.chain }], guard := none }
def o7_20_6 : Oper := { dst := some 119, op := Go.Op.load 24 (Go.Operand.tmp 9), type := 24, pos := "law.go:249", after := #[{ on := 5, ground := Go.Ground.guard }], guard := some (5, true) }
def o7_20_7 : Oper := { dst := some 120, op := Go.Op.call { callee := Go.Callee.value (Go.Operand.func 17), args := #[Go.Operand.tmp 119], argTypes := #[24] }, type := 3, pos := "law.go:249", after := #[{ on := 6, ground := Go.Ground.data }, { on := 5, ground := Go.Ground.chain }, { on := 5, ground := Go.Ground.guard }], guard := some (5, true) }
def o7_20_8 : Oper := { dst := some 121, op := Go.Op.load 24 (Go.Operand.tmp 4), type := 24, pos := "law.go:249", after := #[{ on := 5, ground := Go.Ground.guard }], guard := some (5, true) }
def o7_20_9 : Oper := { dst := some 122, op := Go.Op.call { callee := Go.Callee.value (Go.Operand.func 17), args := #[Go.Operand.tmp 121], argTypes := #[24] }, type := 3, pos := "law.go:249", after := #[{ on := 8, ground := Go.Ground.data }, { on := 7, ground := Go.Ground.chain }, { on := 5, ground := Go.Ground.guard }], guard := some (5, true) }
def o7_20_10 : Oper := { dst := some 123, op := Go.Op.binOp Go.BinOp.eql 3 (Go.Operand.tmp 120) (Go.Operand.tmp 122) 3, type := 4, pos := "law.go:249", after := #[{ on := 7, ground := Go.Ground.data }, { on := 9, ground := Go.Ground.data }, { on := 5, ground := Go.Ground.guard }], guard := some (5, true) }
def o7_20_11 : Oper := { dst := some 124, op := Go.Op.pick (Go.Operand.tmp 118) (Go.Operand.tmp 123) (Go.Operand.const (Go.Value.bool false)), type := 4, pos := "law.go:249", after := #[{ on := 5, ground := Go.Ground.data }, { on := 10, ground := Go.Ground.data }], guard := none }
def o7_20_12 : Oper := { dst := some 8, op := Go.Op.assign (Go.Operand.tmp 124), type := 4, pos := "law.go:249", after := #[{ on := 11, ground := Go.Ground.data }, { on := 9, ground := Go.Ground.chain }, { on := 0, ground := Go.Ground.phase }, { on := 1, ground := Go.Ground.phase }, { on := 2, ground := Go.Ground.phase }, { on := 3, ground := Go.Ground.phase }, { on := 4, ground := Go.Ground.phase }, { on := 5, ground := Go.Ground.phase }, { on := 6, ground := Go.Ground.phase }, { on := 7, ground := Go.Ground.phase }, { on := 8, ground := Go.Ground.phase }, { on := 9, ground := Go.Ground.phase }, { on := 10, ground := Go.Ground.phase }, { on := 11, ground := Go.Ground.phase }], guard := none }
def O7_20 : Array Oper := List.toArray (o7_20_0 :: o7_20_1 :: o7_20_2 :: o7_20_3 :: o7_20_4 :: o7_20_5 :: o7_20_6 :: o7_20_7 :: o7_20_8 :: o7_20_9 :: o7_20_10 :: o7_20_11 :: o7_20_12 :: [])
theorem g7_20_0 : O7_20[0]? = some o7_20_0 := rfl
theorem g7_20_1 : O7_20[1]? = some o7_20_1 := rfl
theorem g7_20_2 : O7_20[2]? = some o7_20_2 := rfl
theorem g7_20_3 : O7_20[3]? = some o7_20_3 := rfl
theorem g7_20_4 : O7_20[4]? = some o7_20_4 := rfl
theorem g7_20_5 : O7_20[5]? = some o7_20_5 := rfl
theorem g7_20_6 : O7_20[6]? = some o7_20_6 := rfl
theorem g7_20_7 : O7_20[7]? = some o7_20_7 := rfl
theorem g7_20_8 : O7_20[8]? = some o7_20_8 := rfl
theorem g7_20_9 : O7_20[9]? = some o7_20_9 := rfl
theorem g7_20_10 : O7_20[10]? = some o7_20_10 := rfl
theorem g7_20_11 : O7_20[11]? = some o7_20_11 := rfl
theorem g7_20_12 : O7_20[12]? = some o7_20_12 := rfl
theorem ns7_20 : Region.noSelect O7_20 = true := by kernel_rfl
def c7_76 : Code := Code.region 20 O7_20 true
def c7_75 : Code := Code.seq c7_76 Code.ret
def c7_52 : Code := Code.seq c7_53 c7_75
def c7_44 : Code := Code.seq c7_45 c7_52
def c7_42 : Code := Code.seq c7_43 c7_44
def c7_34 : Code := Code.seq c7_35 c7_42
def c7_26 : Code := Code.seq c7_27 c7_34
def c7_18 : Code := Code.seq c7_19 c7_26
def c7_10 : Code := Code.seq c7_11 c7_18
def c7_2 : Code := Code.seq c7_3 c7_10
def c7_0 : Code := Code.seq c7_1 c7_2
theorem body7 : Try.f7.body = some c7_0 := by kernel_rfl

set_option maxRecDepth 100000 in
set_option maxHeartbeats 4000000 in
theorem ow14 {W : World} {a b c : Tm} {aa ab ac : Option Addr} {ca cb cc : Nat} {m : Int} {xr : Tm} {ax : Option Addr} {cx L : Nat} {zs zd : Int} {f0 : Act} {w0 : World} {b1 : Nat} {b2 : Nat} (R : FrS 125 f0) (h3 : f0.tmps[3]? = some (.int .i64 m)) (h4 : f0.tmps[4]? = some (.pointer (some ⟨b1, 0, none⟩))) (h9 : f0.tmps[9]? = some (.pointer (some ⟨b2, 0, none⟩))) (K1 : Keep (fun g => g < W.heap.size) W w0) (B1 : Blk w0 b1 24 #[.int .i64 a.k, .string (str a.nm), .int .i64 a.i, .slice aa a.args.length ca]) (B2 : Blk w0 b2 24 #[.int .i64 xr.k, .string (str xr.nm), .int .i64 xr.i, .slice ax xr.args.length cx]) (HA : Hid (TmAt W.heap.size W a aa ca)) {V : World} (HX : Hid (TmAt V.heap.size V xr ax cx)) (K2 : Keep (fun g => g < V.heap.size) V w0) (HM : Hid (1 ≤ m ∧ m ≤ 1152921504606846976)) (HL : Hid (L ≤ 2000)) (HV : Hid (∃ l : List Int, vaV xr = l ∧ l.length = L ∧ ∀ i : Nat, i < L → l[i]? = some (m + i))) (HS : Hid (xr.size = zs ∧ a.size = zs ∧ xr.depth = zd ∧ a.depth = zd)) : c7_52.wp Try.prog (bodyPost Try.prog Try.f7 (fun e w' => e = .returned (.bool true) ∧ Keep (fun g => g < W.heap.size) W w')) f0 w0 := by
  obtain ⟨l, HVl, HVn, HVi⟩ := HV.out
  refine wp_seq (x := c7_53) (y := c7_75) ?_
  refine wp_seq (x := c7_54) (y := c7_55) ?_
  change (Code.region 14 O7_14 false).wp _ _ _ _
  refine reg_in (l := [0, 1, 2, 3]) rfl ?_
  have Y : (execOp f0.eval o7_14_0).run Try.prog w0 = .ok (.value (.agg #[.int .i64 xr.k, .string (str xr.nm), .int .i64 xr.i, .slice ax xr.args.length cx])) w0 := by have q0 : w0.cell? ⟨b2, 0, none⟩ = some (.int .i64 xr.k) := B2.cell 0; have q1 : w0.cell? ⟨b2, 1, none⟩ = some (.string (str xr.nm)) := B2.cell 1; have q2 : w0.cell? ⟨b2, 2, none⟩ = some (.int .i64 xr.i) := B2.cell 2; have q3 : w0.cell? ⟨b2, 3, none⟩ = some (.slice ax xr.args.length cx) := B2.cell 3; unfold o7_14_0; go_simp
  refine st_val g7_14_0 rfl (wanted_free rfl) Y fun a1 e => ?_; clear Y
  have g99 := R.at_ e (by decide); replace R := R.put e; replace h3 := slot_on e h3 (by decide); replace h4 := slot_on e h4 (by decide); replace h9 := slot_on e h9 (by decide); have h99 := g99; clear g99; clear e
  have Y : (execOp a1.eval o7_14_1).run Try.prog w0 = .ok (.enter 18 #[.agg #[.int .i64 xr.k, .string (str xr.nm), .int .i64 xr.i, .slice ax xr.args.length cx]]) w0 := by unfold o7_14_1; go_simp
  refine st_call g7_14_1 rfl (wanted_free rfl) Y ((vars_sx (HX.out.on K2) HVl HVn).mono ?_); clear Y
  rintro e9 w3 ⟨gb, ub, uc, rfl, hrow, kk⟩
  replace K1 := keep_onto K1 kk
  replace K2 := keep_onto K2 kk
  replace B1 := blk_on B1 kk
  replace B2 := blk_on B2 kk
  clear kk
  have HR : Hid ((0 < L → ub = some ⟨gb, 0, none⟩) ∧ ∀ k : Nat, k < L → ∀ V', Keep (fun g => g < w3.heap.size) w3 V' → V'.cell? ⟨gb, k, none⟩ = some (.int .i64 (m + k))) := Lib.hid ⟨fun h => (hrow.1 h).1, fun k hk V' hV => by exact cell_on (hrow.2 k _ (HVi k hk)) hV⟩
  clear hrow
  have K3 := Keep.refl (fun g => g < w3.heap.size) w3
  refine ⟨_, rfl, fun a4 e => ?_⟩
  have g100 := R.at_ e (by decide); replace R := R.put e; replace h3 := slot_on e h3 (by decide); replace h4 := slot_on e h4 (by decide); replace h9 := slot_on e h9 (by decide); clear h99; have h100 := g100; clear g100; clear e
  have Y : (execOp a4.eval o7_14_2).run Try.prog w3 = .ok (.value (.int .i64 L)) w3 := by unfold o7_14_2; go_simp
  refine st_val g7_14_2 rfl (wanted_free rfl) Y fun a6 e => ?_; clear Y
  have g101 := R.at_ e (by decide); replace R := R.put e; replace h3 := slot_on e h3 (by decide); replace h4 := slot_on e h4 (by decide); replace h9 := slot_on e h9 (by decide); replace h100 := slot_on e h100 (by decide); have h101 := g101; clear g101; clear e
  have Y : (execOp a6.eval o7_14_3).run Try.prog w3 = .ok (.value (.int .i64 0)) w3 := by unfold o7_14_3; go_simp
  refine st_val g7_14_3 rfl (wanted_free rfl) Y fun a8 e => ?_; clear Y
  have g102 := R.at_ e (by decide); replace R := R.put e; replace h3 := slot_on e h3 (by decide); replace h4 := slot_on e h4 (by decide); replace h9 := slot_on e h9 (by decide); replace h100 := slot_on e h100 (by decide); replace h101 := slot_on e h101 (by decide); have h102 := g102; clear g102; clear e
  refine st_end ?_
  change (c7_55).wp _ _ _ _
  refine wp_block (id := 0) (c := c7_56) ?_
  refine wp_loop_ghost (c := c7_57) (fun n f9 w9 => ∃ j : Nat, n = L - j ∧ FrS 125 f9 ∧ f9.tmps[3]? = some (.int .i64 m) ∧ f9.tmps[4]? = some (.pointer (some ⟨b1, 0, none⟩)) ∧ f9.tmps[9]? = some (.pointer (some ⟨b2, 0, none⟩)) ∧ f9.tmps[100]? = some (.slice ub L uc) ∧ f9.tmps[101]? = some (.int .i64 L) ∧ f9.tmps[102]? = some (.int .i64 (j : Int)) ∧ Keep (fun g => g < W.heap.size) W w9 ∧ Keep (fun g => g < V.heap.size) V w9 ∧ Keep (fun g => g < w3.heap.size) w3 w9 ∧ Blk w9 b1 24 #[.int .i64 a.k, .string (str a.nm), .int .i64 a.i, .slice aa a.args.length ca] ∧ Blk w9 b2 24 #[.int .i64 xr.k, .string (str xr.nm), .int .i64 xr.i, .slice ax xr.args.length cx] ∧ j ≤ L) (L - 0) ⟨0, rfl, R, h3, h4, h9, h100, h101, h102, K1, K2, K3, B1, B2, Nat.zero_le _⟩ ?_
  clear R h3 h4 h9 h100 h101 h102 K1 K2 K3 B1 B2
  rintro n12 a10 w11 ⟨j, rfl, R, h3, h4, h9, h100, h101, h102, K1, K2, K3, B1, B2, hj⟩
  have hj2 : j ≤ 2000 := Nat.le_trans hj HL.out
  have hm := HM.out
  have hwj : IntKind.i64.wrap ((j : Int) + 1) = (j : Int) + 1 := by rw [IntKind.wrap_i64]; omega
  have hwk : IntKind.i64.wrap (m + (j : Int)) = m + j := by rw [IntKind.wrap_i64]; omega
  clear hm
  refine wp_seq (x := c7_58) (y := c7_59) ?_
  change (Code.region 15 O7_15 false).wp _ _ _ _
  refine reg_in (l := [0]) rfl ?_
  obtain ⟨b13, hb13⟩ : ∃ x, (decide ((j : Int) < (L : Int))) = x := ⟨_, rfl⟩
  have Y : (execOp a10.eval o7_15_0).run Try.prog w11 = .ok (.value (.bool b13)) w11 := by rw [← hb13]; unfold o7_15_0; go_simp
  refine st_val g7_15_0 rfl (wanted_free rfl) Y fun a14 e => ?_; clear Y
  have g103 := R.at_ e (by decide); replace R := R.put e; replace h3 := slot_on e h3 (by decide); replace h4 := slot_on e h4 (by decide); replace h9 := slot_on e h9 (by decide); replace h100 := slot_on e h100 (by decide); replace h101 := slot_on e h101 (by decide); replace h102 := slot_on e h102 (by decide); have h103 := g103; clear g103; clear e
  refine st_end ?_
  change (c7_59).wp _ _ _ _
  refine wp_seq (x := c7_60) (y := c7_63) ?_
  cases b13 with
  | false =>
    have fb13 := hb13; clear hb13
    simp only [decide_eq_true_eq, decide_eq_false_iff_not, Bool.not_eq_true', Bool.not_eq_false', Bool.not_eq_eq_eq_not, Bool.not_true, Bool.not_false] at fb13
    refine wp_cond_false (x := Code.skip) (y := c7_62) (eval_slot h103) ?_
    refine wp_exit ?_
    change (c7_75).wp _ _ _ _
    refine wp_seq (x := c7_76) (y := Code.ret) ?_
    change (Code.region 20 O7_20 true).wp _ _ _ _
    have D18 := B1
    have D19 := B2
    have K16 := (Keep.refl (fun g => g < w11.heap.size) w11).drew
    refine dr_in (S := (fun W => Keep (fun g => g < w11.heap.size) w11 W)) (n := 13) (l := #[false, false, false, false, false, false, false, false, false, false, false, false, false]) (by kernel_rfl) K16 rfl rfl ?_
    replace K1 := K1.drew
    replace K2 := K2.drew
    replace K3 := K3.drew
    replace B1 := B1.drew
    replace B2 := B2.drew
    generalize w11.drew = w17 at K16 K1 K2 K3 B1 B2 ⊢
    have Y : ∀ W, Keep (fun g => g < w11.heap.size) w11 W → (execOp a14.eval o7_20_0).run Try.prog W = .ok (.value (.agg #[.int .i64 xr.k, .string (str xr.nm), .int .i64 xr.i, .slice ax xr.args.length cx])) W := by intro W7 hS; have D := D19.keep hS D19.lt; have q0 : W7.cell? ⟨b2, 0, none⟩ = some (.int .i64 xr.k) := D.cell 0; have q1 : W7.cell? ⟨b2, 1, none⟩ = some (.string (str xr.nm)) := D.cell 1; have q2 : W7.cell? ⟨b2, 2, none⟩ = some (.int .i64 xr.i) := D.cell 2; have q3 : W7.cell? ⟨b2, 3, none⟩ = some (.slice ax xr.args.length cx) := D.cell 3; unfold o7_20_0; go_simp
    refine dr_take (i := 0) (fuel := 12) (l' := #[true, false, false, false, false, false, false, false, false, false, false, false, false]) g7_20_0 rfl ns7_20 (by kernel_rfl) (by kernel_rfl) rfl (wanted_free rfl) K16 Y fun a20 e => ?_; clear Y
    have g113 := R.at_ e (by decide); replace R := R.put e; replace h3 := slot_on e h3 (by decide); replace h4 := slot_on e h4 (by decide); replace h9 := slot_on e h9 (by decide); replace h100 := slot_on e h100 (by decide); replace h101 := slot_on e h101 (by decide); replace h102 := slot_on e h102 (by decide); replace h103 := slot_on e h103 (by decide); have h113 := g113; clear g113; clear e
    have Y : ∀ W, Keep (fun g => g < w11.heap.size) w11 W → (execOp a20.eval o7_20_2).run Try.prog W = .ok (.value (.agg #[.int .i64 a.k, .string (str a.nm), .int .i64 a.i, .slice aa a.args.length ca])) W := by intro W7 hS; have D := D18.keep hS D18.lt; have q0 : W7.cell? ⟨b1, 0, none⟩ = some (.int .i64 a.k) := D.cell 0; have q1 : W7.cell? ⟨b1, 1, none⟩ = some (.string (str a.nm)) := D.cell 1; have q2 : W7.cell? ⟨b1, 2, none⟩ = some (.int .i64 a.i) := D.cell 2; have q3 : W7.cell? ⟨b1, 3, none⟩ = some (.slice aa a.args.length ca) := D.cell 3; unfold o7_20_2; go_simp
    refine dr_take (i := 2) (fuel := 11) (l' := #[true, false, true, false, false, false, false, false, false, false, false, false, false]) g7_20_2 rfl ns7_20 (by kernel_rfl) (by kernel_rfl) rfl (wanted_free rfl) K16 Y fun a22 e => ?_; clear Y
    have g115 := R.at_ e (by decide); replace R := R.put e; replace h3 := slot_on e h3 (by decide); replace h4 := slot_on e h4 (by decide); replace h9 := slot_on e h9 (by decide); replace h100 := slot_on e h100 (by decide); replace h101 := slot_on e h101 (by decide); replace h102 := slot_on e h102 (by decide); replace h103 := slot_on e h103 (by decide); replace h113 := slot_on e h113 (by decide); have h115 := g115; clear g115; clear e
    refine dr_only (i := 1) (fuel := 10) (by kernel_rfl) ?_
    have Y : (execOp a22.eval o7_20_1).run Try.prog w17 = .ok (.enter 16 #[.agg #[.int .i64 xr.k, .string (str xr.nm), .int .i64 xr.i, .slice ax xr.args.length cx]]) w17 := by unfold o7_20_1; go_simp
    refine dr_call (l' := #[true, true, true, false, false, false, false, false, false, false, false, false, false]) g7_20_1 rfl rfl (wanted_free rfl) Y ((size_any (HX.out.on K2)).mono ?_); clear Y
    rintro e9 w24 ⟨rfl, kk⟩
    replace K1 := keep_onto K1 kk
    replace K2 := keep_onto K2 kk
    replace K3 := keep_onto K3 kk
    replace K16 := keep_onto K16 kk
    replace B1 := blk_on B1 kk
    replace B2 := blk_on B2 kk
    clear kk
    refine ⟨_, rfl, K16, fun a25 e => ?_⟩
    have g114 := R.at_ e (by decide); replace R := R.put e; replace h3 := slot_on e h3 (by decide); replace h4 := slot_on e h4 (by decide); replace h9 := slot_on e h9 (by decide); replace h100 := slot_on e h100 (by decide); replace h101 := slot_on e h101 (by decide); replace h102 := slot_on e h102 (by decide); replace h103 := slot_on e h103 (by decide); replace h115 := slot_on e h115 (by decide); clear h113; have h114 := g114; clear g114; clear e
    refine dr_only (i := 3) (fuel := 9) (by kernel_rfl) ?_
    have Y : (execOp a25.eval o7_20_3).run Try.prog w24 = .ok (.enter 16 #[.agg #[.int .i64 a.k, .string (str a.nm), .int .i64 a.i, .slice aa a.args.length ca]]) w24 := by unfold o7_20_3; go_simp
    refine dr_call (l' := #[true, true, true, true, false, false, false, false, false, false, false, false, false]) g7_20_3 rfl rfl (wanted_free rfl) Y ((size_any (HA.out.on K1)).mono ?_); clear Y
    rintro e9 w27 ⟨rfl, kk⟩
    replace K1 := keep_onto K1 kk
    replace K2 := keep_onto K2 kk
    replace K3 := keep_onto K3 kk
    replace K16 := keep_onto K16 kk
    replace B1 := blk_on B1 kk
    replace B2 := blk_on B2 kk
    clear kk
    refine ⟨_, rfl, K16, fun a28 e => ?_⟩
    have g116 := R.at_ e (by decide); replace R := R.put e; replace h3 := slot_on e h3 (by decide); replace h4 := slot_on e h4 (by decide); replace h9 := slot_on e h9 (by decide); replace h100 := slot_on e h100 (by decide); replace h101 := slot_on e h101 (by decide); replace h102 := slot_on e h102 (by decide); replace h103 := slot_on e h103 (by decide); replace h114 := slot_on e h114 (by decide); clear h115; have h116 := g116; clear g116; clear e
    have Y : ∀ W, Keep (fun g => g < w11.heap.size) w11 W → (execOp a28.eval o7_20_4).run Try.prog W = .ok (.value (.bool true)) W := by intro W7 hS; have e1 := HS.out.1; have e2 := HS.out.2.1; unfold o7_20_4; go_simp
    refine dr_take (i := 4) (fuel := 8) (l' := #[true, true, true, true, true, false, false, false, false, false, false, false, false]) g7_20_4 rfl ns7_20 (by kernel_rfl) (by kernel_rfl) rfl (wanted_free rfl) K16 Y fun a30 e => ?_; clear Y
    have g117 := R.at_ e (by decide); replace R := R.put e; replace h3 := slot_on e h3 (by decide); replace h4 := slot_on e h4 (by decide); replace h9 := slot_on e h9 (by decide); replace h100 := slot_on e h100 (by decide); replace h101 := slot_on e h101 (by decide); replace h102 := slot_on e h102 (by decide); replace h103 := slot_on e h103 (by decide); clear h114 h116; have h117 := g117; clear g117; clear e
    have Y : ∀ W, Keep (fun g => g < w11.heap.size) w11 W → (execOp a30.eval o7_20_5).run Try.prog W = .ok (.value (.bool true)) W := by intro W7 hS; unfold o7_20_5; go_simp
    refine dr_take (i := 5) (fuel := 7) (l' := #[true, true, true, true, true, true, false, false, false, false, false, false, false]) g7_20_5 rfl ns7_20 (by kernel_rfl) (by kernel_rfl) rfl (wanted_free rfl) K16 Y fun a32 e => ?_; clear Y
    have g118 := R.at_ e (by decide); replace R := R.put e; replace h3 := slot_on e h3 (by decide); replace h4 := slot_on e h4 (by decide); replace h9 := slot_on e h9 (by decide); replace h100 := slot_on e h100 (by decide); replace h101 := slot_on e h101 (by decide); replace h102 := slot_on e h102 (by decide); replace h103 := slot_on e h103 (by decide); clear h117; have h118 := g118; clear g118; clear e
    have Y : ∀ W, Keep (fun g => g < w11.heap.size) w11 W → (execOp a32.eval o7_20_6).run Try.prog W = .ok (.value (.agg #[.int .i64 xr.k, .string (str xr.nm), .int .i64 xr.i, .slice ax xr.args.length cx])) W := by intro W7 hS; have D := D19.keep hS D19.lt; have q0 : W7.cell? ⟨b2, 0, none⟩ = some (.int .i64 xr.k) := D.cell 0; have q1 : W7.cell? ⟨b2, 1, none⟩ = some (.string (str xr.nm)) := D.cell 1; have q2 : W7.cell? ⟨b2, 2, none⟩ = some (.int .i64 xr.i) := D.cell 2; have q3 : W7.cell? ⟨b2, 3, none⟩ = some (.slice ax xr.args.length cx) := D.cell 3; unfold o7_20_6; go_simp
    refine dr_take (i := 6) (fuel := 6) (l' := #[true, true, true, true, true, true, true, false, false, false, false, false, false]) g7_20_6 rfl ns7_20 (by kernel_rfl) (by kernel_rfl) rfl (wanted_is (j := 5) (d := 118) rfl rfl h118 rfl) K16 Y fun a34 e => ?_; clear Y
    have g119 := R.at_ e (by decide); replace R := R.put e; replace h3 := slot_on e h3 (by decide); replace h4 := slot_on e h4 (by decide); replace h100 := slot_on e h100 (by decide); replace h101 := slot_on e h101 (by decide); replace h102 := slot_on e h102 (by decide); replace h103 := slot_on e h103 (by decide); replace h118 := slot_on e h118 (by decide); clear h9; have h119 := g119; clear g119; clear e
    have Y : ∀ W, Keep (fun g => g < w11.heap.size) w11 W → (execOp a34.eval o7_20_8).run Try.prog W = .ok (.value (.agg #[.int .i64 a.k, .string (str a.nm), .int .i64 a.i, .slice aa a.args.length ca])) W := by intro W7 hS; have D := D18.keep hS D18.lt; have q0 : W7.cell? ⟨b1, 0, none⟩ = some (.int .i64 a.k) := D.cell 0; have q1 : W7.cell? ⟨b1, 1, none⟩ = some (.string (str a.nm)) := D.cell 1; have q2 : W7.cell? ⟨b1, 2, none⟩ = some (.int .i64 a.i) := D.cell 2; have q3 : W7.cell? ⟨b1, 3, none⟩ = some (.slice aa a.args.length ca) := D.cell 3; unfold o7_20_8; go_simp
    refine dr_take (i := 8) (fuel := 5) (l' := #[true, true, true, true, true, true, true, false, true, false, false, false, false]) g7_20_8 rfl ns7_20 (by kernel_rfl) (by kernel_rfl) rfl (wanted_is (j := 5) (d := 118) rfl rfl h118 rfl) K16 Y fun a36 e => ?_; clear Y
    have g121 := R.at_ e (by decide); replace R := R.put e; replace h3 := slot_on e h3 (by decide); replace h100 := slot_on e h100 (by decide); replace h101 := slot_on e h101 (by decide); replace h102 := slot_on e h102 (by decide); replace h103 := slot_on e h103 (by decide); replace h118 := slot_on e h118 (by decide); replace h119 := slot_on e h119 (by decide); clear h4; have h121 := g121; clear g121; clear e
    refine dr_only (i := 7) (fuel := 4) (by kernel_rfl) ?_
    have Y : (execOp a36.eval o7_20_7).run Try.prog w27 = .ok (.enter 17 #[.agg #[.int .i64 xr.k, .string (str xr.nm), .int .i64 xr.i, .slice ax xr.args.length cx]]) w27 := by unfold o7_20_7; go_simp
    refine dr_call (l' := #[true, true, true, true, true, true, true, true, true, false, false, false, false]) g7_20_7 rfl rfl (wanted_is (j := 5) (d := 118) rfl rfl h118 rfl) Y ((depth_any (HX.out.on K2)).mono ?_); clear Y
    rintro e9 w38 ⟨rfl, kk⟩
    replace K1 := keep_onto K1 kk
    replace K2 := keep_onto K2 kk
    replace K3 := keep_onto K3 kk
    replace K16 := keep_onto K16 kk
    replace B1 := blk_on B1 kk
    replace B2 := blk_on B2 kk
    clear kk
    refine ⟨_, rfl, K16, fun a39 e => ?_⟩
    have g120 := R.at_ e (by decide); replace R := R.put e; replace h3 := slot_on e h3 (by decide); replace h100 := slot_on e h100 (by decide); replace h101 := slot_on e h101 (by decide); replace h102 := slot_on e h102 (by decide); replace h103 := slot_on e h103 (by decide); replace h118 := slot_on e h118 (by decide); replace h121 := slot_on e h121 (by decide); clear h119; have h120 := g120; clear g120; clear e
    refine dr_only (i := 9) (fuel := 3) (by kernel_rfl) ?_
    have Y : (execOp a39.eval o7_20_9).run Try.prog w38 = .ok (.enter 17 #[.agg #[.int .i64 a.k, .string (str a.nm), .int .i64 a.i, .slice aa a.args.length ca]]) w38 := by unfold o7_20_9; go_simp
    refine dr_call (l' := #[true, true, true, true, true, true, true, true, true, true, false, false, false]) g7_20_9 rfl rfl (wanted_is (j := 5) (d := 118) rfl rfl h118 rfl) Y ((depth_any (HA.out.on K1)).mono ?_); clear Y
    rintro e9 w41 ⟨rfl, kk⟩
    replace K1 := keep_onto K1 kk
    replace K2 := keep_onto K2 kk
    replace K3 := keep_onto K3 kk
    replace K16 := keep_onto K16 kk
    replace B1 := blk_on B1 kk
    replace B2 := blk_on B2 kk
    clear kk
    refine ⟨_, rfl, K16, fun a42 e => ?_⟩
    have g122 := R.at_ e (by decide); replace R := R.put e; replace h3 := slot_on e h3 (by decide); replace h100 := slot_on e h100 (by decide); replace h101 := slot_on e h101 (by decide); replace h102 := slot_on e h102 (by decide); replace h103 := slot_on e h103 (by decide); replace h118 := slot_on e h118 (by decide); replace h120 := slot_on e h120 (by decide); clear h121; have h122 := g122; clear g122; clear e
    have Y : ∀ W, Keep (fun g => g < w11.heap.size) w11 W → (execOp a42.eval o7_20_10).run Try.prog W = .ok (.value (.bool true)) W := by intro W7 hS; have e1 := HS.out.2.2.1; have e2 := HS.out.2.2.2; unfold o7_20_10; go_simp
    refine dr_take (i := 10) (fuel := 2) (l' := #[true, true, true, true, true, true, true, true, true, true, true, false, false]) g7_20_10 rfl ns7_20 (by kernel_rfl) (by kernel_rfl) rfl (wanted_is (j := 5) (d := 118) rfl rfl h118 rfl) K16 Y fun a44 e => ?_; clear Y
    have g123 := R.at_ e (by decide); replace R := R.put e; replace h3 := slot_on e h3 (by decide); replace h100 := slot_on e h100 (by decide); replace h101 := slot_on e h101 (by decide); replace h102 := slot_on e h102 (by decide); replace h103 := slot_on e h103 (by decide); replace h118 := slot_on e h118 (by decide); clear h120 h122; have h123 := g123; clear g123; clear e
    have Y : ∀ W, Keep (fun g => g < w11.heap.size) w11 W → (execOp a44.eval o7_20_11).run Try.prog W = .ok (.value (.bool true)) W := by intro W7 hS; unfold o7_20_11; go_simp
    refine dr_take (i := 11) (fuel := 1) (l' := #[true, true, true, true, true, true, true, true, true, true, true, true, false]) g7_20_11 rfl ns7_20 (by kernel_rfl) (by kernel_rfl) rfl (wanted_free rfl) K16 Y fun a46 e => ?_; clear Y
    have g124 := R.at_ e (by decide); replace R := R.put e; replace h3 := slot_on e h3 (by decide); replace h100 := slot_on e h100 (by decide); replace h101 := slot_on e h101 (by decide); replace h102 := slot_on e h102 (by decide); replace h103 := slot_on e h103 (by decide); clear h118 h123; have h124 := g124; clear g124; clear e
    have Y : ∀ W, Keep (fun g => g < w11.heap.size) w11 W → (execOp a46.eval o7_20_12).run Try.prog W = .ok (.value (.bool true)) W := by intro W7 hS; unfold o7_20_12; go_simp
    refine dr_take (i := 12) (fuel := 0) (l' := #[true, true, true, true, true, true, true, true, true, true, true, true, true]) g7_20_12 rfl ns7_20 (by kernel_rfl) (by kernel_rfl) rfl (wanted_free rfl) K16 Y fun a48 e => ?_; clear Y
    have g8 := R.at_ e (by decide); replace R := R.put e; replace h3 := slot_on e h3 (by decide); replace h100 := slot_on e h100 (by decide); replace h101 := slot_on e h101 (by decide); replace h102 := slot_on e h102 (by decide); replace h103 := slot_on e h103 (by decide); clear h124; have h8 := g8; clear g8; clear e
    refine dr_end (by kernel_rfl) ?_
    clear K16 D18 D19
    change (Code.ret).wp _ _ _ _
    refine wp_ret ?_
    change bodyPost Try.prog Try.f7 (fun e w' => e = .returned (.bool true) ∧ Keep (fun g => g < W.heap.size) W w') .ret a48 w41
    refine ret_one rfl R h8 ?_
    exact ⟨rfl, K1⟩
  | true =>
    have fb13 := hb13; clear hb13
    simp only [decide_eq_true_eq, decide_eq_false_iff_not, Bool.not_eq_true', Bool.not_eq_false', Bool.not_eq_eq_eq_not, Bool.not_true, Bool.not_false] at fb13
    refine wp_cond_true (x := Code.skip) (y := c7_62) (eval_slot h103) ?_
    refine wp_skip ?_
    change (c7_63).wp _ _ _ _
    refine wp_seq (x := c7_64) (y := c7_74) ?_
    refine wp_block (id := 1) (c := c7_65) ?_
    refine wp_seq (x := c7_66) (y := c7_67) ?_
    change (Code.region 16 O7_16 false).wp _ _ _ _
    refine reg_in (l := [0, 1, 2, 3, 4]) rfl ?_
    have Y : (execOp a14.eval o7_16_0).run Try.prog w11 = .ok (.value (.int .i64 (j : Int))) w11 := by unfold o7_16_0; go_simp
    refine st_val g7_16_0 rfl (wanted_free rfl) Y fun a50 e => ?_; clear Y
    have g104 := R.at_ e (by decide); replace R := R.put e; replace h3 := slot_on e h3 (by decide); replace h4 := slot_on e h4 (by decide); replace h9 := slot_on e h9 (by decide); replace h100 := slot_on e h100 (by decide); replace h101 := slot_on e h101 (by decide); replace h102 := slot_on e h102 (by decide); replace h103 := slot_on e h103 (by decide); have h104 := g104; clear g104; clear e
    have Y : (execOp a50.eval o7_16_1).run Try.prog w11 = .ok (.value (.pointer (some ⟨gb, j, none⟩))) w11 := by have hu := HR.out.1 (by omega); have hlt : (j : Int) < (L : Int) := (by omega); subst hu; unfold o7_16_1; go_simp
    refine st_val g7_16_1 rfl (wanted_free rfl) Y fun a52 e => ?_; clear Y
    have g105 := R.at_ e (by decide); replace R := R.put e; replace h3 := slot_on e h3 (by decide); replace h4 := slot_on e h4 (by decide); replace h9 := slot_on e h9 (by decide); replace h100 := slot_on e h100 (by decide); replace h101 := slot_on e h101 (by decide); replace h102 := slot_on e h102 (by decide); replace h103 := slot_on e h103 (by decide); replace h104 := slot_on e h104 (by decide); have h105 := g105; clear g105; clear e
    have Y : (execOp a52.eval o7_16_2).run Try.prog w11 = .ok (.value (.int .i64 (m + (j : Int)))) w11 := by have hu := HR.out.2 j (by omega) _ K3; unfold o7_16_2; go_simp
    refine st_val g7_16_2 rfl (wanted_free rfl) Y fun a54 e => ?_; clear Y
    have g106 := R.at_ e (by decide); replace R := R.put e; replace h3 := slot_on e h3 (by decide); replace h4 := slot_on e h4 (by decide); replace h9 := slot_on e h9 (by decide); replace h100 := slot_on e h100 (by decide); replace h101 := slot_on e h101 (by decide); replace h102 := slot_on e h102 (by decide); replace h103 := slot_on e h103 (by decide); replace h104 := slot_on e h104 (by decide); replace h105 := slot_on e h105 (by decide); have h106 := g106; clear g106; clear e
    have Y : (execOp a54.eval o7_16_3).run Try.prog w11 = .ok (.value (.int .i64 (j : Int))) w11 := by unfold o7_16_3; go_simp
    refine st_val g7_16_3 rfl (wanted_free rfl) Y fun a56 e => ?_; clear Y
    have g12 := R.at_ e (by decide); replace R := R.put e; replace h3 := slot_on e h3 (by decide); replace h4 := slot_on e h4 (by decide); replace h9 := slot_on e h9 (by decide); replace h100 := slot_on e h100 (by decide); replace h101 := slot_on e h101 (by decide); replace h102 := slot_on e h102 (by decide); replace h103 := slot_on e h103 (by decide); replace h104 := slot_on e h104 (by decide); replace h105 := slot_on e h105 (by decide); replace h106 := slot_on e h106 (by decide); have h12 := g12; clear g12; clear e
    have Y : (execOp a56.eval o7_16_4).run Try.prog w11 = .ok (.value (.int .i64 (m + (j : Int)))) w11 := by unfold o7_16_4; go_simp
    refine st_val g7_16_4 rfl (wanted_free rfl) Y fun a58 e => ?_; clear Y
    have g13 := R.at_ e (by decide); replace R := R.put e; replace h3 := slot_on e h3 (by decide); replace h4 := slot_on e h4 (by decide); replace h9 := slot_on e h9 (by decide); replace h12 := slot_on e h12 (by decide); replace h100 := slot_on e h100 (by decide); replace h101 := slot_on e h101 (by decide); replace h102 := slot_on e h102 (by decide); replace h103 := slot_on e h103 (by decide); replace h104 := slot_on e h104 (by decide); replace h105 := slot_on e h105 (by decide); replace h106 := slot_on e h106 (by decide); have h13 := g13; clear g13; clear e
    refine st_end ?_
    change (c7_67).wp _ _ _ _
    refine wp_seq (x := c7_68) (y := c7_69) ?_
    change (Code.region 17 O7_17 false).wp _ _ _ _
    refine reg_in (l := [0, 1, 2, 3, 4]) rfl ?_
    have Y : (execOp a58.eval o7_17_0).run Try.prog w11 = .ok (.value (.int .i64 (m + (j : Int)))) w11 := by unfold o7_17_0; go_simp
    refine st_val g7_17_0 rfl (wanted_free rfl) Y fun a60 e => ?_; clear Y
    have g107 := R.at_ e (by decide); replace R := R.put e; replace h3 := slot_on e h3 (by decide); replace h4 := slot_on e h4 (by decide); replace h9 := slot_on e h9 (by decide); replace h12 := slot_on e h12 (by decide); replace h13 := slot_on e h13 (by decide); replace h100 := slot_on e h100 (by decide); replace h101 := slot_on e h101 (by decide); replace h102 := slot_on e h102 (by decide); replace h103 := slot_on e h103 (by decide); replace h104 := slot_on e h104 (by decide); replace h105 := slot_on e h105 (by decide); replace h106 := slot_on e h106 (by decide); have h107 := g107; clear g107; clear e
    have Y : (execOp a60.eval o7_17_1).run Try.prog w11 = .ok (.value (.int .i64 m)) w11 := by unfold o7_17_1; go_simp
    refine st_val g7_17_1 rfl (wanted_free rfl) Y fun a62 e => ?_; clear Y
    have g108 := R.at_ e (by decide); replace R := R.put e; replace h3 := slot_on e h3 (by decide); replace h4 := slot_on e h4 (by decide); replace h9 := slot_on e h9 (by decide); replace h12 := slot_on e h12 (by decide); replace h13 := slot_on e h13 (by decide); replace h100 := slot_on e h100 (by decide); replace h101 := slot_on e h101 (by decide); replace h102 := slot_on e h102 (by decide); replace h103 := slot_on e h103 (by decide); replace h104 := slot_on e h104 (by decide); replace h105 := slot_on e h105 (by decide); replace h106 := slot_on e h106 (by decide); replace h107 := slot_on e h107 (by decide); have h108 := g108; clear g108; clear e
    have Y : (execOp a62.eval o7_17_2).run Try.prog w11 = .ok (.value (.int .i64 (j : Int))) w11 := by unfold o7_17_2; go_simp
    refine st_val g7_17_2 rfl (wanted_free rfl) Y fun a64 e => ?_; clear Y
    have g109 := R.at_ e (by decide); replace R := R.put e; replace h3 := slot_on e h3 (by decide); replace h4 := slot_on e h4 (by decide); replace h9 := slot_on e h9 (by decide); replace h12 := slot_on e h12 (by decide); replace h13 := slot_on e h13 (by decide); replace h100 := slot_on e h100 (by decide); replace h101 := slot_on e h101 (by decide); replace h102 := slot_on e h102 (by decide); replace h103 := slot_on e h103 (by decide); replace h104 := slot_on e h104 (by decide); replace h105 := slot_on e h105 (by decide); replace h106 := slot_on e h106 (by decide); replace h107 := slot_on e h107 (by decide); replace h108 := slot_on e h108 (by decide); have h109 := g109; clear g109; clear e
    have Y : (execOp a64.eval o7_17_3).run Try.prog w11 = .ok (.value (.int .i64 (m + (j : Int)))) w11 := by unfold o7_17_3; go_simp
    refine st_val g7_17_3 rfl (wanted_free rfl) Y fun a66 e => ?_; clear Y
    have g110 := R.at_ e (by decide); replace R := R.put e; replace h3 := slot_on e h3 (by decide); replace h4 := slot_on e h4 (by decide); replace h9 := slot_on e h9 (by decide); replace h12 := slot_on e h12 (by decide); replace h13 := slot_on e h13 (by decide); replace h100 := slot_on e h100 (by decide); replace h101 := slot_on e h101 (by decide); replace h102 := slot_on e h102 (by decide); replace h103 := slot_on e h103 (by decide); replace h104 := slot_on e h104 (by decide); replace h105 := slot_on e h105 (by decide); replace h106 := slot_on e h106 (by decide); replace h107 := slot_on e h107 (by decide); replace h108 := slot_on e h108 (by decide); replace h109 := slot_on e h109 (by decide); have h110 := g110; clear g110; clear e
    have Y : (execOp a66.eval o7_17_4).run Try.prog w11 = .ok (.value (.bool false)) w11 := by unfold o7_17_4; go_simp
    refine st_val g7_17_4 rfl (wanted_free rfl) Y fun a68 e => ?_; clear Y
    have g111 := R.at_ e (by decide); replace R := R.put e; replace h3 := slot_on e h3 (by decide); replace h4 := slot_on e h4 (by decide); replace h9 := slot_on e h9 (by decide); replace h12 := slot_on e h12 (by decide); replace h13 := slot_on e h13 (by decide); replace h100 := slot_on e h100 (by decide); replace h101 := slot_on e h101 (by decide); replace h102 := slot_on e h102 (by decide); replace h103 := slot_on e h103 (by decide); replace h104 := slot_on e h104 (by decide); replace h105 := slot_on e h105 (by decide); replace h106 := slot_on e h106 (by decide); replace h107 := slot_on e h107 (by decide); replace h108 := slot_on e h108 (by decide); replace h109 := slot_on e h109 (by decide); replace h110 := slot_on e h110 (by decide); have h111 := g111; clear g111; clear e
    refine st_end ?_
    change (c7_69).wp _ _ _ _
    refine wp_cond_false (x := c7_70) (y := Code.skip) (eval_slot h111) ?_
    refine wp_skip ?_
    change (c7_74).wp _ _ _ _
    change (Code.region 19 O7_19 false).wp _ _ _ _
    refine reg_in (l := [0, 1]) rfl ?_
    have Y : (execOp a68.eval o7_19_0).run Try.prog w11 = .ok (.value (.int .i64 ((j : Int) + 1))) w11 := by unfold o7_19_0; go_simp
    refine st_val g7_19_0 rfl (wanted_free rfl) Y fun a70 e => ?_; clear Y
    have g112 := R.at_ e (by decide); replace R := R.put e; replace h3 := slot_on e h3 (by decide); replace h4 := slot_on e h4 (by decide); replace h9 := slot_on e h9 (by decide); replace h12 := slot_on e h12 (by decide); replace h13 := slot_on e h13 (by decide); replace h100 := slot_on e h100 (by decide); replace h101 := slot_on e h101 (by decide); replace h102 := slot_on e h102 (by decide); replace h103 := slot_on e h103 (by decide); replace h104 := slot_on e h104 (by decide); replace h105 := slot_on e h105 (by decide); replace h106 := slot_on e h106 (by decide); replace h107 := slot_on e h107 (by decide); replace h108 := slot_on e h108 (by decide); replace h109 := slot_on e h109 (by decide); replace h110 := slot_on e h110 (by decide); replace h111 := slot_on e h111 (by decide); have h112 := g112; clear g112; clear e
    have Y : (execOp a70.eval o7_19_1).run Try.prog w11 = .ok (.value (.int .i64 ((j : Int) + 1))) w11 := by unfold o7_19_1; go_simp
    refine st_val g7_19_1 rfl (wanted_free rfl) Y fun a72 e => ?_; clear Y
    have g102 := R.at_ e (by decide); replace R := R.put e; replace h3 := slot_on e h3 (by decide); replace h4 := slot_on e h4 (by decide); replace h9 := slot_on e h9 (by decide); replace h12 := slot_on e h12 (by decide); replace h13 := slot_on e h13 (by decide); replace h100 := slot_on e h100 (by decide); replace h101 := slot_on e h101 (by decide); replace h103 := slot_on e h103 (by decide); replace h104 := slot_on e h104 (by decide); replace h105 := slot_on e h105 (by decide); replace h106 := slot_on e h106 (by decide); replace h107 := slot_on e h107 (by decide); replace h108 := slot_on e h108 (by decide); replace h109 := slot_on e h109 (by decide); replace h110 := slot_on e h110 (by decide); replace h111 := slot_on e h111 (by decide); replace h112 := slot_on e h112 (by decide); clear h102; have h102 := g102; clear g102; clear e
    refine st_end ?_
    exact ⟨_, by omega, j + 1, rfl, R, h3, h4, h9, h100, h101, h102, K1, K2, K3, B1, B2, (by omega)⟩

set_option maxRecDepth 100000 in
set_option maxHeartbeats 4000000 in
theorem ow9 {W : World} {a b c : Tm} {aa ab ac : Option Addr} {ca cb cc : Nat} {m : Int} {xr : Tm} {L : Nat} {zs zd : Int} {f0 : Act} {w0 : World} {b1 : Nat} (R : FrS 125 f0) (h3 : f0.tmps[3]? = some (.int .i64 m)) (h4 : f0.tmps[4]? = some (.pointer (some ⟨b1, 0, none⟩))) (K1 : Keep (fun g => g < W.heap.size) W w0) (B1 : Blk w0 b1 24 #[.int .i64 a.k, .string (str a.nm), .int .i64 a.i, .slice aa a.args.length ca]) (HA : Hid (TmAt W.heap.size W a aa ca)) (HREN : Hid (∀ V, Keep (fun g => g < W.heap.size) W V → 1 ≤ m → m ≤ 1152921504606846976 → Calls Try.prog 32 #[.agg #[.int .i64 a.k, .string (str a.nm), .int .i64 a.i, .slice aa a.args.length ca], .int .i64 m] V fun e w' => ∃ ax cx, e = .returned (.tuple #[.agg #[.int .i64 xr.k, .string (str xr.nm), .int .i64 xr.i, .slice ax xr.args.length cx], .int .i64 (m + (L : Int)), .int .i64 0]) ∧ TmAt w'.heap.size w' xr ax cx ∧ Keep (fun g => g < V.heap.size) V w')) (HP : Hid (1 ≤ m → Hid (vtV a xr = true) ∧ Hid ((vaV a).length = L) ∧ Hid (L ≤ 2000) ∧ Hid (∃ l : List Int, vaV xr = l ∧ l.length = L ∧ ∀ i : Nat, i < L → l[i]? = some (m + i)) ∧ Hid (xr.size = zs ∧ a.size = zs ∧ xr.depth = zd ∧ a.depth = zd))) : c7_34.wp Try.prog (bodyPost Try.prog Try.f7 (fun e w' => e = .returned (.bool true) ∧ Keep (fun g => g < W.heap.size) W w')) f0 w0 := by
  refine wp_seq (x := c7_35) (y := c7_42) ?_
  refine wp_seq (x := c7_36) (y := c7_37) ?_
  change (Code.region 9 O7_9 false).wp _ _ _ _
  refine reg_in (l := [0, 1, 2, 3, 4, 5]) rfl ?_
  have Y : (execOp f0.eval o7_9_0).run Try.prog w0 = .ok (.value (.int .i64 m)) w0 := by unfold o7_9_0; go_simp
  refine st_val g7_9_0 rfl (wanted_free rfl) Y fun a74 e => ?_; clear Y
  have g69 := R.at_ e (by decide); replace R := R.put e; replace h3 := slot_on e h3 (by decide); replace h4 := slot_on e h4 (by decide); have h69 := g69; clear g69; clear e
  obtain ⟨b76, hb76⟩ : ∃ x, (decide ((m : Int) < (1 : Int))) = x := ⟨_, rfl⟩
  have Y : (execOp a74.eval o7_9_1).run Try.prog w0 = .ok (.value (.bool b76)) w0 := by rw [← hb76]; unfold o7_9_1; go_simp
  refine st_val g7_9_1 rfl (wanted_free rfl) Y fun a77 e => ?_; clear Y
  have g70 := R.at_ e (by decide); replace R := R.put e; replace h3 := slot_on e h3 (by decide); replace h4 := slot_on e h4 (by decide); clear h69; have h70 := g70; clear g70; clear e
  have Y : (execOp a77.eval o7_9_2).run Try.prog w0 = .ok (.value (.bool b76)) w0 := by unfold o7_9_2; go_simp
  refine st_val g7_9_2 rfl (wanted_free rfl) Y fun a79 e => ?_; clear Y
  have g71 := R.at_ e (by decide); replace R := R.put e; replace h3 := slot_on e h3 (by decide); replace h4 := slot_on e h4 (by decide); clear h70; have h71 := g71; clear g71; clear e
  cases b76 with
  | false =>
    have fb76 := hb76; clear hb76
    simp only [decide_eq_true_eq, decide_eq_false_iff_not, Bool.not_eq_true', Bool.not_eq_false', Bool.not_eq_eq_eq_not, Bool.not_true, Bool.not_false] at fb76
    have Y : (execOp a79.eval o7_9_3).run Try.prog w0 = .ok (.value (.int .i64 m)) w0 := by unfold o7_9_3; go_simp
    refine st_val g7_9_3 rfl (wanted_is (j := 2) (d := 71) rfl rfl h71 rfl) Y fun a81 e => ?_; clear Y
    have g72 := R.at_ e (by decide); replace R := R.put e; replace h3 := slot_on e h3 (by decide); replace h4 := slot_on e h4 (by decide); replace h71 := slot_on e h71 (by decide); have h72 := g72; clear g72; clear e
    obtain ⟨b83, hb83⟩ : ∃ x, (decide ((1152921504606846976 : Int) < (m : Int))) = x := ⟨_, rfl⟩
    have Y : (execOp a81.eval o7_9_4).run Try.prog w0 = .ok (.value (.bool b83)) w0 := by rw [← hb83]; unfold o7_9_4; go_simp
    refine st_val g7_9_4 rfl (wanted_is (j := 2) (d := 71) rfl rfl h71 rfl) Y fun a84 e => ?_; clear Y
    have g73 := R.at_ e (by decide); replace R := R.put e; replace h3 := slot_on e h3 (by decide); replace h4 := slot_on e h4 (by decide); replace h71 := slot_on e h71 (by decide); clear h72; have h73 := g73; clear g73; clear e
    have Y : (execOp a84.eval o7_9_5).run Try.prog w0 = .ok (.value (.bool b83)) w0 := by unfold o7_9_5; go_simp
    refine st_val g7_9_5 rfl (wanted_free rfl) Y fun a86 e => ?_; clear Y
    have g74 := R.at_ e (by decide); replace R := R.put e; replace h3 := slot_on e h3 (by decide); replace h4 := slot_on e h4 (by decide); clear h71 h73; have h74 := g74; clear g74; clear e
    refine st_end ?_
    change (c7_37).wp _ _ _ _
    cases b83 with
    | false =>
      have fb83 := hb83; clear hb83
      simp only [decide_eq_true_eq, decide_eq_false_iff_not, Bool.not_eq_true', Bool.not_eq_false', Bool.not_eq_eq_eq_not, Bool.not_true, Bool.not_false] at fb83
      refine wp_cond_false (x := c7_38) (y := Code.skip) (eval_slot h74) ?_
      refine wp_skip ?_
      change (c7_42).wp _ _ _ _
      refine wp_seq (x := c7_43) (y := c7_44) ?_
      change (Code.region 11 O7_11 false).wp _ _ _ _
      refine reg_in (l := [0, 1, 2, 3, 4, 5, 6, 7, 8, 9, 10]) rfl ?_
      have Y : (execOp a86.eval o7_11_0).run Try.prog w0 = .ok (.value (.agg #[.int .i64 a.k, .string (str a.nm), .int .i64 a.i, .slice aa a.args.length ca])) w0 := by have q0 : w0.cell? ⟨b1, 0, none⟩ = some (.int .i64 a.k) := B1.cell 0; have q1 : w0.cell? ⟨b1, 1, none⟩ = some (.string (str a.nm)) := B1.cell 1; have q2 : w0.cell? ⟨b1, 2, none⟩ = some (.int .i64 a.i) := B1.cell 2; have q3 : w0.cell? ⟨b1, 3, none⟩ = some (.slice aa a.args.length ca) := B1.cell 3; unfold o7_11_0; go_simp
      refine st_val g7_11_0 rfl (wanted_free rfl) Y fun a88 e => ?_; clear Y
      have g76 := R.at_ e (by decide); replace R := R.put e; replace h3 := slot_on e h3 (by decide); replace h4 := slot_on e h4 (by decide); clear h74; have h76 := g76; clear g76; clear e
      have Y : (execOp a88.eval o7_11_1).run Try.prog w0 = .ok (.value (.int .i64 m)) w0 := by unfold o7_11_1; go_simp
      refine st_val g7_11_1 rfl (wanted_free rfl) Y fun a90 e => ?_; clear Y
      have g77 := R.at_ e (by decide); replace R := R.put e; replace h3 := slot_on e h3 (by decide); replace h4 := slot_on e h4 (by decide); replace h76 := slot_on e h76 (by decide); have h77 := g77; clear g77; clear e
      have Y : (execOp a90.eval o7_11_2).run Try.prog w0 = .ok (.enter 32 #[.agg #[.int .i64 a.k, .string (str a.nm), .int .i64 a.i, .slice aa a.args.length ca], .int .i64 m]) w0 := by unfold o7_11_2; go_simp
      obtain ⟨HVT, HVA, HL, HV, HS⟩ := HP.out (by omega)
      refine st_call g7_11_2 rfl (wanted_free rfl) Y ((HREN.out _ K1 (by omega) (by omega)).mono ?_); clear Y
      rintro e9 w92 ⟨ax, cx, rfl, hx, kk⟩
      replace K1 := keep_onto K1 kk
      replace B1 := blk_on B1 kk
      clear kk
      have HX := Lib.hid hx; clear hx
      have K2 := Keep.refl (fun g => g < w92.heap.size) w92
      refine ⟨_, rfl, fun a93 e => ?_⟩
      have g78 := R.at_ e (by decide); replace R := R.put e; replace h3 := slot_on e h3 (by decide); replace h4 := slot_on e h4 (by decide); clear h76 h77; have h78 := g78; clear g78; clear e
      have Y : (execOp a93.eval o7_11_3).run Try.prog w92 = .ok (.value (.tuple #[.agg #[.int .i64 xr.k, .string (str xr.nm), .int .i64 xr.i, .slice ax xr.args.length cx], .int .i64 (m + (L : Int)), .int .i64 0])) w92 := by unfold o7_11_3; go_simp
      refine st_val g7_11_3 rfl (wanted_free rfl) Y fun a95 e => ?_; clear Y
      have g75 := R.at_ e (by decide); replace R := R.put e; replace h3 := slot_on e h3 (by decide); replace h4 := slot_on e h4 (by decide); clear h78; have h75 := g75; clear g75; clear e
      have Y : (execOp a95.eval o7_11_4).run Try.prog w92 = .ok (.value (.agg #[.int .i64 xr.k, .string (str xr.nm), .int .i64 xr.i, .slice ax xr.args.length cx])) w92 := by unfold o7_11_4; go_simp
      refine st_val g7_11_4 rfl (wanted_free rfl) Y fun a97 e => ?_; clear Y
      have g79 := R.at_ e (by decide); replace R := R.put e; replace h3 := slot_on e h3 (by decide); replace h4 := slot_on e h4 (by decide); replace h75 := slot_on e h75 (by decide); have h79 := g79; clear g79; clear e
      have Y : (execOp a97.eval o7_11_5).run Try.prog w92 = .ok (.value (.int .i64 (m + (L : Int)))) w92 := by unfold o7_11_5; go_simp
      refine st_val g7_11_5 rfl (wanted_free rfl) Y fun a99 e => ?_; clear Y
      have g80 := R.at_ e (by decide); replace R := R.put e; replace h3 := slot_on e h3 (by decide); replace h4 := slot_on e h4 (by decide); replace h75 := slot_on e h75 (by decide); replace h79 := slot_on e h79 (by decide); have h80 := g80; clear g80; clear e
      have Y : (execOp a99.eval o7_11_6).run Try.prog w92 = .ok (.value (.int .i64 0)) w92 := by unfold o7_11_6; go_simp
      refine st_val g7_11_6 rfl (wanted_free rfl) Y fun a101 e => ?_; clear Y
      have g81 := R.at_ e (by decide); replace R := R.put e; replace h3 := slot_on e h3 (by decide); replace h4 := slot_on e h4 (by decide); replace h79 := slot_on e h79 (by decide); replace h80 := slot_on e h80 (by decide); clear h75; have h81 := g81; clear g81; clear e
      have MK1 := K1
      have MK2 := K2
      have Y : (execOp a101.eval o7_11_7).run Try.prog w92 = .ok (.value (.pointer (some ⟨w92.heap.size, 0, none⟩))) (w92.alloc (.cells #[.int .i64 0, .string (⟨#[]⟩), .int .i64 0, .slice none 0 0] 24)) := by unfold o7_11_7; go_simp
      have B103 := Blk.new w92 24 #[.int .i64 0, .string (⟨#[]⟩), .int .i64 0, .slice none 0 0]
      replace K1 := K1.alloc (.cells #[.int .i64 0, .string (⟨#[]⟩), .int .i64 0, .slice none 0 0] 24)
      replace K2 := K2.alloc (.cells #[.int .i64 0, .string (⟨#[]⟩), .int .i64 0, .slice none 0 0] 24)
      have Nb1_b103 := Nat.ne_of_lt B1.lt; replace B1 := B1.alloc (.cells #[.int .i64 0, .string (⟨#[]⟩), .int .i64 0, .slice none 0 0] 24)
      obtain ⟨w104, hw104⟩ : ∃ x, x = w92.alloc (.cells #[.int .i64 0, .string (⟨#[]⟩), .int .i64 0, .slice none 0 0] 24) := ⟨_, rfl⟩
      rw [← hw104] at Y B103 K1 K2 B1
      obtain ⟨b103, hb103⟩ : ∃ x, x = w92.heap.size := ⟨_, rfl⟩
      rw [← hb103] at Y B103 Nb1_b103
      have LK1_b103 : W.heap.size ≤ b103 := by rw [hb103]; first | exact Nat.le_refl _ | exact MK1.size
      have LK2_b103 : w92.heap.size ≤ b103 := by rw [hb103]; first | exact Nat.le_refl _ | exact MK2.size
      clear hw104 hb103 MK1 MK2
      refine st_val g7_11_7 rfl (wanted_free rfl) Y fun a105 e => ?_; clear Y
      have g9 := R.at_ e (by decide); replace R := R.put e; replace h3 := slot_on e h3 (by decide); replace h4 := slot_on e h4 (by decide); replace h79 := slot_on e h79 (by decide); replace h80 := slot_on e h80 (by decide); replace h81 := slot_on e h81 (by decide); have h9 := g9; clear g9; clear e
      have Y : (execOp a105.eval o7_11_8).run Try.prog w104 = .ok .skip ((((w104.setCell ⟨b103, 0, none⟩ (.int .i64 xr.k)).setCell ⟨b103, 1, none⟩ (.string (str xr.nm))).setCell ⟨b103, 2, none⟩ (.int .i64 xr.i)).setCell ⟨b103, 3, none⟩ (.slice ax xr.args.length cx)) := by have q0 : w104.cell? ⟨b103, 0, none⟩ = some (.int .i64 0) := B103.cell 0; have q1 : w104.cell? ⟨b103, 1, none⟩ = some (.string (⟨#[]⟩)) := B103.cell 1; have q2 : w104.cell? ⟨b103, 2, none⟩ = some (.int .i64 0) := B103.cell 2; have q3 : w104.cell? ⟨b103, 3, none⟩ = some (.slice none 0 0) := B103.cell 3; have z0 := B103.frozen 0; have z1 := B103.frozen 1; have z2 := B103.frozen 2; have z3 := B103.frozen 3; unfold o7_11_8; go_simp
      replace K1 := ((((K1.setCell (p := ⟨b103, 0, none⟩) (Nat.not_lt.2 LK1_b103) (.int .i64 xr.k)).setCell (p := ⟨b103, 1, none⟩) (Nat.not_lt.2 LK1_b103) (.string (str xr.nm))).setCell (p := ⟨b103, 2, none⟩) (Nat.not_lt.2 LK1_b103) (.int .i64 xr.i)).setCell (p := ⟨b103, 3, none⟩) (Nat.not_lt.2 LK1_b103) (.slice ax xr.args.length cx))
      replace K2 := ((((K2.setCell (p := ⟨b103, 0, none⟩) (Nat.not_lt.2 LK2_b103) (.int .i64 xr.k)).setCell (p := ⟨b103, 1, none⟩) (Nat.not_lt.2 LK2_b103) (.string (str xr.nm))).setCell (p := ⟨b103, 2, none⟩) (Nat.not_lt.2 LK2_b103) (.int .i64 xr.i)).setCell (p := ⟨b103, 3, none⟩) (Nat.not_lt.2 LK2_b103) (.slice ax xr.args.length cx))
      replace B1 := ((((B1.far (p := ⟨b103, 0, none⟩) Nb1_b103 (.int .i64 xr.k)).far (p := ⟨b103, 1, none⟩) Nb1_b103 (.string (str xr.nm))).far (p := ⟨b103, 2, none⟩) Nb1_b103 (.int .i64 xr.i)).far (p := ⟨b103, 3, none⟩) Nb1_b103 (.slice ax xr.args.length cx))
      replace B103 : Blk ((((w104.setCell ⟨b103, 0, none⟩ (.int .i64 xr.k)).setCell ⟨b103, 1, none⟩ (.string (str xr.nm))).setCell ⟨b103, 2, none⟩ (.int .i64 xr.i)).setCell ⟨b103, 3, none⟩ (.slice ax xr.args.length cx)) b103 24 #[.int .i64 xr.k, .string (str xr.nm), .int .i64 xr.i, .slice ax xr.args.length cx] := ((((B103.set_ 0 (.int .i64 xr.k)).set_ 1 (.string (str xr.nm))).set_ 2 (.int .i64 xr.i)).set_ 3 (.slice ax xr.args.length cx))
      generalize ((((w104.setCell ⟨b103, 0, none⟩ (.int .i64 xr.k)).setCell ⟨b103, 1, none⟩ (.string (str xr.nm))).setCell ⟨b103, 2, none⟩ (.int .i64 xr.i)).setCell ⟨b103, 3, none⟩ (.slice ax xr.args.length cx)) = w107 at Y K1 K2 B1 B103
      refine st_skip g7_11_8 rfl (wanted_free rfl) Y ?_; clear Y
      have Y : (execOp a105.eval o7_11_9).run Try.prog w107 = .ok (.value (.int .i64 (m + (L : Int)))) w107 := by unfold o7_11_9; go_simp
      refine st_val g7_11_9 rfl (wanted_free rfl) Y fun a108 e => ?_; clear Y
      have g10 := R.at_ e (by decide); replace R := R.put e; replace h3 := slot_on e h3 (by decide); replace h4 := slot_on e h4 (by decide); replace h9 := slot_on e h9 (by decide); replace h81 := slot_on e h81 (by decide); clear h79 h80; have h10 := g10; clear g10; clear e
      have Y : (execOp a108.eval o7_11_10).run Try.prog w107 = .ok (.value (.int .i64 0)) w107 := by unfold o7_11_10; go_simp
      refine st_val g7_11_10 rfl (wanted_free rfl) Y fun a110 e => ?_; clear Y
      have g11 := R.at_ e (by decide); replace R := R.put e; replace h3 := slot_on e h3 (by decide); replace h4 := slot_on e h4 (by decide); replace h9 := slot_on e h9 (by decide); replace h10 := slot_on e h10 (by decide); clear h81; have h11 := g11; clear g11; clear e
      refine st_end ?_
      change (c7_44).wp _ _ _ _
      refine wp_seq (x := c7_45) (y := c7_52) ?_
      refine wp_seq (x := c7_46) (y := c7_47) ?_
      change (Code.region 12 O7_12 false).wp _ _ _ _
      refine reg_in (l := [0, 1, 2, 3, 4, 5, 6, 7, 8, 9, 10, 11, 12, 13, 14, 15, 16]) rfl ?_
      have Y : (execOp a110.eval o7_12_0).run Try.prog w107 = .ok (.value (.int .i64 0)) w107 := by unfold o7_12_0; go_simp
      refine st_val g7_12_0 rfl (wanted_free rfl) Y fun a112 e => ?_; clear Y
      have g82 := R.at_ e (by decide); replace R := R.put e; replace h3 := slot_on e h3 (by decide); replace h4 := slot_on e h4 (by decide); replace h9 := slot_on e h9 (by decide); replace h10 := slot_on e h10 (by decide); clear h11; have h82 := g82; clear g82; clear e
      have Y : (execOp a112.eval o7_12_1).run Try.prog w107 = .ok (.value (.bool false)) w107 := by unfold o7_12_1; go_simp
      refine st_val g7_12_1 rfl (wanted_free rfl) Y fun a114 e => ?_; clear Y
      have g83 := R.at_ e (by decide); replace R := R.put e; replace h3 := slot_on e h3 (by decide); replace h4 := slot_on e h4 (by decide); replace h9 := slot_on e h9 (by decide); replace h10 := slot_on e h10 (by decide); clear h82; have h83 := g83; clear g83; clear e
      have Y : (execOp a114.eval o7_12_2).run Try.prog w107 = .ok (.value (.bool false)) w107 := by unfold o7_12_2; go_simp
      refine st_val g7_12_2 rfl (wanted_free rfl) Y fun a116 e => ?_; clear Y
      have g84 := R.at_ e (by decide); replace R := R.put e; replace h3 := slot_on e h3 (by decide); replace h4 := slot_on e h4 (by decide); replace h9 := slot_on e h9 (by decide); replace h10 := slot_on e h10 (by decide); clear h83; have h84 := g84; clear g84; clear e
      have Y : (execOp a116.eval o7_12_3).run Try.prog w107 = .ok (.value (.agg #[.int .i64 a.k, .string (str a.nm), .int .i64 a.i, .slice aa a.args.length ca])) w107 := by have q0 : w107.cell? ⟨b1, 0, none⟩ = some (.int .i64 a.k) := B1.cell 0; have q1 : w107.cell? ⟨b1, 1, none⟩ = some (.string (str a.nm)) := B1.cell 1; have q2 : w107.cell? ⟨b1, 2, none⟩ = some (.int .i64 a.i) := B1.cell 2; have q3 : w107.cell? ⟨b1, 3, none⟩ = some (.slice aa a.args.length ca) := B1.cell 3; unfold o7_12_3; go_simp
      refine st_val g7_12_3 rfl (wanted_is (j := 2) (d := 84) rfl rfl h84 rfl) Y fun a118 e => ?_; clear Y
      have g85 := R.at_ e (by decide); replace R := R.put e; replace h3 := slot_on e h3 (by decide); replace h4 := slot_on e h4 (by decide); replace h9 := slot_on e h9 (by decide); replace h10 := slot_on e h10 (by decide); replace h84 := slot_on e h84 (by decide); have h85 := g85; clear g85; clear e
      have Y : (execOp a118.eval o7_12_4).run Try.prog w107 = .ok (.value (.agg #[.int .i64 xr.k, .string (str xr.nm), .int .i64 xr.i, .slice ax xr.args.length cx])) w107 := by have q0 : w107.cell? ⟨b103, 0, none⟩ = some (.int .i64 xr.k) := B103.cell 0; have q1 : w107.cell? ⟨b103, 1, none⟩ = some (.string (str xr.nm)) := B103.cell 1; have q2 : w107.cell? ⟨b103, 2, none⟩ = some (.int .i64 xr.i) := B103.cell 2; have q3 : w107.cell? ⟨b103, 3, none⟩ = some (.slice ax xr.args.length cx) := B103.cell 3; unfold o7_12_4; go_simp
      refine st_val g7_12_4 rfl (wanted_is (j := 2) (d := 84) rfl rfl h84 rfl) Y fun a120 e => ?_; clear Y
      have g86 := R.at_ e (by decide); replace R := R.put e; replace h3 := slot_on e h3 (by decide); replace h4 := slot_on e h4 (by decide); replace h9 := slot_on e h9 (by decide); replace h10 := slot_on e h10 (by decide); replace h84 := slot_on e h84 (by decide); replace h85 := slot_on e h85 (by decide); have h86 := g86; clear g86; clear e
      have Y : (execOp a120.eval o7_12_5).run Try.prog w107 = .ok (.enter 21 #[.agg #[.int .i64 a.k, .string (str a.nm), .int .i64 a.i, .slice aa a.args.length ca], .agg #[.int .i64 xr.k, .string (str xr.nm), .int .i64 xr.i, .slice ax xr.args.length cx]]) w107 := by unfold o7_12_5; go_simp
      have hvt := Variant_any (HA.out.on K1) (HX.out.on K2); rw [HVT.out] at hvt
      refine st_call g7_12_5 rfl (wanted_is (j := 2) (d := 84) rfl rfl h84 rfl) Y ((hvt).mono ?_); clear Y
      rintro e9 w122 ⟨rfl, kk⟩
      replace K1 := keep_onto K1 kk
      replace K2 := keep_onto K2 kk
      replace B1 := blk_on B1 kk
      replace B103 := blk_on B103 kk
      clear kk
      clear hvt
      refine ⟨_, rfl, fun a123 e => ?_⟩
      have g87 := R.at_ e (by decide); replace R := R.put e; replace h3 := slot_on e h3 (by decide); replace h4 := slot_on e h4 (by decide); replace h9 := slot_on e h9 (by decide); replace h10 := slot_on e h10 (by decide); replace h84 := slot_on e h84 (by decide); clear h85 h86; have h87 := g87; clear g87; clear e
      have Y : (execOp a123.eval o7_12_6).run Try.prog w122 = .ok (.value (.bool false)) w122 := by unfold o7_12_6; go_simp
      refine st_val g7_12_6 rfl (wanted_is (j := 2) (d := 84) rfl rfl h84 rfl) Y fun a125 e => ?_; clear Y
      have g88 := R.at_ e (by decide); replace R := R.put e; replace h3 := slot_on e h3 (by decide); replace h4 := slot_on e h4 (by decide); replace h9 := slot_on e h9 (by decide); replace h10 := slot_on e h10 (by decide); replace h84 := slot_on e h84 (by decide); clear h87; have h88 := g88; clear g88; clear e
      have Y : (execOp a125.eval o7_12_7).run Try.prog w122 = .ok (.value (.bool false)) w122 := by unfold o7_12_7; go_simp
      refine st_val g7_12_7 rfl (wanted_free rfl) Y fun a127 e => ?_; clear Y
      have g89 := R.at_ e (by decide); replace R := R.put e; replace h3 := slot_on e h3 (by decide); replace h4 := slot_on e h4 (by decide); replace h9 := slot_on e h9 (by decide); replace h10 := slot_on e h10 (by decide); clear h84 h88; have h89 := g89; clear g89; clear e
      have Y : (execOp a127.eval o7_12_8).run Try.prog w122 = .ok (.value (.bool false)) w122 := by unfold o7_12_8; go_simp
      refine st_val g7_12_8 rfl (wanted_free rfl) Y fun a129 e => ?_; clear Y
      have g90 := R.at_ e (by decide); replace R := R.put e; replace h3 := slot_on e h3 (by decide); replace h4 := slot_on e h4 (by decide); replace h9 := slot_on e h9 (by decide); replace h10 := slot_on e h10 (by decide); clear h89; have h90 := g90; clear g90; clear e
      have Y : (execOp a129.eval o7_12_9).run Try.prog w122 = .ok (.value (.int .i64 (m + (L : Int)))) w122 := by unfold o7_12_9; go_simp
      refine st_val g7_12_9 rfl (wanted_is (j := 8) (d := 90) rfl rfl h90 rfl) Y fun a131 e => ?_; clear Y
      have g91 := R.at_ e (by decide); replace R := R.put e; replace h3 := slot_on e h3 (by decide); replace h4 := slot_on e h4 (by decide); replace h9 := slot_on e h9 (by decide); replace h90 := slot_on e h90 (by decide); clear h10; have h91 := g91; clear g91; clear e
      have Y : (execOp a131.eval o7_12_10).run Try.prog w122 = .ok (.value (.int .i64 m)) w122 := by unfold o7_12_10; go_simp
      refine st_val g7_12_10 rfl (wanted_is (j := 8) (d := 90) rfl rfl h90 rfl) Y fun a133 e => ?_; clear Y
      have g92 := R.at_ e (by decide); replace R := R.put e; replace h3 := slot_on e h3 (by decide); replace h4 := slot_on e h4 (by decide); replace h9 := slot_on e h9 (by decide); replace h90 := slot_on e h90 (by decide); replace h91 := slot_on e h91 (by decide); have h92 := g92; clear g92; clear e
      have Y : (execOp a133.eval o7_12_11).run Try.prog w122 = .ok (.value (.agg #[.int .i64 a.k, .string (str a.nm), .int .i64 a.i, .slice aa a.args.length ca])) w122 := by have q0 : w122.cell? ⟨b1, 0, none⟩ = some (.int .i64 a.k) := B1.cell 0; have q1 : w122.cell? ⟨b1, 1, none⟩ = some (.string (str a.nm)) := B1.cell 1; have q2 : w122.cell? ⟨b1, 2, none⟩ = some (.int .i64 a.i) := B1.cell 2; have q3 : w122.cell? ⟨b1, 3, none⟩ = some (.slice aa a.args.length ca) := B1.cell 3; unfold o7_12_11; go_simp
      refine st_val g7_12_11 rfl (wanted_is (j := 8) (d := 90) rfl rfl h90 rfl) Y fun a135 e => ?_; clear Y
      have g93 := R.at_ e (by decide); replace R := R.put e; replace h3 := slot_on e h3 (by decide); replace h4 := slot_on e h4 (by decide); replace h9 := slot_on e h9 (by decide); replace h90 := slot_on e h90 (by decide); replace h91 := slot_on e h91 (by decide); replace h92 := slot_on e h92 (by decide); have h93 := g93; clear g93; clear e
      have Y : (execOp a135.eval o7_12_12).run Try.prog w122 = .ok (.enter 18 #[.agg #[.int .i64 a.k, .string (str a.nm), .int .i64 a.i, .slice aa a.args.length ca]]) w122 := by unfold o7_12_12; go_simp
      refine st_call g7_12_12 rfl (wanted_is (j := 8) (d := 90) rfl rfl h90 rfl) Y ((vars_sx (HA.out.on K1) rfl HVA.out).mono ?_); clear Y
      rintro e9 w137 ⟨gb, ub, uc, rfl, hrow, kk⟩
      replace K1 := keep_onto K1 kk
      replace K2 := keep_onto K2 kk
      replace B1 := blk_on B1 kk
      replace B103 := blk_on B103 kk
      clear kk
      clear hrow
      refine ⟨_, rfl, fun a138 e => ?_⟩
      have g94 := R.at_ e (by decide); replace R := R.put e; replace h3 := slot_on e h3 (by decide); replace h4 := slot_on e h4 (by decide); replace h9 := slot_on e h9 (by decide); replace h90 := slot_on e h90 (by decide); replace h91 := slot_on e h91 (by decide); replace h92 := slot_on e h92 (by decide); clear h93; have h94 := g94; clear g94; clear e
      have Y : (execOp a138.eval o7_12_13).run Try.prog w137 = .ok (.value (.int .i64 L)) w137 := by unfold o7_12_13; go_simp
      refine st_val g7_12_13 rfl (wanted_is (j := 8) (d := 90) rfl rfl h90 rfl) Y fun a140 e => ?_; clear Y
      have g95 := R.at_ e (by decide); replace R := R.put e; replace h3 := slot_on e h3 (by decide); replace h4 := slot_on e h4 (by decide); replace h9 := slot_on e h9 (by decide); replace h90 := slot_on e h90 (by decide); replace h91 := slot_on e h91 (by decide); replace h92 := slot_on e h92 (by decide); clear h94; have h95 := g95; clear g95; clear e
      have Y : (execOp a140.eval o7_12_14).run Try.prog w137 = .ok (.value (.int .i64 (m + (L : Int)))) w137 := by have hw9 : IntKind.i64.wrap (m + (L : Int)) = m + L := (by have := HL.out; rw [IntKind.wrap_i64]; omega); unfold o7_12_14; go_simp
      refine st_val g7_12_14 rfl (wanted_is (j := 8) (d := 90) rfl rfl h90 rfl) Y fun a142 e => ?_; clear Y
      have g96 := R.at_ e (by decide); replace R := R.put e; replace h3 := slot_on e h3 (by decide); replace h4 := slot_on e h4 (by decide); replace h9 := slot_on e h9 (by decide); replace h90 := slot_on e h90 (by decide); replace h91 := slot_on e h91 (by decide); clear h92 h95; have h96 := g96; clear g96; clear e
      have Y : (execOp a142.eval o7_12_15).run Try.prog w137 = .ok (.value (.bool false)) w137 := by unfold o7_12_15; go_simp
      refine st_val g7_12_15 rfl (wanted_is (j := 8) (d := 90) rfl rfl h90 rfl) Y fun a144 e => ?_; clear Y
      have g97 := R.at_ e (by decide); replace R := R.put e; replace h3 := slot_on e h3 (by decide); replace h4 := slot_on e h4 (by decide); replace h9 := slot_on e h9 (by decide); replace h90 := slot_on e h90 (by decide); clear h91 h96; have h97 := g97; clear g97; clear e
      have Y : (execOp a144.eval o7_12_16).run Try.prog w137 = .ok (.value (.bool false)) w137 := by unfold o7_12_16; go_simp
      refine st_val g7_12_16 rfl (wanted_free rfl) Y fun a146 e => ?_; clear Y
      have g98 := R.at_ e (by decide); replace R := R.put e; replace h3 := slot_on e h3 (by decide); replace h4 := slot_on e h4 (by decide); replace h9 := slot_on e h9 (by decide); clear h90 h97; have h98 := g98; clear g98; clear e
      refine st_end ?_
      change (c7_47).wp _ _ _ _
      refine wp_cond_false (x := c7_48) (y := Code.skip) (eval_slot h98) ?_
      refine wp_skip ?_
      exact ow14 (a := a) (b := b) (c := c) (aa := aa) (ab := ab) (ac := ac) (ca := ca) (cb := cb) (cc := cc) R h3 h4 h9 K1 B1 B103 HA HX K2 (Lib.hid (by omega)) HL HV HS
    | true =>
      have fb83 := hb83; clear hb83
      simp only [decide_eq_true_eq, decide_eq_false_iff_not, Bool.not_eq_true', Bool.not_eq_false', Bool.not_eq_eq_eq_not, Bool.not_true, Bool.not_false] at fb83
      refine wp_cond_true (x := c7_38) (y := Code.skip) (eval_slot h74) ?_
      refine wp_seq (x := c7_39) (y := Code.ret) ?_
      change (Code.region 10 O7_10 false).wp _ _ _ _
      refine reg_in (l := [0]) rfl ?_
      have Y : (execOp a86.eval o7_10_0).run Try.prog w0 = .ok (.value (.bool true)) w0 := by unfold o7_10_0; go_simp
      refine st_val g7_10_0 rfl (wanted_free rfl) Y fun a148 e => ?_; clear Y
      have g8 := R.at_ e (by decide); replace R := R.put e; replace h3 := slot_on e h3 (by decide); replace h4 := slot_on e h4 (by decide); clear h74; have h8 := g8; clear g8; clear e
      refine st_end ?_
      change (Code.ret).wp _ _ _ _
      refine wp_ret ?_
      change bodyPost Try.prog Try.f7 (fun e w' => e = .returned (.bool true) ∧ Keep (fun g => g < W.heap.size) W w') .ret a148 w0
      refine ret_one rfl R h8 ?_
      exact ⟨rfl, K1⟩
  | true =>
    have fb76 := hb76; clear hb76
    simp only [decide_eq_true_eq, decide_eq_false_iff_not, Bool.not_eq_true', Bool.not_eq_false', Bool.not_eq_eq_eq_not, Bool.not_true, Bool.not_false] at fb76
    refine st_not g7_9_3 rfl (wanted_is (j := 2) (d := 71) rfl rfl h71 rfl) fun a150 e => ?_
    have g72 := R.at_ e (by decide); replace R := R.put e; replace h3 := slot_on e h3 (by decide); replace h4 := slot_on e h4 (by decide); replace h71 := slot_on e h71 (by decide); have h72 := g72; clear g72; clear e
    refine st_not g7_9_4 rfl (wanted_is (j := 2) (d := 71) rfl rfl h71 rfl) fun a152 e => ?_
    have g73 := R.at_ e (by decide); replace R := R.put e; replace h3 := slot_on e h3 (by decide); replace h4 := slot_on e h4 (by decide); replace h71 := slot_on e h71 (by decide); clear h72; have h73 := g73; clear g73; clear e
    have Y : (execOp a152.eval o7_9_5).run Try.prog w0 = .ok (.value (.bool true)) w0 := by unfold o7_9_5; go_simp
    refine st_val g7_9_5 rfl (wanted_free rfl) Y fun a154 e => ?_; clear Y
    have g74 := R.at_ e (by decide); replace R := R.put e; replace h3 := slot_on e h3 (by decide); replace h4 := slot_on e h4 (by decide); clear h71 h73; have h74 := g74; clear g74; clear e
    refine st_end ?_
    change (c7_37).wp _ _ _ _
    refine wp_cond_true (x := c7_38) (y := Code.skip) (eval_slot h74) ?_
    refine wp_seq (x := c7_39) (y := Code.ret) ?_
    change (Code.region 10 O7_10 false).wp _ _ _ _
    refine reg_in (l := [0]) rfl ?_
    have Y : (execOp a154.eval o7_10_0).run Try.prog w0 = .ok (.value (.bool true)) w0 := by unfold o7_10_0; go_simp
    refine st_val g7_10_0 rfl (wanted_free rfl) Y fun a156 e => ?_; clear Y
    have g8 := R.at_ e (by decide); replace R := R.put e; replace h3 := slot_on e h3 (by decide); replace h4 := slot_on e h4 (by decide); clear h74; have h8 := g8; clear g8; clear e
    refine st_end ?_
    change (Code.ret).wp _ _ _ _
    refine wp_ret ?_
    change bodyPost Try.prog Try.f7 (fun e w' => e = .returned (.bool true) ∧ Keep (fun g => g < W.heap.size) W w') .ret a156 w0
    refine ret_one rfl R h8 ?_
    exact ⟨rfl, K1⟩

set_option maxRecDepth 100000 in
set_option maxHeartbeats 4000000 in
theorem ow7 {W : World} {a b c : Tm} {aa ab ac : Option Addr} {ca cb cc : Nat} {m : Int} {xr : Tm} {L : Nat} {zs zd za zb zc : Int} {f0 : Act} {w0 : World} {b1 : Nat} {b2 : Nat} {b3 : Nat} (R : FrS 125 f0) (h3 : f0.tmps[3]? = some (.int .i64 m)) (h4 : f0.tmps[4]? = some (.pointer (some ⟨b1, 0, none⟩))) (h5 : f0.tmps[5]? = some (.pointer (some ⟨b2, 0, none⟩))) (h6 : f0.tmps[6]? = some (.pointer (some ⟨b3, 0, none⟩))) (K1 : Keep (fun g => g < W.heap.size) W w0) (B1 : Blk w0 b1 24 #[.int .i64 a.k, .string (str a.nm), .int .i64 a.i, .slice aa a.args.length ca]) (B2 : Blk w0 b2 24 #[.int .i64 b.k, .string (str b.nm), .int .i64 b.i, .slice ab b.args.length cb]) (B3 : Blk w0 b3 24 #[.int .i64 c.k, .string (str c.nm), .int .i64 c.i, .slice ac c.args.length cc]) (HA : Hid (TmAt W.heap.size W a aa ca)) (HREN : Hid (∀ V, Keep (fun g => g < W.heap.size) W V → 1 ≤ m → m ≤ 1152921504606846976 → Calls Try.prog 32 #[.agg #[.int .i64 a.k, .string (str a.nm), .int .i64 a.i, .slice aa a.args.length ca], .int .i64 m] V fun e w' => ∃ ax cx, e = .returned (.tuple #[.agg #[.int .i64 xr.k, .string (str xr.nm), .int .i64 xr.i, .slice ax xr.args.length cx], .int .i64 (m + (L : Int)), .int .i64 0]) ∧ TmAt w'.heap.size w' xr ax cx ∧ Keep (fun g => g < V.heap.size) V w')) (HP : Hid (1 ≤ m → Hid (vtV a xr = true) ∧ Hid ((vaV a).length = L) ∧ Hid (L ≤ 2000) ∧ Hid (∃ l : List Int, vaV xr = l ∧ l.length = L ∧ ∀ i : Nat, i < L → l[i]? = some (m + i)) ∧ Hid (xr.size = zs ∧ a.size = zs ∧ xr.depth = zd ∧ a.depth = zd))) (HB : Hid (TmAt W.heap.size W b ab cb)) (HC : Hid (TmAt W.heap.size W c ac cc)) (HOab : Hid (ordV a b = za)) (HObc : Hid (ordV b c = zb)) (HOac : Hid (ordV a c = zc)) (HTR : Hid (za ≤ 0 → zb ≤ 0 → zc ≤ 0)) : c7_26.wp Try.prog (bodyPost Try.prog Try.f7 (fun e w' => e = .returned (.bool true) ∧ Keep (fun g => g < W.heap.size) W w')) f0 w0 := by
  refine wp_seq (x := c7_27) (y := c7_34) ?_
  refine wp_seq (x := c7_28) (y := c7_29) ?_
  change (Code.region 7 O7_7 false).wp _ _ _ _
  refine reg_in (l := [0, 1, 2, 3, 4, 5, 6, 7, 8, 9, 10, 11, 12, 13, 14, 15]) rfl ?_
  have Y : (execOp f0.eval o7_7_0).run Try.prog w0 = .ok (.value (.agg #[.int .i64 a.k, .string (str a.nm), .int .i64 a.i, .slice aa a.args.length ca])) w0 := by have q0 : w0.cell? ⟨b1, 0, none⟩ = some (.int .i64 a.k) := B1.cell 0; have q1 : w0.cell? ⟨b1, 1, none⟩ = some (.string (str a.nm)) := B1.cell 1; have q2 : w0.cell? ⟨b1, 2, none⟩ = some (.int .i64 a.i) := B1.cell 2; have q3 : w0.cell? ⟨b1, 3, none⟩ = some (.slice aa a.args.length ca) := B1.cell 3; unfold o7_7_0; go_simp
  refine st_val g7_7_0 rfl (wanted_free rfl) Y fun a158 e => ?_; clear Y
  have g53 := R.at_ e (by decide); replace R := R.put e; replace h3 := slot_on e h3 (by decide); replace h4 := slot_on e h4 (by decide); replace h5 := slot_on e h5 (by decide); replace h6 := slot_on e h6 (by decide); have h53 := g53; clear g53; clear e
  have Y : (execOp a158.eval o7_7_1).run Try.prog w0 = .ok (.value (.agg #[.int .i64 b.k, .string (str b.nm), .int .i64 b.i, .slice ab b.args.length cb])) w0 := by have q0 : w0.cell? ⟨b2, 0, none⟩ = some (.int .i64 b.k) := B2.cell 0; have q1 : w0.cell? ⟨b2, 1, none⟩ = some (.string (str b.nm)) := B2.cell 1; have q2 : w0.cell? ⟨b2, 2, none⟩ = some (.int .i64 b.i) := B2.cell 2; have q3 : w0.cell? ⟨b2, 3, none⟩ = some (.slice ab b.args.length cb) := B2.cell 3; unfold o7_7_1; go_simp
  refine st_val g7_7_1 rfl (wanted_free rfl) Y fun a160 e => ?_; clear Y
  have g54 := R.at_ e (by decide); replace R := R.put e; replace h3 := slot_on e h3 (by decide); replace h4 := slot_on e h4 (by decide); replace h5 := slot_on e h5 (by decide); replace h6 := slot_on e h6 (by decide); replace h53 := slot_on e h53 (by decide); have h54 := g54; clear g54; clear e
  have Y : (execOp a160.eval o7_7_2).run Try.prog w0 = .ok (.enter 20 #[.agg #[.int .i64 a.k, .string (str a.nm), .int .i64 a.i, .slice aa a.args.length ca], .agg #[.int .i64 b.k, .string (str b.nm), .int .i64 b.i, .slice ab b.args.length cb]]) w0 := by unfold o7_7_2; go_simp
  have hord := Order_any (HA.out.on K1) (HB.out.on K1); rw [HOab.out] at hord
  refine st_call g7_7_2 rfl (wanted_free rfl) Y ((hord).mono ?_); clear Y
  rintro e9 w162 ⟨rfl, kk⟩
  replace K1 := keep_onto K1 kk
  replace B1 := blk_on B1 kk
  replace B2 := blk_on B2 kk
  replace B3 := blk_on B3 kk
  clear kk
  clear hord
  refine ⟨_, rfl, fun a163 e => ?_⟩
  have g55 := R.at_ e (by decide); replace R := R.put e; replace h3 := slot_on e h3 (by decide); replace h4 := slot_on e h4 (by decide); replace h5 := slot_on e h5 (by decide); replace h6 := slot_on e h6 (by decide); clear h53 h54; have h55 := g55; clear g55; clear e
  obtain ⟨b165, hb165⟩ : ∃ x, (decide ((za : Int) ≤ (0 : Int))) = x := ⟨_, rfl⟩
  have Y : (execOp a163.eval o7_7_3).run Try.prog w162 = .ok (.value (.bool b165)) w162 := by rw [← hb165]; unfold o7_7_3; go_simp
  refine st_val g7_7_3 rfl (wanted_free rfl) Y fun a166 e => ?_; clear Y
  have g56 := R.at_ e (by decide); replace R := R.put e; replace h3 := slot_on e h3 (by decide); replace h4 := slot_on e h4 (by decide); replace h5 := slot_on e h5 (by decide); replace h6 := slot_on e h6 (by decide); clear h55; have h56 := g56; clear g56; clear e
  have Y : (execOp a166.eval o7_7_4).run Try.prog w162 = .ok (.value (.bool b165)) w162 := by unfold o7_7_4; go_simp
  refine st_val g7_7_4 rfl (wanted_free rfl) Y fun a168 e => ?_; clear Y
  have g57 := R.at_ e (by decide); replace R := R.put e; replace h3 := slot_on e h3 (by decide); replace h4 := slot_on e h4 (by decide); replace h5 := slot_on e h5 (by decide); replace h6 := slot_on e h6 (by decide); clear h56; have h57 := g57; clear g57; clear e
  cases b165 with
  | false =>
    have fb165 := hb165; clear hb165
    simp only [decide_eq_true_eq, decide_eq_false_iff_not, Bool.not_eq_true', Bool.not_eq_false', Bool.not_eq_eq_eq_not, Bool.not_true, Bool.not_false] at fb165
    refine st_not g7_7_5 rfl (wanted_is (j := 4) (d := 57) rfl rfl h57 rfl) fun a170 e => ?_
    have g58 := R.at_ e (by decide); replace R := R.put e; replace h3 := slot_on e h3 (by decide); replace h4 := slot_on e h4 (by decide); replace h6 := slot_on e h6 (by decide); replace h57 := slot_on e h57 (by decide); clear h5; have h58 := g58; clear g58; clear e
    refine st_not g7_7_6 rfl (wanted_is (j := 4) (d := 57) rfl rfl h57 rfl) fun a172 e => ?_
    have g59 := R.at_ e (by decide); replace R := R.put e; replace h3 := slot_on e h3 (by decide); replace h4 := slot_on e h4 (by decide); replace h6 := slot_on e h6 (by decide); replace h57 := slot_on e h57 (by decide); replace h58 := slot_on e h58 (by decide); have h59 := g59; clear g59; clear e
    refine st_not g7_7_7 rfl (wanted_is (j := 4) (d := 57) rfl rfl h57 rfl) fun a174 e => ?_
    have g60 := R.at_ e (by decide); replace R := R.put e; replace h3 := slot_on e h3 (by decide); replace h4 := slot_on e h4 (by decide); replace h6 := slot_on e h6 (by decide); replace h57 := slot_on e h57 (by decide); clear h58 h59; have h60 := g60; clear g60; clear e
    refine st_not g7_7_8 rfl (wanted_is (j := 4) (d := 57) rfl rfl h57 rfl) fun a176 e => ?_
    have g61 := R.at_ e (by decide); replace R := R.put e; replace h3 := slot_on e h3 (by decide); replace h4 := slot_on e h4 (by decide); replace h6 := slot_on e h6 (by decide); replace h57 := slot_on e h57 (by decide); clear h60; have h61 := g61; clear g61; clear e
    have Y : (execOp a176.eval o7_7_9).run Try.prog w162 = .ok (.value (.bool false)) w162 := by unfold o7_7_9; go_simp
    refine st_val g7_7_9 rfl (wanted_free rfl) Y fun a178 e => ?_; clear Y
    have g62 := R.at_ e (by decide); replace R := R.put e; replace h3 := slot_on e h3 (by decide); replace h4 := slot_on e h4 (by decide); replace h6 := slot_on e h6 (by decide); clear h57 h61; have h62 := g62; clear g62; clear e
    have Y : (execOp a178.eval o7_7_10).run Try.prog w162 = .ok (.value (.bool false)) w162 := by unfold o7_7_10; go_simp
    refine st_val g7_7_10 rfl (wanted_free rfl) Y fun a180 e => ?_; clear Y
    have g63 := R.at_ e (by decide); replace R := R.put e; replace h3 := slot_on e h3 (by decide); replace h4 := slot_on e h4 (by decide); replace h6 := slot_on e h6 (by decide); clear h62; have h63 := g63; clear g63; clear e
    refine st_not g7_7_11 rfl (wanted_is (j := 10) (d := 63) rfl rfl h63 rfl) fun a182 e => ?_
    have g64 := R.at_ e (by decide); replace R := R.put e; replace h3 := slot_on e h3 (by decide); replace h4 := slot_on e h4 (by decide); replace h6 := slot_on e h6 (by decide); replace h63 := slot_on e h63 (by decide); have h64 := g64; clear g64; clear e
    refine st_not g7_7_12 rfl (wanted_is (j := 10) (d := 63) rfl rfl h63 rfl) fun a184 e => ?_
    have g65 := R.at_ e (by decide); replace R := R.put e; replace h3 := slot_on e h3 (by decide); replace h4 := slot_on e h4 (by decide); replace h63 := slot_on e h63 (by decide); replace h64 := slot_on e h64 (by decide); clear h6; have h65 := g65; clear g65; clear e
    refine st_not g7_7_13 rfl (wanted_is (j := 10) (d := 63) rfl rfl h63 rfl) fun a186 e => ?_
    have g66 := R.at_ e (by decide); replace R := R.put e; replace h3 := slot_on e h3 (by decide); replace h4 := slot_on e h4 (by decide); replace h63 := slot_on e h63 (by decide); clear h64 h65; have h66 := g66; clear g66; clear e
    refine st_not g7_7_14 rfl (wanted_is (j := 10) (d := 63) rfl rfl h63 rfl) fun a188 e => ?_
    have g67 := R.at_ e (by decide); replace R := R.put e; replace h3 := slot_on e h3 (by decide); replace h4 := slot_on e h4 (by decide); replace h63 := slot_on e h63 (by decide); clear h66; have h67 := g67; clear g67; clear e
    have Y : (execOp a188.eval o7_7_15).run Try.prog w162 = .ok (.value (.bool false)) w162 := by unfold o7_7_15; go_simp
    refine st_val g7_7_15 rfl (wanted_free rfl) Y fun a190 e => ?_; clear Y
    have g68 := R.at_ e (by decide); replace R := R.put e; replace h3 := slot_on e h3 (by decide); replace h4 := slot_on e h4 (by decide); clear h63 h67; have h68 := g68; clear g68; clear e
    refine st_end ?_
    change (c7_29).wp _ _ _ _
    refine wp_cond_false (x := c7_30) (y := Code.skip) (eval_slot h68) ?_
    refine wp_skip ?_
    exact ow9 (a := a) (b := b) (c := c) (aa := aa) (ab := ab) (ac := ac) (ca := ca) (cb := cb) (cc := cc) R h3 h4 K1 B1 HA HREN HP
  | true =>
    have fb165 := hb165; clear hb165
    simp only [decide_eq_true_eq, decide_eq_false_iff_not, Bool.not_eq_true', Bool.not_eq_false', Bool.not_eq_eq_eq_not, Bool.not_true, Bool.not_false] at fb165
    have Y : (execOp a168.eval o7_7_5).run Try.prog w162 = .ok (.value (.agg #[.int .i64 b.k, .string (str b.nm), .int .i64 b.i, .slice ab b.args.length cb])) w162 := by have q0 : w162.cell? ⟨b2, 0, none⟩ = some (.int .i64 b.k) := B2.cell 0; have q1 : w162.cell? ⟨b2, 1, none⟩ = some (.string (str b.nm)) := B2.cell 1; have q2 : w162.cell? ⟨b2, 2, none⟩ = some (.int .i64 b.i) := B2.cell 2; have q3 : w162.cell? ⟨b2, 3, none⟩ = some (.slice ab b.args.length cb) := B2.cell 3; unfold o7_7_5; go_simp
    refine st_val g7_7_5 rfl (wanted_is (j := 4) (d := 57) rfl rfl h57 rfl) Y fun a192 e => ?_; clear Y
    have g58 := R.at_ e (by decide); replace R := R.put e; replace h3 := slot_on e h3 (by decide); replace h4 := slot_on e h4 (by decide); replace h6 := slot_on e h6 (by decide); replace h57 := slot_on e h57 (by decide); clear h5; have h58 := g58; clear g58; clear e
    have Y : (execOp a192.eval o7_7_6).run Try.prog w162 = .ok (.value (.agg #[.int .i64 c.k, .string (str c.nm), .int .i64 c.i, .slice ac c.args.length cc])) w162 := by have q0 : w162.cell? ⟨b3, 0, none⟩ = some (.int .i64 c.k) := B3.cell 0; have q1 : w162.cell? ⟨b3, 1, none⟩ = some (.string (str c.nm)) := B3.cell 1; have q2 : w162.cell? ⟨b3, 2, none⟩ = some (.int .i64 c.i) := B3.cell 2; have q3 : w162.cell? ⟨b3, 3, none⟩ = some (.slice ac c.args.length cc) := B3.cell 3; unfold o7_7_6; go_simp
    refine st_val g7_7_6 rfl (wanted_is (j := 4) (d := 57) rfl rfl h57 rfl) Y fun a194 e => ?_; clear Y
    have g59 := R.at_ e (by decide); replace R := R.put e; replace h3 := slot_on e h3 (by decide); replace h4 := slot_on e h4 (by decide); replace h6 := slot_on e h6 (by decide); replace h57 := slot_on e h57 (by decide); replace h58 := slot_on e h58 (by decide); have h59 := g59; clear g59; clear e
    have Y : (execOp a194.eval o7_7_7).run Try.prog w162 = .ok (.enter 20 #[.agg #[.int .i64 b.k, .string (str b.nm), .int .i64 b.i, .slice ab b.args.length cb], .agg #[.int .i64 c.k, .string (str c.nm), .int .i64 c.i, .slice ac c.args.length cc]]) w162 := by unfold o7_7_7; go_simp
    have hord := Order_any (HB.out.on K1) (HC.out.on K1); rw [HObc.out] at hord
    refine st_call g7_7_7 rfl (wanted_is (j := 4) (d := 57) rfl rfl h57 rfl) Y ((hord).mono ?_); clear Y
    rintro e9 w196 ⟨rfl, kk⟩
    replace K1 := keep_onto K1 kk
    replace B1 := blk_on B1 kk
    replace B2 := blk_on B2 kk
    replace B3 := blk_on B3 kk
    clear kk
    clear hord
    refine ⟨_, rfl, fun a197 e => ?_⟩
    have g60 := R.at_ e (by decide); replace R := R.put e; replace h3 := slot_on e h3 (by decide); replace h4 := slot_on e h4 (by decide); replace h6 := slot_on e h6 (by decide); replace h57 := slot_on e h57 (by decide); clear h58 h59; have h60 := g60; clear g60; clear e
    obtain ⟨b199, hb199⟩ : ∃ x, (decide ((zb : Int) ≤ (0 : Int))) = x := ⟨_, rfl⟩
    have Y : (execOp a197.eval o7_7_8).run Try.prog w196 = .ok (.value (.bool b199)) w196 := by rw [← hb199]; unfold o7_7_8; go_simp
    refine st_val g7_7_8 rfl (wanted_is (j := 4) (d := 57) rfl rfl h57 rfl) Y fun a200 e => ?_; clear Y
    have g61 := R.at_ e (by decide); replace R := R.put e; replace h3 := slot_on e h3 (by decide); replace h4 := slot_on e h4 (by decide); replace h6 := slot_on e h6 (by decide); replace h57 := slot_on e h57 (by decide); clear h60; have h61 := g61; clear g61; clear e
    have Y : (execOp a200.eval o7_7_9).run Try.prog w196 = .ok (.value (.bool b199)) w196 := by unfold o7_7_9; go_simp
    refine st_val g7_7_9 rfl (wanted_free rfl) Y fun a202 e => ?_; clear Y
    have g62 := R.at_ e (by decide); replace R := R.put e; replace h3 := slot_on e h3 (by decide); replace h4 := slot_on e h4 (by decide); replace h6 := slot_on e h6 (by decide); clear h57 h61; have h62 := g62; clear g62; clear e
    have Y : (execOp a202.eval o7_7_10).run Try.prog w196 = .ok (.value (.bool b199)) w196 := by unfold o7_7_10; go_simp
    refine st_val g7_7_10 rfl (wanted_free rfl) Y fun a204 e => ?_; clear Y
    have g63 := R.at_ e (by decide); replace R := R.put e; replace h3 := slot_on e h3 (by decide); replace h4 := slot_on e h4 (by decide); replace h6 := slot_on e h6 (by decide); clear h62; have h63 := g63; clear g63; clear e
    cases b199 with
    | false =>
      have fb199 := hb199; clear hb199
      simp only [decide_eq_true_eq, decide_eq_false_iff_not, Bool.not_eq_true', Bool.not_eq_false', Bool.not_eq_eq_eq_not, Bool.not_true, Bool.not_false] at fb199
      refine st_not g7_7_11 rfl (wanted_is (j := 10) (d := 63) rfl rfl h63 rfl) fun a206 e => ?_
      have g64 := R.at_ e (by decide); replace R := R.put e; replace h3 := slot_on e h3 (by decide); replace h4 := slot_on e h4 (by decide); replace h6 := slot_on e h6 (by decide); replace h63 := slot_on e h63 (by decide); have h64 := g64; clear g64; clear e
      refine st_not g7_7_12 rfl (wanted_is (j := 10) (d := 63) rfl rfl h63 rfl) fun a208 e => ?_
      have g65 := R.at_ e (by decide); replace R := R.put e; replace h3 := slot_on e h3 (by decide); replace h4 := slot_on e h4 (by decide); replace h63 := slot_on e h63 (by decide); replace h64 := slot_on e h64 (by decide); clear h6; have h65 := g65; clear g65; clear e
      refine st_not g7_7_13 rfl (wanted_is (j := 10) (d := 63) rfl rfl h63 rfl) fun a210 e => ?_
      have g66 := R.at_ e (by decide); replace R := R.put e; replace h3 := slot_on e h3 (by decide); replace h4 := slot_on e h4 (by decide); replace h63 := slot_on e h63 (by decide); clear h64 h65; have h66 := g66; clear g66; clear e
      refine st_not g7_7_14 rfl (wanted_is (j := 10) (d := 63) rfl rfl h63 rfl) fun a212 e => ?_
      have g67 := R.at_ e (by decide); replace R := R.put e; replace h3 := slot_on e h3 (by decide); replace h4 := slot_on e h4 (by decide); replace h63 := slot_on e h63 (by decide); clear h66; have h67 := g67; clear g67; clear e
      have Y : (execOp a212.eval o7_7_15).run Try.prog w196 = .ok (.value (.bool false)) w196 := by unfold o7_7_15; go_simp
      refine st_val g7_7_15 rfl (wanted_free rfl) Y fun a214 e => ?_; clear Y
      have g68 := R.at_ e (by decide); replace R := R.put e; replace h3 := slot_on e h3 (by decide); replace h4 := slot_on e h4 (by decide); clear h63 h67; have h68 := g68; clear g68; clear e
      refine st_end ?_
      change (c7_29).wp _ _ _ _
      refine wp_cond_false (x := c7_30) (y := Code.skip) (eval_slot h68) ?_
      refine wp_skip ?_
      exact ow9 (a := a) (b := b) (c := c) (aa := aa) (ab := ab) (ac := ac) (ca := ca) (cb := cb) (cc := cc) R h3 h4 K1 B1 HA HREN HP
    | true =>
      have fb199 := hb199; clear hb199
      simp only [decide_eq_true_eq, decide_eq_false_iff_not, Bool.not_eq_true', Bool.not_eq_false', Bool.not_eq_eq_eq_not, Bool.not_true, Bool.not_false] at fb199
      have Y : (execOp a204.eval o7_7_11).run Try.prog w196 = .ok (.value (.agg #[.int .i64 a.k, .string (str a.nm), .int .i64 a.i, .slice aa a.args.length ca])) w196 := by have q0 : w196.cell? ⟨b1, 0, none⟩ = some (.int .i64 a.k) := B1.cell 0; have q1 : w196.cell? ⟨b1, 1, none⟩ = some (.string (str a.nm)) := B1.cell 1; have q2 : w196.cell? ⟨b1, 2, none⟩ = some (.int .i64 a.i) := B1.cell 2; have q3 : w196.cell? ⟨b1, 3, none⟩ = some (.slice aa a.args.length ca) := B1.cell 3; unfold o7_7_11; go_simp
      refine st_val g7_7_11 rfl (wanted_is (j := 10) (d := 63) rfl rfl h63 rfl) Y fun a216 e => ?_; clear Y
      have g64 := R.at_ e (by decide); replace R := R.put e; replace h3 := slot_on e h3 (by decide); replace h4 := slot_on e h4 (by decide); replace h6 := slot_on e h6 (by decide); replace h63 := slot_on e h63 (by decide); have h64 := g64; clear g64; clear e
      have Y : (execOp a216.eval o7_7_12).run Try.prog w196 = .ok (.value (.agg #[.int .i64 c.k, .string (str c.nm), .int .i64 c.i, .slice ac c.args.length cc])) w196 := by have q0 : w196.cell? ⟨b3, 0, none⟩ = some (.int .i64 c.k) := B3.cell 0; have q1 : w196.cell? ⟨b3, 1, none⟩ = some (.string (str c.nm)) := B3.cell 1; have q2 : w196.cell? ⟨b3, 2, none⟩ = some (.int .i64 c.i) := B3.cell 2; have q3 : w196.cell? ⟨b3, 3, none⟩ = some (.slice ac c.args.length cc) := B3.cell 3; unfold o7_7_12; go_simp
      refine st_val g7_7_12 rfl (wanted_is (j := 10) (d := 63) rfl rfl h63 rfl) Y fun a218 e => ?_; clear Y
      have g65 := R.at_ e (by decide); replace R := R.put e; replace h3 := slot_on e h3 (by decide); replace h4 := slot_on e h4 (by decide); replace h63 := slot_on e h63 (by decide); replace h64 := slot_on e h64 (by decide); clear h6; have h65 := g65; clear g65; clear e
      have Y : (execOp a218.eval o7_7_13).run Try.prog w196 = .ok (.enter 20 #[.agg #[.int .i64 a.k, .string (str a.nm), .int .i64 a.i, .slice aa a.args.length ca], .agg #[.int .i64 c.k, .string (str c.nm), .int .i64 c.i, .slice ac c.args.length cc]]) w196 := by unfold o7_7_13; go_simp
      have hord := Order_any (HA.out.on K1) (HC.out.on K1); rw [HOac.out] at hord
      refine st_call g7_7_13 rfl (wanted_is (j := 10) (d := 63) rfl rfl h63 rfl) Y ((hord).mono ?_); clear Y
      rintro e9 w220 ⟨rfl, kk⟩
      replace K1 := keep_onto K1 kk
      replace B1 := blk_on B1 kk
      replace B2 := blk_on B2 kk
      replace B3 := blk_on B3 kk
      clear kk
      clear hord
      refine ⟨_, rfl, fun a221 e => ?_⟩
      have g66 := R.at_ e (by decide); replace R := R.put e; replace h3 := slot_on e h3 (by decide); replace h4 := slot_on e h4 (by decide); replace h63 := slot_on e h63 (by decide); clear h64 h65; have h66 := g66; clear g66; clear e
      obtain ⟨b223, hb223⟩ : ∃ x, (decide ((0 : Int) < (zc : Int))) = x := ⟨_, rfl⟩
      have Y : (execOp a221.eval o7_7_14).run Try.prog w220 = .ok (.value (.bool b223)) w220 := by rw [← hb223]; unfold o7_7_14; go_simp
      refine st_val g7_7_14 rfl (wanted_is (j := 10) (d := 63) rfl rfl h63 rfl) Y fun a224 e => ?_; clear Y
      have g67 := R.at_ e (by decide); replace R := R.put e; replace h3 := slot_on e h3 (by decide); replace h4 := slot_on e h4 (by decide); replace h63 := slot_on e h63 (by decide); clear h66; have h67 := g67; clear g67; clear e
      have Y : (execOp a224.eval o7_7_15).run Try.prog w220 = .ok (.value (.bool b223)) w220 := by unfold o7_7_15; go_simp
      refine st_val g7_7_15 rfl (wanted_free rfl) Y fun a226 e => ?_; clear Y
      have g68 := R.at_ e (by decide); replace R := R.put e; replace h3 := slot_on e h3 (by decide); replace h4 := slot_on e h4 (by decide); clear h63 h67; have h68 := g68; clear g68; clear e
      refine st_end ?_
      change (c7_29).wp _ _ _ _
      cases b223 with
      | false =>
        have fb223 := hb223; clear hb223
        simp only [decide_eq_true_eq, decide_eq_false_iff_not, Bool.not_eq_true', Bool.not_eq_false', Bool.not_eq_eq_eq_not, Bool.not_true, Bool.not_false] at fb223
        refine wp_cond_false (x := c7_30) (y := Code.skip) (eval_slot h68) ?_
        refine wp_skip ?_
        exact ow9 (a := a) (b := b) (c := c) (aa := aa) (ab := ab) (ac := ac) (ca := ca) (cb := cb) (cc := cc) R h3 h4 K1 B1 HA HREN HP
      | true =>
        have fb223 := hb223; clear hb223
        simp only [decide_eq_true_eq, decide_eq_false_iff_not, Bool.not_eq_true', Bool.not_eq_false', Bool.not_eq_eq_eq_not, Bool.not_true, Bool.not_false] at fb223
        refine wp_cond_true (x := c7_30) (y := Code.skip) (eval_slot h68) ?_
        refine wp_seq (x := c7_31) (y := Code.ret) ?_
        change (Code.region 8 O7_8 false).wp _ _ _ _
        refine reg_in (l := [0]) rfl ?_
        have Y : (execOp a226.eval o7_8_0).run Try.prog w220 = .ok (.value (.bool false)) w220 := by unfold o7_8_0; go_simp
        refine st_val g7_8_0 rfl (wanted_free rfl) Y fun a228 e => ?_; clear Y
        have g8 := R.at_ e (by decide); replace R := R.put e; replace h3 := slot_on e h3 (by decide); replace h4 := slot_on e h4 (by decide); clear h68; have h8 := g8; clear g8; clear e
        refine st_end ?_
        change (Code.ret).wp _ _ _ _
        refine wp_ret ?_
        change bodyPost Try.prog Try.f7 (fun e w' => e = .returned (.bool true) ∧ Keep (fun g => g < W.heap.size) W w') .ret a228 w220
        refine ret_one rfl R h8 ?_
        exact absurd (HTR.out (by omega) (by omega)) (by omega)

set_option maxRecDepth 100000 in
set_option maxHeartbeats 4000000 in
theorem ow5_p {W : World} {a b c : Tm} {aa ab ac : Option Addr} {ca cb cc : Nat} {m : Int} {xr : Tm} {L : Nat} {zs zd zb zc : Int} {f0 : Act} {w0 : World} {b1 : Nat} {b2 : Nat} {b3 : Nat} (R : FrS 125 f0) (h3 : f0.tmps[3]? = some (.int .i64 m)) (h4 : f0.tmps[4]? = some (.pointer (some ⟨b1, 0, none⟩))) (h5 : f0.tmps[5]? = some (.pointer (some ⟨b2, 0, none⟩))) (h6 : f0.tmps[6]? = some (.pointer (some ⟨b3, 0, none⟩))) (K1 : Keep (fun g => g < W.heap.size) W w0) (B1 : Blk w0 b1 24 #[.int .i64 a.k, .string (str a.nm), .int .i64 a.i, .slice aa a.args.length ca]) (B2 : Blk w0 b2 24 #[.int .i64 b.k, .string (str b.nm), .int .i64 b.i, .slice ab b.args.length cb]) (B3 : Blk w0 b3 24 #[.int .i64 c.k, .string (str c.nm), .int .i64 c.i, .slice ac c.args.length cc]) (HA : Hid (TmAt W.heap.size W a aa ca)) (HREN : Hid (∀ V, Keep (fun g => g < W.heap.size) W V → 1 ≤ m → m ≤ 1152921504606846976 → Calls Try.prog 32 #[.agg #[.int .i64 a.k, .string (str a.nm), .int .i64 a.i, .slice aa a.args.length ca], .int .i64 m] V fun e w' => ∃ ax cx, e = .returned (.tuple #[.agg #[.int .i64 xr.k, .string (str xr.nm), .int .i64 xr.i, .slice ax xr.args.length cx], .int .i64 (m + (L : Int)), .int .i64 0]) ∧ TmAt w'.heap.size w' xr ax cx ∧ Keep (fun g => g < V.heap.size) V w')) (HP : Hid (1 ≤ m → Hid (vtV a xr = true) ∧ Hid ((vaV a).length = L) ∧ Hid (L ≤ 2000) ∧ Hid (∃ l : List Int, vaV xr = l ∧ l.length = L ∧ ∀ i : Nat, i < L → l[i]? = some (m + i)) ∧ Hid (xr.size = zs ∧ a.size = zs ∧ xr.depth = zd ∧ a.depth = zd))) (HB : Hid (TmAt W.heap.size W b ab cb)) (HC : Hid (TmAt W.heap.size W c ac cc)) (HOab : Hid (ordV a b = 1)) (HObc : Hid (ordV b c = zb)) (HOac : Hid (ordV a c = zc)) (HOba : Hid (ordV b a = -1)) (HOaa : Hid (ordV a a = 0)) (HSM : Hid (sameV a b = false)) (HTR : Hid ((1 : Int) ≤ 0 → zb ≤ 0 → zc ≤ 0)) : c7_18.wp Try.prog (bodyPost Try.prog Try.f7 (fun e w' => e = .returned (.bool true) ∧ Keep (fun g => g < W.heap.size) W w')) f0 w0 := by
  refine wp_seq (x := c7_19) (y := c7_26) ?_
  refine wp_seq (x := c7_20) (y := c7_21) ?_
  change (Code.region 5 O7_5 true).wp _ _ _ _
  have D232 := B1
  have D233 := B2
  have D234 := B3
  have K230 := (Keep.refl (fun g => g < w0.heap.size) w0).drew
  refine dr_in (S := (fun W => Keep (fun g => g < w0.heap.size) w0 W)) (n := 24) (l := #[false, false, false, false, false, false, false, false, false, false, false, false, false, false, false, false, false, false, false, false, false, false, false, false]) (by kernel_rfl) K230 rfl rfl ?_
  replace K1 := K1.drew
  replace B1 := B1.drew
  replace B2 := B2.drew
  replace B3 := B3.drew
  generalize w0.drew = w231 at K230 K1 B1 B2 B3 ⊢
  have Y : ∀ W, Keep (fun g => g < w0.heap.size) w0 W → (execOp f0.eval o7_5_0).run Try.prog W = .ok (.value (.agg #[.int .i64 a.k, .string (str a.nm), .int .i64 a.i, .slice aa a.args.length ca])) W := by intro W7 hS; have D := D232.keep hS D232.lt; have q0 : W7.cell? ⟨b1, 0, none⟩ = some (.int .i64 a.k) := D.cell 0; have q1 : W7.cell? ⟨b1, 1, none⟩ = some (.string (str a.nm)) := D.cell 1; have q2 : W7.cell? ⟨b1, 2, none⟩ = some (.int .i64 a.i) := D.cell 2; have q3 : W7.cell? ⟨b1, 3, none⟩ = some (.slice aa a.args.length ca) := D.cell 3; unfold o7_5_0; go_simp
  refine dr_take (i := 0) (fuel := 23) (l' := #[true, false, false, false, false, false, false, false, false, false, false, false, false, false, false, false, false, false, false, false, false, false, false, false]) g7_5_0 rfl ns7_5 (by kernel_rfl) (by kernel_rfl) rfl (wanted_free rfl) K230 Y fun a235 e => ?_; clear Y
  have g29 := R.at_ e (by decide); replace R := R.put e; replace h3 := slot_on e h3 (by decide); replace h4 := slot_on e h4 (by decide); replace h5 := slot_on e h5 (by decide); replace h6 := slot_on e h6 (by decide); have h29 := g29; clear g29; clear e
  have Y : ∀ W, Keep (fun g => g < w0.heap.size) w0 W → (execOp a235.eval o7_5_1).run Try.prog W = .ok (.value (.agg #[.int .i64 b.k, .string (str b.nm), .int .i64 b.i, .slice ab b.args.length cb])) W := by intro W7 hS; have D := D233.keep hS D233.lt; have q0 : W7.cell? ⟨b2, 0, none⟩ = some (.int .i64 b.k) := D.cell 0; have q1 : W7.cell? ⟨b2, 1, none⟩ = some (.string (str b.nm)) := D.cell 1; have q2 : W7.cell? ⟨b2, 2, none⟩ = some (.int .i64 b.i) := D.cell 2; have q3 : W7.cell? ⟨b2, 3, none⟩ = some (.slice ab b.args.length cb) := D.cell 3; unfold o7_5_1; go_simp
  refine dr_take (i := 1) (fuel := 22) (l' := #[true, true, false, false, false, false, false, false, false, false, false, false, false, false, false, false, false, false, false, false, false, false, false, false]) g7_5_1 rfl ns7_5 (by kernel_rfl) (by kernel_rfl) rfl (wanted_free rfl) K230 Y fun a237 e => ?_; clear Y
  have g30 := R.at_ e (by decide); replace R := R.put e; replace h3 := slot_on e h3 (by decide); replace h4 := slot_on e h4 (by decide); replace h5 := slot_on e h5 (by decide); replace h6 := slot_on e h6 (by decide); replace h29 := slot_on e h29 (by decide); have h30 := g30; clear g30; clear e
  have Y : ∀ W, Keep (fun g => g < w0.heap.size) w0 W → (execOp a237.eval o7_5_3).run Try.prog W = .ok (.value (.agg #[.int .i64 b.k, .string (str b.nm), .int .i64 b.i, .slice ab b.args.length cb])) W := by intro W7 hS; have D := D233.keep hS D233.lt; have q0 : W7.cell? ⟨b2, 0, none⟩ = some (.int .i64 b.k) := D.cell 0; have q1 : W7.cell? ⟨b2, 1, none⟩ = some (.string (str b.nm)) := D.cell 1; have q2 : W7.cell? ⟨b2, 2, none⟩ = some (.int .i64 b.i) := D.cell 2; have q3 : W7.cell? ⟨b2, 3, none⟩ = some (.slice ab b.args.length cb) := D.cell 3; unfold o7_5_3; go_simp
  refine dr_take (i := 3) (fuel := 21) (l' := #[true, true, false, true, false, false, false, false, false, false, false, false, false, false, false, false, false, false, false, false, false, false, false, false]) g7_5_3 rfl ns7_5 (by kernel_rfl) (by kernel_rfl) rfl (wanted_free rfl) K230 Y fun a239 e => ?_; clear Y
  have g32 := R.at_ e (by decide); replace R := R.put e; replace h3 := slot_on e h3 (by decide); replace h4 := slot_on e h4 (by decide); replace h5 := slot_on e h5 (by decide); replace h6 := slot_on e h6 (by decide); replace h29 := slot_on e h29 (by decide); replace h30 := slot_on e h30 (by decide); have h32 := g32; clear g32; clear e
  have Y : ∀ W, Keep (fun g => g < w0.heap.size) w0 W → (execOp a239.eval o7_5_4).run Try.prog W = .ok (.value (.agg #[.int .i64 a.k, .string (str a.nm), .int .i64 a.i, .slice aa a.args.length ca])) W := by intro W7 hS; have D := D232.keep hS D232.lt; have q0 : W7.cell? ⟨b1, 0, none⟩ = some (.int .i64 a.k) := D.cell 0; have q1 : W7.cell? ⟨b1, 1, none⟩ = some (.string (str a.nm)) := D.cell 1; have q2 : W7.cell? ⟨b1, 2, none⟩ = some (.int .i64 a.i) := D.cell 2; have q3 : W7.cell? ⟨b1, 3, none⟩ = some (.slice aa a.args.length ca) := D.cell 3; unfold o7_5_4; go_simp
  refine dr_take (i := 4) (fuel := 20) (l' := #[true, true, false, true, true, false, false, false, false, false, false, false, false, false, false, false, false, false, false, false, false, false, false, false]) g7_5_4 rfl ns7_5 (by kernel_rfl) (by kernel_rfl) rfl (wanted_free rfl) K230 Y fun a241 e => ?_; clear Y
  have g33 := R.at_ e (by decide); replace R := R.put e; replace h3 := slot_on e h3 (by decide); replace h4 := slot_on e h4 (by decide); replace h5 := slot_on e h5 (by decide); replace h6 := slot_on e h6 (by decide); replace h29 := slot_on e h29 (by decide); replace h30 := slot_on e h30 (by decide); replace h32 := slot_on e h32 (by decide); have h33 := g33; clear g33; clear e
  refine dr_only (i := 2) (fuel := 19) (by kernel_rfl) ?_
  have Y : (execOp a241.eval o7_5_2).run Try.prog w231 = .ok (.enter 20 #[.agg #[.int .i64 a.k, .string (str a.nm), .int .i64 a.i, .slice aa a.args.length ca], .agg #[.int .i64 b.k, .string (str b.nm), .int .i64 b.i, .slice ab b.args.length cb]]) w231 := by unfold o7_5_2; go_simp
  have hord := Order_any (HA.out.on K1) (HB.out.on K1); rw [HOab.out] at hord
  refine dr_call (l' := #[true, true, true, true, true, false, false, false, false, false, false, false, false, false, false, false, false, false, false, false, false, false, false, false]) g7_5_2 rfl rfl (wanted_free rfl) Y ((hord).mono ?_); clear Y
  rintro e9 w243 ⟨rfl, kk⟩
  replace K1 := keep_onto K1 kk
  replace K230 := keep_onto K230 kk
  replace B1 := blk_on B1 kk
  replace B2 := blk_on B2 kk
  replace B3 := blk_on B3 kk
  clear kk
  clear hord
  refine ⟨_, rfl, K230, fun a244 e => ?_⟩
  have g31 := R.at_ e (by decide); replace R := R.put e; replace h3 := slot_on e h3 (by decide); replace h4 := slot_on e h4 (by decide); replace h5 := slot_on e h5 (by decide); replace h6 := slot_on e h6 (by decide); replace h32 := slot_on e h32 (by decide); replace h33 := slot_on e h33 (by decide); clear h29 h30; have h31 := g31; clear g31; clear e
  refine dr_only (i := 5) (fuel := 18) (by kernel_rfl) ?_
  have Y : (execOp a244.eval o7_5_5).run Try.prog w243 = .ok (.enter 20 #[.agg #[.int .i64 b.k, .string (str b.nm), .int .i64 b.i, .slice ab b.args.length cb], .agg #[.int .i64 a.k, .string (str a.nm), .int .i64 a.i, .slice aa a.args.length ca]]) w243 := by unfold o7_5_5; go_simp
  have hord := Order_any (HB.out.on K1) (HA.out.on K1); rw [HOba.out] at hord
  refine dr_call (l' := #[true, true, true, true, true, true, false, false, false, false, false, false, false, false, false, false, false, false, false, false, false, false, false, false]) g7_5_5 rfl rfl (wanted_free rfl) Y ((hord).mono ?_); clear Y
  rintro e9 w246 ⟨rfl, kk⟩
  replace K1 := keep_onto K1 kk
  replace K230 := keep_onto K230 kk
  replace B1 := blk_on B1 kk
  replace B2 := blk_on B2 kk
  replace B3 := blk_on B3 kk
  clear kk
  clear hord
  refine ⟨_, rfl, K230, fun a247 e => ?_⟩
  have g34 := R.at_ e (by decide); replace R := R.put e; replace h3 := slot_on e h3 (by decide); replace h4 := slot_on e h4 (by decide); replace h5 := slot_on e h5 (by decide); replace h6 := slot_on e h6 (by decide); replace h31 := slot_on e h31 (by decide); clear h32 h33; have h34 := g34; clear g34; clear e
  have Y : ∀ W, Keep (fun g => g < w0.heap.size) w0 W → (execOp a247.eval o7_5_6).run Try.prog W = .ok (.value (.int .i64 1)) W := by intro W7 hS; have hwr : IntKind.i64.wrap (1) = (1) := (by decide); unfold o7_5_6; go_simp
  refine dr_take (i := 6) (fuel := 17) (l' := #[true, true, true, true, true, true, true, false, false, false, false, false, false, false, false, false, false, false, false, false, false, false, false, false]) g7_5_6 rfl ns7_5 (by kernel_rfl) (by kernel_rfl) rfl (wanted_free rfl) K230 Y fun a249 e => ?_; clear Y
  have g35 := R.at_ e (by decide); replace R := R.put e; replace h3 := slot_on e h3 (by decide); replace h4 := slot_on e h4 (by decide); replace h5 := slot_on e h5 (by decide); replace h6 := slot_on e h6 (by decide); replace h31 := slot_on e h31 (by decide); clear h34; have h35 := g35; clear g35; clear e
  have Y : ∀ W, Keep (fun g => g < w0.heap.size) w0 W → (execOp a249.eval o7_5_7).run Try.prog W = .ok (.value (.bool false)) W := by intro W7 hS; unfold o7_5_7; go_simp
  refine dr_take (i := 7) (fuel := 16) (l' := #[true, true, true, true, true, true, true, true, false, false, false, false, false, false, false, false, false, false, false, false, false, false, false, false]) g7_5_7 rfl ns7_5 (by kernel_rfl) (by kernel_rfl) rfl (wanted_free rfl) K230 Y fun a251 e => ?_; clear Y
  have g36 := R.at_ e (by decide); replace R := R.put e; replace h3 := slot_on e h3 (by decide); replace h4 := slot_on e h4 (by decide); replace h5 := slot_on e h5 (by decide); replace h6 := slot_on e h6 (by decide); clear h31 h35; have h36 := g36; clear g36; clear e
  have Y : ∀ W, Keep (fun g => g < w0.heap.size) w0 W → (execOp a251.eval o7_5_8).run Try.prog W = .ok (.value (.bool false)) W := by intro W7 hS; unfold o7_5_8; go_simp
  refine dr_take (i := 8) (fuel := 15) (l' := #[true, true, true, true, true, true, true, true, true, false, false, false, false, false, false, false, false, false, false, false, false, false, false, false]) g7_5_8 rfl ns7_5 (by kernel_rfl) (by kernel_rfl) rfl (wanted_free rfl) K230 Y fun a253 e => ?_; clear Y
  have g37 := R.at_ e (by decide); replace R := R.put e; replace h3 := slot_on e h3 (by decide); replace h4 := slot_on e h4 (by decide); replace h5 := slot_on e h5 (by decide); replace h6 := slot_on e h6 (by decide); clear h36; have h37 := g37; clear g37; clear e
  have Y : ∀ W, Keep (fun g => g < w0.heap.size) w0 W → (execOp a253.eval o7_5_9).run Try.prog W = .ok (.value (.agg #[.int .i64 a.k, .string (str a.nm), .int .i64 a.i, .slice aa a.args.length ca])) W := by intro W7 hS; have D := D232.keep hS D232.lt; have q0 : W7.cell? ⟨b1, 0, none⟩ = some (.int .i64 a.k) := D.cell 0; have q1 : W7.cell? ⟨b1, 1, none⟩ = some (.string (str a.nm)) := D.cell 1; have q2 : W7.cell? ⟨b1, 2, none⟩ = some (.int .i64 a.i) := D.cell 2; have q3 : W7.cell? ⟨b1, 3, none⟩ = some (.slice aa a.args.length ca) := D.cell 3; unfold o7_5_9; go_simp
  refine dr_take (i := 9) (fuel := 14) (l' := #[true, true, true, true, true, true, true, true, true, true, false, false, false, false, false, false, false, false, false, false, false, false, false, false]) g7_5_9 rfl ns7_5 (by kernel_rfl) (by kernel_rfl) rfl (wanted_is (j := 8) (d := 37) rfl rfl h37 rfl) K230 Y fun a255 e => ?_; clear Y
  have g38 := R.at_ e (by decide); replace R := R.put e; replace h3 := slot_on e h3 (by decide); replace h4 := slot_on e h4 (by decide); replace h5 := slot_on e h5 (by decide); replace h6 := slot_on e h6 (by decide); replace h37 := slot_on e h37 (by decide); have h38 := g38; clear g38; clear e
  have Y : ∀ W, Keep (fun g => g < w0.heap.size) w0 W → (execOp a255.eval o7_5_10).run Try.prog W = .ok (.value (.agg #[.int .i64 a.k, .string (str a.nm), .int .i64 a.i, .slice aa a.args.length ca])) W := by intro W7 hS; have D := D232.keep hS D232.lt; have q0 : W7.cell? ⟨b1, 0, none⟩ = some (.int .i64 a.k) := D.cell 0; have q1 : W7.cell? ⟨b1, 1, none⟩ = some (.string (str a.nm)) := D.cell 1; have q2 : W7.cell? ⟨b1, 2, none⟩ = some (.int .i64 a.i) := D.cell 2; have q3 : W7.cell? ⟨b1, 3, none⟩ = some (.slice aa a.args.length ca) := D.cell 3; unfold o7_5_10; go_simp
  refine dr_take (i := 10) (fuel := 13) (l' := #[true, true, true, true, true, true, true, true, true, true, true, false, false, false, false, false, false, false, false, false, false, false, false, false]) g7_5_10 rfl ns7_5 (by kernel_rfl) (by kernel_rfl) rfl (wanted_is (j := 8) (d := 37) rfl rfl h37 rfl) K230 Y fun a257 e => ?_; clear Y
  have g39 := R.at_ e (by decide); replace R := R.put e; replace h3 := slot_on e h3 (by decide); replace h4 := slot_on e h4 (by decide); replace h5 := slot_on e h5 (by decide); replace h6 := slot_on e h6 (by decide); replace h37 := slot_on e h37 (by decide); replace h38 := slot_on e h38 (by decide); have h39 := g39; clear g39; clear e
  refine dr_only (i := 11) (fuel := 12) (by kernel_rfl) ?_
  have Y : (execOp a257.eval o7_5_11).run Try.prog w246 = .ok (.enter 20 #[.agg #[.int .i64 a.k, .string (str a.nm), .int .i64 a.i, .slice aa a.args.length ca], .agg #[.int .i64 a.k, .string (str a.nm), .int .i64 a.i, .slice aa a.args.length ca]]) w246 := by unfold o7_5_11; go_simp
  have hord := Order_any (HA.out.on K1) (HA.out.on K1); rw [HOaa.out] at hord
  refine dr_call (l' := #[true, true, true, true, true, true, true, true, true, true, true, true, false, false, false, false, false, false, false, false, false, false, false, false]) g7_5_11 rfl rfl (wanted_is (j := 8) (d := 37) rfl rfl h37 rfl) Y ((hord).mono ?_); clear Y
  rintro e9 w259 ⟨rfl, kk⟩
  replace K1 := keep_onto K1 kk
  replace K230 := keep_onto K230 kk
  replace B1 := blk_on B1 kk
  replace B2 := blk_on B2 kk
  replace B3 := blk_on B3 kk
  clear kk
  clear hord
  refine ⟨_, rfl, K230, fun a260 e => ?_⟩
  have g40 := R.at_ e (by decide); replace R := R.put e; replace h3 := slot_on e h3 (by decide); replace h4 := slot_on e h4 (by decide); replace h5 := slot_on e h5 (by decide); replace h6 := slot_on e h6 (by decide); replace h37 := slot_on e h37 (by decide); clear h38 h39; have h40 := g40; clear g40; clear e
  have Y : ∀ W, Keep (fun g => g < w0.heap.size) w0 W → (execOp a260.eval o7_5_12).run Try.prog W = .ok (.value (.bool false)) W := by intro W7 hS; unfold o7_5_12; go_simp
  refine dr_take (i := 12) (fuel := 11) (l' := #[true, true, true, true, true, true, true, true, true, true, true, true, true, false, false, false, false, false, false, false, false, false, false, false]) g7_5_12 rfl ns7_5 (by kernel_rfl) (by kernel_rfl) rfl (wanted_is (j := 8) (d := 37) rfl rfl h37 rfl) K230 Y fun a262 e => ?_; clear Y
  have g41 := R.at_ e (by decide); replace R := R.put e; replace h3 := slot_on e h3 (by decide); replace h4 := slot_on e h4 (by decide); replace h5 := slot_on e h5 (by decide); replace h6 := slot_on e h6 (by decide); replace h37 := slot_on e h37 (by decide); clear h40; have h41 := g41; clear g41; clear e
  have Y : ∀ W, Keep (fun g => g < w0.heap.size) w0 W → (execOp a262.eval o7_5_13).run Try.prog W = .ok (.value (.bool false)) W := by intro W7 hS; unfold o7_5_13; go_simp
  refine dr_take (i := 13) (fuel := 10) (l' := #[true, true, true, true, true, true, true, true, true, true, true, true, true, true, false, false, false, false, false, false, false, false, false, false]) g7_5_13 rfl ns7_5 (by kernel_rfl) (by kernel_rfl) rfl (wanted_free rfl) K230 Y fun a264 e => ?_; clear Y
  have g42 := R.at_ e (by decide); replace R := R.put e; replace h3 := slot_on e h3 (by decide); replace h4 := slot_on e h4 (by decide); replace h5 := slot_on e h5 (by decide); replace h6 := slot_on e h6 (by decide); clear h37 h41; have h42 := g42; clear g42; clear e
  have Y : ∀ W, Keep (fun g => g < w0.heap.size) w0 W → (execOp a264.eval o7_5_14).run Try.prog W = .ok (.value (.bool false)) W := by intro W7 hS; unfold o7_5_14; go_simp
  refine dr_take (i := 14) (fuel := 9) (l' := #[true, true, true, true, true, true, true, true, true, true, true, true, true, true, true, false, false, false, false, false, false, false, false, false]) g7_5_14 rfl ns7_5 (by kernel_rfl) (by kernel_rfl) rfl (wanted_free rfl) K230 Y fun a266 e => ?_; clear Y
  have g43 := R.at_ e (by decide); replace R := R.put e; replace h3 := slot_on e h3 (by decide); replace h4 := slot_on e h4 (by decide); replace h5 := slot_on e h5 (by decide); replace h6 := slot_on e h6 (by decide); clear h42; have h43 := g43; clear g43; clear e
  have Y : ∀ W, Keep (fun g => g < w0.heap.size) w0 W → (execOp a266.eval o7_5_15).run Try.prog W = .ok (.value (.agg #[.int .i64 a.k, .string (str a.nm), .int .i64 a.i, .slice aa a.args.length ca])) W := by intro W7 hS; have D := D232.keep hS D232.lt; have q0 : W7.cell? ⟨b1, 0, none⟩ = some (.int .i64 a.k) := D.cell 0; have q1 : W7.cell? ⟨b1, 1, none⟩ = some (.string (str a.nm)) := D.cell 1; have q2 : W7.cell? ⟨b1, 2, none⟩ = some (.int .i64 a.i) := D.cell 2; have q3 : W7.cell? ⟨b1, 3, none⟩ = some (.slice aa a.args.length ca) := D.cell 3; unfold o7_5_15; go_simp
  refine dr_take (i := 15) (fuel := 8) (l' := #[true, true, true, true, true, true, true, true, true, true, true, true, true, true, true, true, false, false, false, false, false, false, false, false]) g7_5_15 rfl ns7_5 (by kernel_rfl) (by kernel_rfl) rfl (wanted_is (j := 14) (d := 43) rfl rfl h43 rfl) K230 Y fun a268 e => ?_; clear Y
  have g44 := R.at_ e (by decide); replace R := R.put e; replace h3 := slot_on e h3 (by decide); replace h4 := slot_on e h4 (by decide); replace h5 := slot_on e h5 (by decide); replace h6 := slot_on e h6 (by decide); replace h43 := slot_on e h43 (by decide); have h44 := g44; clear g44; clear e
  have Y : ∀ W, Keep (fun g => g < w0.heap.size) w0 W → (execOp a268.eval o7_5_16).run Try.prog W = .ok (.value (.agg #[.int .i64 b.k, .string (str b.nm), .int .i64 b.i, .slice ab b.args.length cb])) W := by intro W7 hS; have D := D233.keep hS D233.lt; have q0 : W7.cell? ⟨b2, 0, none⟩ = some (.int .i64 b.k) := D.cell 0; have q1 : W7.cell? ⟨b2, 1, none⟩ = some (.string (str b.nm)) := D.cell 1; have q2 : W7.cell? ⟨b2, 2, none⟩ = some (.int .i64 b.i) := D.cell 2; have q3 : W7.cell? ⟨b2, 3, none⟩ = some (.slice ab b.args.length cb) := D.cell 3; unfold o7_5_16; go_simp
  refine dr_take (i := 16) (fuel := 7) (l' := #[true, true, true, true, true, true, true, true, true, true, true, true, true, true, true, true, true, false, false, false, false, false, false, false]) g7_5_16 rfl ns7_5 (by kernel_rfl) (by kernel_rfl) rfl (wanted_is (j := 14) (d := 43) rfl rfl h43 rfl) K230 Y fun a270 e => ?_; clear Y
  have g45 := R.at_ e (by decide); replace R := R.put e; replace h3 := slot_on e h3 (by decide); replace h4 := slot_on e h4 (by decide); replace h5 := slot_on e h5 (by decide); replace h6 := slot_on e h6 (by decide); replace h43 := slot_on e h43 (by decide); replace h44 := slot_on e h44 (by decide); have h45 := g45; clear g45; clear e
  have Y : ∀ W, Keep (fun g => g < w0.heap.size) w0 W → (execOp a270.eval o7_5_19).run Try.prog W = .ok (.value (.agg #[.int .i64 a.k, .string (str a.nm), .int .i64 a.i, .slice aa a.args.length ca])) W := by intro W7 hS; have D := D232.keep hS D232.lt; have q0 : W7.cell? ⟨b1, 0, none⟩ = some (.int .i64 a.k) := D.cell 0; have q1 : W7.cell? ⟨b1, 1, none⟩ = some (.string (str a.nm)) := D.cell 1; have q2 : W7.cell? ⟨b1, 2, none⟩ = some (.int .i64 a.i) := D.cell 2; have q3 : W7.cell? ⟨b1, 3, none⟩ = some (.slice aa a.args.length ca) := D.cell 3; unfold o7_5_19; go_simp
  refine dr_take (i := 19) (fuel := 6) (l' := #[true, true, true, true, true, true, true, true, true, true, true, true, true, true, true, true, true, false, false, true, false, false, false, false]) g7_5_19 rfl ns7_5 (by kernel_rfl) (by kernel_rfl) rfl (wanted_is (j := 14) (d := 43) rfl rfl h43 rfl) K230 Y fun a272 e => ?_; clear Y
  have g48 := R.at_ e (by decide); replace R := R.put e; replace h3 := slot_on e h3 (by decide); replace h4 := slot_on e h4 (by decide); replace h5 := slot_on e h5 (by decide); replace h6 := slot_on e h6 (by decide); replace h43 := slot_on e h43 (by decide); replace h44 := slot_on e h44 (by decide); replace h45 := slot_on e h45 (by decide); have h48 := g48; clear g48; clear e
  have Y : ∀ W, Keep (fun g => g < w0.heap.size) w0 W → (execOp a272.eval o7_5_20).run Try.prog W = .ok (.value (.agg #[.int .i64 b.k, .string (str b.nm), .int .i64 b.i, .slice ab b.args.length cb])) W := by intro W7 hS; have D := D233.keep hS D233.lt; have q0 : W7.cell? ⟨b2, 0, none⟩ = some (.int .i64 b.k) := D.cell 0; have q1 : W7.cell? ⟨b2, 1, none⟩ = some (.string (str b.nm)) := D.cell 1; have q2 : W7.cell? ⟨b2, 2, none⟩ = some (.int .i64 b.i) := D.cell 2; have q3 : W7.cell? ⟨b2, 3, none⟩ = some (.slice ab b.args.length cb) := D.cell 3; unfold o7_5_20; go_simp
  refine dr_take (i := 20) (fuel := 5) (l' := #[true, true, true, true, true, true, true, true, true, true, true, true, true, true, true, true, true, false, false, true, true, false, false, false]) g7_5_20 rfl ns7_5 (by kernel_rfl) (by kernel_rfl) rfl (wanted_is (j := 14) (d := 43) rfl rfl h43 rfl) K230 Y fun a274 e => ?_; clear Y
  have g49 := R.at_ e (by decide); replace R := R.put e; replace h3 := slot_on e h3 (by decide); replace h4 := slot_on e h4 (by decide); replace h5 := slot_on e h5 (by decide); replace h6 := slot_on e h6 (by decide); replace h43 := slot_on e h43 (by decide); replace h44 := slot_on e h44 (by decide); replace h45 := slot_on e h45 (by decide); replace h48 := slot_on e h48 (by decide); have h49 := g49; clear g49; clear e
  refine dr_only (i := 17) (fuel := 4) (by kernel_rfl) ?_
  have Y : (execOp a274.eval o7_5_17).run Try.prog w259 = .ok (.enter 20 #[.agg #[.int .i64 a.k, .string (str a.nm), .int .i64 a.i, .slice aa a.args.length ca], .agg #[.int .i64 b.k, .string (str b.nm), .int .i64 b.i, .slice ab b.args.length cb]]) w259 := by unfold o7_5_17; go_simp
  have hord := Order_any (HA.out.on K1) (HB.out.on K1); rw [HOab.out] at hord
  refine dr_call (l' := #[true, true, true, true, true, true, true, true, true, true, true, true, true, true, true, true, true, true, false, true, true, false, false, false]) g7_5_17 rfl rfl (wanted_is (j := 14) (d := 43) rfl rfl h43 rfl) Y ((hord).mono ?_); clear Y
  rintro e9 w276 ⟨rfl, kk⟩
  replace K1 := keep_onto K1 kk
  replace K230 := keep_onto K230 kk
  replace B1 := blk_on B1 kk
  replace B2 := blk_on B2 kk
  replace B3 := blk_on B3 kk
  clear kk
  clear hord
  refine ⟨_, rfl, K230, fun a277 e => ?_⟩
  have g46 := R.at_ e (by decide); replace R := R.put e; replace h3 := slot_on e h3 (by decide); replace h4 := slot_on e h4 (by decide); replace h5 := slot_on e h5 (by decide); replace h6 := slot_on e h6 (by decide); replace h43 := slot_on e h43 (by decide); replace h48 := slot_on e h48 (by decide); replace h49 := slot_on e h49 (by decide); clear h44 h45; have h46 := g46; clear g46; clear e
  have Y : ∀ W, Keep (fun g => g < w0.heap.size) w0 W → (execOp a277.eval o7_5_18).run Try.prog W = .ok (.value (.bool false)) W := by intro W7 hS; unfold o7_5_18; go_simp
  refine dr_take (i := 18) (fuel := 3) (l' := #[true, true, true, true, true, true, true, true, true, true, true, true, true, true, true, true, true, true, true, true, true, false, false, false]) g7_5_18 rfl ns7_5 (by kernel_rfl) (by kernel_rfl) rfl (wanted_is (j := 14) (d := 43) rfl rfl h43 rfl) K230 Y fun a279 e => ?_; clear Y
  have g47 := R.at_ e (by decide); replace R := R.put e; replace h3 := slot_on e h3 (by decide); replace h4 := slot_on e h4 (by decide); replace h5 := slot_on e h5 (by decide); replace h6 := slot_on e h6 (by decide); replace h43 := slot_on e h43 (by decide); replace h48 := slot_on e h48 (by decide); replace h49 := slot_on e h49 (by decide); clear h46; have h47 := g47; clear g47; clear e
  refine dr_only (i := 21) (fuel := 2) (by kernel_rfl) ?_
  have Y : (execOp a279.eval o7_5_21).run Try.prog w276 = .ok (.enter 19 #[.agg #[.int .i64 a.k, .string (str a.nm), .int .i64 a.i, .slice aa a.args.length ca], .agg #[.int .i64 b.k, .string (str b.nm), .int .i64 b.i, .slice ab b.args.length cb]]) w276 := by unfold o7_5_21; go_simp
  have hsm := Same_any (HA.out.on K1) (HB.out.on K1); rw [HSM.out] at hsm
  refine dr_call (l' := #[true, true, true, true, true, true, true, true, true, true, true, true, true, true, true, true, true, true, true, true, true, true, false, false]) g7_5_21 rfl rfl (wanted_is (j := 14) (d := 43) rfl rfl h43 rfl) Y ((hsm).mono ?_); clear Y
  rintro e9 w281 ⟨rfl, kk⟩
  replace K1 := keep_onto K1 kk
  replace K230 := keep_onto K230 kk
  replace B1 := blk_on B1 kk
  replace B2 := blk_on B2 kk
  replace B3 := blk_on B3 kk
  clear kk
  clear hsm
  refine ⟨_, rfl, K230, fun a282 e => ?_⟩
  have g50 := R.at_ e (by decide); replace R := R.put e; replace h3 := slot_on e h3 (by decide); replace h4 := slot_on e h4 (by decide); replace h5 := slot_on e h5 (by decide); replace h6 := slot_on e h6 (by decide); replace h43 := slot_on e h43 (by decide); replace h47 := slot_on e h47 (by decide); clear h48 h49; have h50 := g50; clear g50; clear e
  have Y : ∀ W, Keep (fun g => g < w0.heap.size) w0 W → (execOp a282.eval o7_5_22).run Try.prog W = .ok (.value (.bool false)) W := by intro W7 hS; unfold o7_5_22; go_simp
  refine dr_take (i := 22) (fuel := 1) (l' := #[true, true, true, true, true, true, true, true, true, true, true, true, true, true, true, true, true, true, true, true, true, true, true, false]) g7_5_22 rfl ns7_5 (by kernel_rfl) (by kernel_rfl) rfl (wanted_is (j := 14) (d := 43) rfl rfl h43 rfl) K230 Y fun a284 e => ?_; clear Y
  have g51 := R.at_ e (by decide); replace R := R.put e; replace h3 := slot_on e h3 (by decide); replace h4 := slot_on e h4 (by decide); replace h5 := slot_on e h5 (by decide); replace h6 := slot_on e h6 (by decide); replace h43 := slot_on e h43 (by decide); clear h47 h50; have h51 := g51; clear g51; clear e
  have Y : ∀ W, Keep (fun g => g < w0.heap.size) w0 W → (execOp a284.eval o7_5_23).run Try.prog W = .ok (.value (.bool false)) W := by intro W7 hS; unfold o7_5_23; go_simp
  refine dr_take (i := 23) (fuel := 0) (l' := #[true, true, true, true, true, true, true, true, true, true, true, true, true, true, true, true, true, true, true, true, true, true, true, true]) g7_5_23 rfl ns7_5 (by kernel_rfl) (by kernel_rfl) rfl (wanted_free rfl) K230 Y fun a286 e => ?_; clear Y
  have g52 := R.at_ e (by decide); replace R := R.put e; replace h3 := slot_on e h3 (by decide); replace h4 := slot_on e h4 (by decide); replace h5 := slot_on e h5 (by decide); replace h6 := slot_on e h6 (by decide); clear h43 h51; have h52 := g52; clear g52; clear e
  refine dr_end (by kernel_rfl) ?_
  clear K230 D232 D233 D234
  change (c7_21).wp _ _ _ _
  refine wp_cond_false (x := c7_22) (y := Code.skip) (eval_slot h52) ?_
  refine wp_skip ?_
  exact ow7 (a := a) (b := b) (c := c) (aa := aa) (ab := ab) (ac := ac) (ca := ca) (cb := cb) (cc := cc) R h3 h4 h5 h6 K1 B1 B2 B3 HA HREN HP HB HC HOab HObc HOac HTR

set_option maxRecDepth 100000 in
set_option maxHeartbeats 4000000 in
theorem ow5_z {W : World} {a b c : Tm} {aa ab ac : Option Addr} {ca cb cc : Nat} {m : Int} {xr : Tm} {L : Nat} {zs zd zb zc : Int} {f0 : Act} {w0 : World} {b1 : Nat} {b2 : Nat} {b3 : Nat} (R : FrS 125 f0) (h3 : f0.tmps[3]? = some (.int .i64 m)) (h4 : f0.tmps[4]? = some (.pointer (some ⟨b1, 0, none⟩))) (h5 : f0.tmps[5]? = some (.pointer (some ⟨b2, 0, none⟩))) (h6 : f0.tmps[6]? = some (.pointer (some ⟨b3, 0, none⟩))) (K1 : Keep (fun g => g < W.heap.size) W w0) (B1 : Blk w0 b1 24 #[.int .i64 a.k, .string (str a.nm), .int .i64 a.i, .slice aa a.args.length ca]) (B2 : Blk w0 b2 24 #[.int .i64 b.k, .string (str b.nm), .int .i64 b.i, .slice ab b.args.length cb]) (B3 : Blk w0 b3 24 #[.int .i64 c.k, .string (str c.nm), .int .i64 c.i, .slice ac c.args.length cc]) (HA : Hid (TmAt W.heap.size W a aa ca)) (HREN : Hid (∀ V, Keep (fun g => g < W.heap.size) W V → 1 ≤ m → m ≤ 1152921504606846976 → Calls Try.prog 32 #[.agg #[.int .i64 a.k, .string (str a.nm), .int .i64 a.i, .slice aa a.args.length ca], .int .i64 m] V fun e w' => ∃ ax cx, e = .returned (.tuple #[.agg #[.int .i64 xr.k, .string (str xr.nm), .int .i64 xr.i, .slice ax xr.args.length cx], .int .i64 (m + (L : Int)), .int .i64 0]) ∧ TmAt w'.heap.size w' xr ax cx ∧ Keep (fun g => g < V.heap.size) V w')) (HP : Hid (1 ≤ m → Hid (vtV a xr = true) ∧ Hid ((vaV a).length = L) ∧ Hid (L ≤ 2000) ∧ Hid (∃ l : List Int, vaV xr = l ∧ l.length = L ∧ ∀ i : Nat, i < L → l[i]? = some (m + i)) ∧ Hid (xr.size = zs ∧ a.size = zs ∧ xr.depth = zd ∧ a.depth = zd))) (HB : Hid (TmAt W.heap.size W b ab cb)) (HC : Hid (TmAt W.heap.size W c ac cc)) (HOab : Hid (ordV a b = 0)) (HObc : Hid (ordV b c = zb)) (HOac : Hid (ordV a c = zc)) (HOba : Hid (ordV b a = 0)) (HOaa : Hid (ordV a a = 0)) (HSM : Hid (sameV a b = true)) (HTR : Hid ((0 : Int) ≤ 0 → zb ≤ 0 → zc ≤ 0)) : c7_18.wp Try.prog (bodyPost Try.prog Try.f7 (fun e w' => e = .returned (.bool true) ∧ Keep (fun g => g < W.heap.size) W w')) f0 w0 := by
  refine wp_seq (x := c7_19) (y := c7_26) ?_
  refine wp_seq (x := c7_20) (y := c7_21) ?_
  change (Code.region 5 O7_5 true).wp _ _ _ _
  have D290 := B1
  have D291 := B2
  have D292 := B3
  have K288 := (Keep.refl (fun g => g < w0.heap.size) w0).drew
  refine dr_in (S := (fun W => Keep (fun g => g < w0.heap.size) w0 W)) (n := 24) (l := #[false, false, false, false, false, false, false, false, false, false, false, false, false, false, false, false, false, false, false, false, false, false, false, false]) (by kernel_rfl) K288 rfl rfl ?_
  replace K1 := K1.drew
  replace B1 := B1.drew
  replace B2 := B2.drew
  replace B3 := B3.drew
  generalize w0.drew = w289 at K288 K1 B1 B2 B3 ⊢
  have Y : ∀ W, Keep (fun g => g < w0.heap.size) w0 W → (execOp f0.eval o7_5_0).run Try.prog W = .ok (.value (.agg #[.int .i64 a.k, .string (str a.nm), .int .i64 a.i, .slice aa a.args.length ca])) W := by intro W7 hS; have D := D290.keep hS D290.lt; have q0 : W7.cell? ⟨b1, 0, none⟩ = some (.int .i64 a.k) := D.cell 0; have q1 : W7.cell? ⟨b1, 1, none⟩ = some (.string (str a.nm)) := D.cell 1; have q2 : W7.cell? ⟨b1, 2, none⟩ = some (.int .i64 a.i) := D.cell 2; have q3 : W7.cell? ⟨b1, 3, none⟩ = some (.slice aa a.args.length ca) := D.cell 3; unfold o7_5_0; go_simp
  refine dr_take (i := 0) (fuel := 23) (l' := #[true, false, false, false, false, false, false, false, false, false, false, false, false, false, false, false, false, false, false, false, false, false, false, false]) g7_5_0 rfl ns7_5 (by kernel_rfl) (by kernel_rfl) rfl (wanted_free rfl) K288 Y fun a293 e => ?_; clear Y
  have g29 := R.at_ e (by decide); replace R := R.put e; replace h3 := slot_on e h3 (by decide); replace h4 := slot_on e h4 (by decide); replace h5 := slot_on e h5 (by decide); replace h6 := slot_on e h6 (by decide); have h29 := g29; clear g29; clear e
  have Y : ∀ W, Keep (fun g => g < w0.heap.size) w0 W → (execOp a293.eval o7_5_1).run Try.prog W = .ok (.value (.agg #[.int .i64 b.k, .string (str b.nm), .int .i64 b.i, .slice ab b.args.length cb])) W := by intro W7 hS; have D := D291.keep hS D291.lt; have q0 : W7.cell? ⟨b2, 0, none⟩ = some (.int .i64 b.k) := D.cell 0; have q1 : W7.cell? ⟨b2, 1, none⟩ = some (.string (str b.nm)) := D.cell 1; have q2 : W7.cell? ⟨b2, 2, none⟩ = some (.int .i64 b.i) := D.cell 2; have q3 : W7.cell? ⟨b2, 3, none⟩ = some (.slice ab b.args.length cb) := D.cell 3; unfold o7_5_1; go_simp
  refine dr_take (i := 1) (fuel := 22) (l' := #[true, true, false, false, false, false, false, false, false, false, false, false, false, false, false, false, false, false, false, false, false, false, false, false]) g7_5_1 rfl ns7_5 (by kernel_rfl) (by kernel_rfl) rfl (wanted_free rfl) K288 Y fun a295 e => ?_; clear Y
  have g30 := R.at_ e (by decide); replace R := R.put e; replace h3 := slot_on e h3 (by decide); replace h4 := slot_on e h4 (by decide); replace h5 := slot_on e h5 (by decide); replace h6 := slot_on e h6 (by decide); replace h29 := slot_on e h29 (by decide); have h30 := g30; clear g30; clear e
  have Y : ∀ W, Keep (fun g => g < w0.heap.size) w0 W → (execOp a295.eval o7_5_3).run Try.prog W = .ok (.value (.agg #[.int .i64 b.k, .string (str b.nm), .int .i64 b.i, .slice ab b.args.length cb])) W := by intro W7 hS; have D := D291.keep hS D291.lt; have q0 : W7.cell? ⟨b2, 0, none⟩ = some (.int .i64 b.k) := D.cell 0; have q1 : W7.cell? ⟨b2, 1, none⟩ = some (.string (str b.nm)) := D.cell 1; have q2 : W7.cell? ⟨b2, 2, none⟩ = some (.int .i64 b.i) := D.cell 2; have q3 : W7.cell? ⟨b2, 3, none⟩ = some (.slice ab b.args.length cb) := D.cell 3; unfold o7_5_3; go_simp
  refine dr_take (i := 3) (fuel := 21) (l' := #[true, true, false, true, false, false, false, false, false, false, false, false, false, false, false, false, false, false, false, false, false, false, false, false]) g7_5_3 rfl ns7_5 (by kernel_rfl) (by kernel_rfl) rfl (wanted_free rfl) K288 Y fun a297 e => ?_; clear Y
  have g32 := R.at_ e (by decide); replace R := R.put e; replace h3 := slot_on e h3 (by decide); replace h4 := slot_on e h4 (by decide); replace h5 := slot_on e h5 (by decide); replace h6 := slot_on e h6 (by decide); replace h29 := slot_on e h29 (by decide); replace h30 := slot_on e h30 (by decide); have h32 := g32; clear g32; clear e
  have Y : ∀ W, Keep (fun g => g < w0.heap.size) w0 W → (execOp a297.eval o7_5_4).run Try.prog W = .ok (.value (.agg #[.int .i64 a.k, .string (str a.nm), .int .i64 a.i, .slice aa a.args.length ca])) W := by intro W7 hS; have D := D290.keep hS D290.lt; have q0 : W7.cell? ⟨b1, 0, none⟩ = some (.int .i64 a.k) := D.cell 0; have q1 : W7.cell? ⟨b1, 1, none⟩ = some (.string (str a.nm)) := D.cell 1; have q2 : W7.cell? ⟨b1, 2, none⟩ = some (.int .i64 a.i) := D.cell 2; have q3 : W7.cell? ⟨b1, 3, none⟩ = some (.slice aa a.args.length ca) := D.cell 3; unfold o7_5_4; go_simp
  refine dr_take (i := 4) (fuel := 20) (l' := #[true, true, false, true, true, false, false, false, false, false, false, false, false, false, false, false, false, false, false, false, false, false, false, false]) g7_5_4 rfl ns7_5 (by kernel_rfl) (by kernel_rfl) rfl (wanted_free rfl) K288 Y fun a299 e => ?_; clear Y
  have g33 := R.at_ e (by decide); replace R := R.put e; replace h3 := slot_on e h3 (by decide); replace h4 := slot_on e h4 (by decide); replace h5 := slot_on e h5 (by decide); replace h6 := slot_on e h6 (by decide); replace h29 := slot_on e h29 (by decide); replace h30 := slot_on e h30 (by decide); replace h32 := slot_on e h32 (by decide); have h33 := g33; clear g33; clear e
  refine dr_only (i := 2) (fuel := 19) (by kernel_rfl) ?_
  have Y : (execOp a299.eval o7_5_2).run Try.prog w289 = .ok (.enter 20 #[.agg #[.int .i64 a.k, .string (str a.nm), .int .i64 a.i, .slice aa a.args.length ca], .agg #[.int .i64 b.k, .string (str b.nm), .int .i64 b.i, .slice ab b.args.length cb]]) w289 := by unfold o7_5_2; go_simp
  have hord := Order_any (HA.out.on K1) (HB.out.on K1); rw [HOab.out] at hord
  refine dr_call (l' := #[true, true, true, true, true, false, false, false, false, false, false, false, false, false, false, false, false, false, false, false, false, false, false, false]) g7_5_2 rfl rfl (wanted_free rfl) Y ((hord).mono ?_); clear Y
  rintro e9 w301 ⟨rfl, kk⟩
  replace K1 := keep_onto K1 kk
  replace K288 := keep_onto K288 kk
  replace B1 := blk_on B1 kk
  replace B2 := blk_on B2 kk
  replace B3 := blk_on B3 kk
  clear kk
  clear hord
  refine ⟨_, rfl, K288, fun a302 e => ?_⟩
  have g31 := R.at_ e (by decide); replace R := R.put e; replace h3 := slot_on e h3 (by decide); replace h4 := slot_on e h4 (by decide); replace h5 := slot_on e h5 (by decide); replace h6 := slot_on e h6 (by decide); replace h32 := slot_on e h32 (by decide); replace h33 := slot_on e h33 (by decide); clear h29 h30; have h31 := g31; clear g31; clear e
  refine dr_only (i := 5) (fuel := 18) (by kernel_rfl) ?_
  have Y : (execOp a302.eval o7_5_5).run Try.prog w301 = .ok (.enter 20 #[.agg #[.int .i64 b.k, .string (str b.nm), .int .i64 b.i, .slice ab b.args.length cb], .agg #[.int .i64 a.k, .string (str a.nm), .int .i64 a.i, .slice aa a.args.length ca]]) w301 := by unfold o7_5_5; go_simp
  have hord := Order_any (HB.out.on K1) (HA.out.on K1); rw [HOba.out] at hord
  refine dr_call (l' := #[true, true, true, true, true, true, false, false, false, false, false, false, false, false, false, false, false, false, false, false, false, false, false, false]) g7_5_5 rfl rfl (wanted_free rfl) Y ((hord).mono ?_); clear Y
  rintro e9 w304 ⟨rfl, kk⟩
  replace K1 := keep_onto K1 kk
  replace K288 := keep_onto K288 kk
  replace B1 := blk_on B1 kk
  replace B2 := blk_on B2 kk
  replace B3 := blk_on B3 kk
  clear kk
  clear hord
  refine ⟨_, rfl, K288, fun a305 e => ?_⟩
  have g34 := R.at_ e (by decide); replace R := R.put e; replace h3 := slot_on e h3 (by decide); replace h4 := slot_on e h4 (by decide); replace h5 := slot_on e h5 (by decide); replace h6 := slot_on e h6 (by decide); replace h31 := slot_on e h31 (by decide); clear h32 h33; have h34 := g34; clear g34; clear e
  have Y : ∀ W, Keep (fun g => g < w0.heap.size) w0 W → (execOp a305.eval o7_5_6).run Try.prog W = .ok (.value (.int .i64 0)) W := by intro W7 hS; have hwr : IntKind.i64.wrap (0) = (0) := (by decide); unfold o7_5_6; go_simp
  refine dr_take (i := 6) (fuel := 17) (l' := #[true, true, true, true, true, true, true, false, false, false, false, false, false, false, false, false, false, false, false, false, false, false, false, false]) g7_5_6 rfl ns7_5 (by kernel_rfl) (by kernel_rfl) rfl (wanted_free rfl) K288 Y fun a307 e => ?_; clear Y
  have g35 := R.at_ e (by decide); replace R := R.put e; replace h3 := slot_on e h3 (by decide); replace h4 := slot_on e h4 (by decide); replace h5 := slot_on e h5 (by decide); replace h6 := slot_on e h6 (by decide); replace h31 := slot_on e h31 (by decide); clear h34; have h35 := g35; clear g35; clear e
  have Y : ∀ W, Keep (fun g => g < w0.heap.size) w0 W → (execOp a307.eval o7_5_7).run Try.prog W = .ok (.value (.bool false)) W := by intro W7 hS; unfold o7_5_7; go_simp
  refine dr_take (i := 7) (fuel := 16) (l' := #[true, true, true, true, true, true, true, true, false, false, false, false, false, false, false, false, false, false, false, false, false, false, false, false]) g7_5_7 rfl ns7_5 (by kernel_rfl) (by kernel_rfl) rfl (wanted_free rfl) K288 Y fun a309 e => ?_; clear Y
  have g36 := R.at_ e (by decide); replace R := R.put e; replace h3 := slot_on e h3 (by decide); replace h4 := slot_on e h4 (by decide); replace h5 := slot_on e h5 (by decide); replace h6 := slot_on e h6 (by decide); clear h31 h35; have h36 := g36; clear g36; clear e
  have Y : ∀ W, Keep (fun g => g < w0.heap.size) w0 W → (execOp a309.eval o7_5_8).run Try.prog W = .ok (.value (.bool false)) W := by intro W7 hS; unfold o7_5_8; go_simp
  refine dr_take (i := 8) (fuel := 15) (l' := #[true, true, true, true, true, true, true, true, true, false, false, false, false, false, false, false, false, false, false, false, false, false, false, false]) g7_5_8 rfl ns7_5 (by kernel_rfl) (by kernel_rfl) rfl (wanted_free rfl) K288 Y fun a311 e => ?_; clear Y
  have g37 := R.at_ e (by decide); replace R := R.put e; replace h3 := slot_on e h3 (by decide); replace h4 := slot_on e h4 (by decide); replace h5 := slot_on e h5 (by decide); replace h6 := slot_on e h6 (by decide); clear h36; have h37 := g37; clear g37; clear e
  have Y : ∀ W, Keep (fun g => g < w0.heap.size) w0 W → (execOp a311.eval o7_5_9).run Try.prog W = .ok (.value (.agg #[.int .i64 a.k, .string (str a.nm), .int .i64 a.i, .slice aa a.args.length ca])) W := by intro W7 hS; have D := D290.keep hS D290.lt; have q0 : W7.cell? ⟨b1, 0, none⟩ = some (.int .i64 a.k) := D.cell 0; have q1 : W7.cell? ⟨b1, 1, none⟩ = some (.string (str a.nm)) := D.cell 1; have q2 : W7.cell? ⟨b1, 2, none⟩ = some (.int .i64 a.i) := D.cell 2; have q3 : W7.cell? ⟨b1, 3, none⟩ = some (.slice aa a.args.length ca) := D.cell 3; unfold o7_5_9; go_simp
  refine dr_take (i := 9) (fuel := 14) (l' := #[true, true, true, true, true, true, true, true, true, true, false, false, false, false, false, false, false, false, false, false, false, false, false, false]) g7_5_9 rfl ns7_5 (by kernel_rfl) (by kernel_rfl) rfl (wanted_is (j := 8) (d := 37) rfl rfl h37 rfl) K288 Y fun a313 e => ?_; clear Y
  have g38 := R.at_ e (by decide); replace R := R.put e; replace h3 := slot_on e h3 (by decide); replace h4 := slot_on e h4 (by decide); replace h5 := slot_on e h5 (by decide); replace h6 := slot_on e h6 (by decide); replace h37 := slot_on e h37 (by decide); have h38 := g38; clear g38; clear e
  have Y : ∀ W, Keep (fun g => g < w0.heap.size) w0 W → (execOp a313.eval o7_5_10).run Try.prog W = .ok (.value (.agg #[.int .i64 a.k, .string (str a.nm), .int .i64 a.i, .slice aa a.args.length ca])) W := by intro W7 hS; have D := D290.keep hS D290.lt; have q0 : W7.cell? ⟨b1, 0, none⟩ = some (.int .i64 a.k) := D.cell 0; have q1 : W7.cell? ⟨b1, 1, none⟩ = some (.string (str a.nm)) := D.cell 1; have q2 : W7.cell? ⟨b1, 2, none⟩ = some (.int .i64 a.i) := D.cell 2; have q3 : W7.cell? ⟨b1, 3, none⟩ = some (.slice aa a.args.length ca) := D.cell 3; unfold o7_5_10; go_simp
  refine dr_take (i := 10) (fuel := 13) (l' := #[true, true, true, true, true, true, true, true, true, true, true, false, false, false, false, false, false, false, false, false, false, false, false, false]) g7_5_10 rfl ns7_5 (by kernel_rfl) (by kernel_rfl) rfl (wanted_is (j := 8) (d := 37) rfl rfl h37 rfl) K288 Y fun a315 e => ?_; clear Y
  have g39 := R.at_ e (by decide); replace R := R.put e; replace h3 := slot_on e h3 (by decide); replace h4 := slot_on e h4 (by decide); replace h5 := slot_on e h5 (by decide); replace h6 := slot_on e h6 (by decide); replace h37 := slot_on e h37 (by decide); replace h38 := slot_on e h38 (by decide); have h39 := g39; clear g39; clear e
  refine dr_only (i := 11) (fuel := 12) (by kernel_rfl) ?_
  have Y : (execOp a315.eval o7_5_11).run Try.prog w304 = .ok (.enter 20 #[.agg #[.int .i64 a.k, .string (str a.nm), .int .i64 a.i, .slice aa a.args.length ca], .agg #[.int .i64 a.k, .string (str a.nm), .int .i64 a.i, .slice aa a.args.length ca]]) w304 := by unfold o7_5_11; go_simp
  have hord := Order_any (HA.out.on K1) (HA.out.on K1); rw [HOaa.out] at hord
  refine dr_call (l' := #[true, true, true, true, true, true, true, true, true, true, true, true, false, false, false, false, false, false, false, false, false, false, false, false]) g7_5_11 rfl rfl (wanted_is (j := 8) (d := 37) rfl rfl h37 rfl) Y ((hord).mono ?_); clear Y
  rintro e9 w317 ⟨rfl, kk⟩
  replace K1 := keep_onto K1 kk
  replace K288 := keep_onto K288 kk
  replace B1 := blk_on B1 kk
  replace B2 := blk_on B2 kk
  replace B3 := blk_on B3 kk
  clear kk
  clear hord
  refine ⟨_, rfl, K288, fun a318 e => ?_⟩
  have g40 := R.at_ e (by decide); replace R := R.put e; replace h3 := slot_on e h3 (by decide); replace h4 := slot_on e h4 (by decide); replace h5 := slot_on e h5 (by decide); replace h6 := slot_on e h6 (by decide); replace h37 := slot_on e h37 (by decide); clear h38 h39; have h40 := g40; clear g40; clear e
  have Y : ∀ W, Keep (fun g => g < w0.heap.size) w0 W → (execOp a318.eval o7_5_12).run Try.prog W = .ok (.value (.bool false)) W := by intro W7 hS; unfold o7_5_12; go_simp
  refine dr_take (i := 12) (fuel := 11) (l' := #[true, true, true, true, true, true, true, true, true, true, true, true, true, false, false, false, false, false, false, false, false, false, false, false]) g7_5_12 rfl ns7_5 (by kernel_rfl) (by kernel_rfl) rfl (wanted_is (j := 8) (d := 37) rfl rfl h37 rfl) K288 Y fun a320 e => ?_; clear Y
  have g41 := R.at_ e (by decide); replace R := R.put e; replace h3 := slot_on e h3 (by decide); replace h4 := slot_on e h4 (by decide); replace h5 := slot_on e h5 (by decide); replace h6 := slot_on e h6 (by decide); replace h37 := slot_on e h37 (by decide); clear h40; have h41 := g41; clear g41; clear e
  have Y : ∀ W, Keep (fun g => g < w0.heap.size) w0 W → (execOp a320.eval o7_5_13).run Try.prog W = .ok (.value (.bool false)) W := by intro W7 hS; unfold o7_5_13; go_simp
  refine dr_take (i := 13) (fuel := 10) (l' := #[true, true, true, true, true, true, true, true, true, true, true, true, true, true, false, false, false, false, false, false, false, false, false, false]) g7_5_13 rfl ns7_5 (by kernel_rfl) (by kernel_rfl) rfl (wanted_free rfl) K288 Y fun a322 e => ?_; clear Y
  have g42 := R.at_ e (by decide); replace R := R.put e; replace h3 := slot_on e h3 (by decide); replace h4 := slot_on e h4 (by decide); replace h5 := slot_on e h5 (by decide); replace h6 := slot_on e h6 (by decide); clear h37 h41; have h42 := g42; clear g42; clear e
  have Y : ∀ W, Keep (fun g => g < w0.heap.size) w0 W → (execOp a322.eval o7_5_14).run Try.prog W = .ok (.value (.bool false)) W := by intro W7 hS; unfold o7_5_14; go_simp
  refine dr_take (i := 14) (fuel := 9) (l' := #[true, true, true, true, true, true, true, true, true, true, true, true, true, true, true, false, false, false, false, false, false, false, false, false]) g7_5_14 rfl ns7_5 (by kernel_rfl) (by kernel_rfl) rfl (wanted_free rfl) K288 Y fun a324 e => ?_; clear Y
  have g43 := R.at_ e (by decide); replace R := R.put e; replace h3 := slot_on e h3 (by decide); replace h4 := slot_on e h4 (by decide); replace h5 := slot_on e h5 (by decide); replace h6 := slot_on e h6 (by decide); clear h42; have h43 := g43; clear g43; clear e
  have Y : ∀ W, Keep (fun g => g < w0.heap.size) w0 W → (execOp a324.eval o7_5_15).run Try.prog W = .ok (.value (.agg #[.int .i64 a.k, .string (str a.nm), .int .i64 a.i, .slice aa a.args.length ca])) W := by intro W7 hS; have D := D290.keep hS D290.lt; have q0 : W7.cell? ⟨b1, 0, none⟩ = some (.int .i64 a.k) := D.cell 0; have q1 : W7.cell? ⟨b1, 1, none⟩ = some (.string (str a.nm)) := D.cell 1; have q2 : W7.cell? ⟨b1, 2, none⟩ = some (.int .i64 a.i) := D.cell 2; have q3 : W7.cell? ⟨b1, 3, none⟩ = some (.slice aa a.args.length ca) := D.cell 3; unfold o7_5_15; go_simp
  refine dr_take (i := 15) (fuel := 8) (l' := #[true, true, true, true, true, true, true, true, true, true, true, true, true, true, true, true, false, false, false, false, false, false, false, false]) g7_5_15 rfl ns7_5 (by kernel_rfl) (by kernel_rfl) rfl (wanted_is (j := 14) (d := 43) rfl rfl h43 rfl) K288 Y fun a326 e => ?_; clear Y
  have g44 := R.at_ e (by decide); replace R := R.put e; replace h3 := slot_on e h3 (by decide); replace h4 := slot_on e h4 (by decide); replace h5 := slot_on e h5 (by decide); replace h6 := slot_on e h6 (by decide); replace h43 := slot_on e h43 (by decide); have h44 := g44; clear g44; clear e
  have Y : ∀ W, Keep (fun g => g < w0.heap.size) w0 W → (execOp a326.eval o7_5_16).run Try.prog W = .ok (.value (.agg #[.int .i64 b.k, .string (str b.nm), .int .i64 b.i, .slice ab b.args.length cb])) W := by intro W7 hS; have D := D291.keep hS D291.lt; have q0 : W7.cell? ⟨b2, 0, none⟩ = some (.int .i64 b.k) := D.cell 0; have q1 : W7.cell? ⟨b2, 1, none⟩ = some (.string (str b.nm)) := D.cell 1; have q2 : W7.cell? ⟨b2, 2, none⟩ = some (.int .i64 b.i) := D.cell 2; have q3 : W7.cell? ⟨b2, 3, none⟩ = some (.slice ab b.args.length cb) := D.cell 3; unfold o7_5_16; go_simp
  refine dr_take (i := 16) (fuel := 7) (l' := #[true, true, true, true, true, true, true, true, true, true, true, true, true, true, true, true, true, false, false, false, false, false, false, false]) g7_5_16 rfl ns7_5 (by kernel_rfl) (by kernel_rfl) rfl (wanted_is (j := 14) (d := 43) rfl rfl h43 rfl) K288 Y fun a328 e => ?_; clear Y
  have g45 := R.at_ e (by decide); replace R := R.put e; replace h3 := slot_on e h3 (by decide); replace h4 := slot_on e h4 (by decide); replace h5 := slot_on e h5 (by decide); replace h6 := slot_on e h6 (by decide); replace h43 := slot_on e h43 (by decide); replace h44 := slot_on e h44 (by decide); have h45 := g45; clear g45; clear e
  have Y : ∀ W, Keep (fun g => g < w0.heap.size) w0 W → (execOp a328.eval o7_5_19).run Try.prog W = .ok (.value (.agg #[.int .i64 a.k, .string (str a.nm), .int .i64 a.i, .slice aa a.args.length ca])) W := by intro W7 hS; have D := D290.keep hS D290.lt; have q0 : W7.cell? ⟨b1, 0, none⟩ = some (.int .i64 a.k) := D.cell 0; have q1 : W7.cell? ⟨b1, 1, none⟩ = some (.string (str a.nm)) := D.cell 1; have q2 : W7.cell? ⟨b1, 2, none⟩ = some (.int .i64 a.i) := D.cell 2; have q3 : W7.cell? ⟨b1, 3, none⟩ = some (.slice aa a.args.length ca) := D.cell 3; unfold o7_5_19; go_simp
  refine dr_take (i := 19) (fuel := 6) (l' := #[true, true, true, true, true, true, true, true, true, true, true, true, true, true, true, true, true, false, false, true, false, false, false, false]) g7_5_19 rfl ns7_5 (by kernel_rfl) (by kernel_rfl) rfl (wanted_is (j := 14) (d := 43) rfl rfl h43 rfl) K288 Y fun a330 e => ?_; clear Y
  have g48 := R.at_ e (by decide); replace R := R.put e; replace h3 := slot_on e h3 (by decide); replace h4 := slot_on e h4 (by decide); replace h5 := slot_on e h5 (by decide); replace h6 := slot_on e h6 (by decide); replace h43 := slot_on e h43 (by decide); replace h44 := slot_on e h44 (by decide); replace h45 := slot_on e h45 (by decide); have h48 := g48; clear g48; clear e
  have Y : ∀ W, Keep (fun g => g < w0.heap.size) w0 W → (execOp a330.eval o7_5_20).run Try.prog W = .ok (.value (.agg #[.int .i64 b.k, .string (str b.nm), .int .i64 b.i, .slice ab b.args.length cb])) W := by intro W7 hS; have D := D291.keep hS D291.lt; have q0 : W7.cell? ⟨b2, 0, none⟩ = some (.int .i64 b.k) := D.cell 0; have q1 : W7.cell? ⟨b2, 1, none⟩ = some (.string (str b.nm)) := D.cell 1; have q2 : W7.cell? ⟨b2, 2, none⟩ = some (.int .i64 b.i) := D.cell 2; have q3 : W7.cell? ⟨b2, 3, none⟩ = some (.slice ab b.args.length cb) := D.cell 3; unfold o7_5_20; go_simp
  refine dr_take (i := 20) (fuel := 5) (l' := #[true, true, true, true, true, true, true, true, true, true, true, true, true, true, true, true, true, false, false, true, true, false, false, false]) g7_5_20 rfl ns7_5 (by kernel_rfl) (by kernel_rfl) rfl (wanted_is (j := 14) (d := 43) rfl rfl h43 rfl) K288 Y fun a332 e => ?_; clear Y
  have g49 := R.at_ e (by decide); replace R := R.put e; replace h3 := slot_on e h3 (by decide); replace h4 := slot_on e h4 (by decide); replace h5 := slot_on e h5 (by decide); replace h6 := slot_on e h6 (by decide); replace h43 := slot_on e h43 (by decide); replace h44 := slot_on e h44 (by decide); replace h45 := slot_on e h45 (by decide); replace h48 := slot_on e h48 (by decide); have h49 := g49; clear g49; clear e
  refine dr_only (i := 17) (fuel := 4) (by kernel_rfl) ?_
  have Y : (execOp a332.eval o7_5_17).run Try.prog w317 = .ok (.enter 20 #[.agg #[.int .i64 a.k, .string (str a.nm), .int .i64 a.i, .slice aa a.args.length ca], .agg #[.int .i64 b.k, .string (str b.nm), .int .i64 b.i, .slice ab b.args.length cb]]) w317 := by unfold o7_5_17; go_simp
  have hord := Order_any (HA.out.on K1) (HB.out.on K1); rw [HOab.out] at hord
  refine dr_call (l' := #[true, true, true, true, true, true, true, true, true, true, true, true, true, true, true, true, true, true, false, true, true, false, false, false]) g7_5_17 rfl rfl (wanted_is (j := 14) (d := 43) rfl rfl h43 rfl) Y ((hord).mono ?_); clear Y
  rintro e9 w334 ⟨rfl, kk⟩
  replace K1 := keep_onto K1 kk
  replace K288 := keep_onto K288 kk
  replace B1 := blk_on B1 kk
  replace B2 := blk_on B2 kk
  replace B3 := blk_on B3 kk
  clear kk
  clear hord
  refine ⟨_, rfl, K288, fun a335 e => ?_⟩
  have g46 := R.at_ e (by decide); replace R := R.put e; replace h3 := slot_on e h3 (by decide); replace h4 := slot_on e h4 (by decide); replace h5 := slot_on e h5 (by decide); replace h6 := slot_on e h6 (by decide); replace h43 := slot_on e h43 (by decide); replace h48 := slot_on e h48 (by decide); replace h49 := slot_on e h49 (by decide); clear h44 h45; have h46 := g46; clear g46; clear e
  have Y : ∀ W, Keep (fun g => g < w0.heap.size) w0 W → (execOp a335.eval o7_5_18).run Try.prog W = .ok (.value (.bool true)) W := by intro W7 hS; unfold o7_5_18; go_simp
  refine dr_take (i := 18) (fuel := 3) (l' := #[true, true, true, true, true, true, true, true, true, true, true, true, true, true, true, true, true, true, true, true, true, false, false, false]) g7_5_18 rfl ns7_5 (by kernel_rfl) (by kernel_rfl) rfl (wanted_is (j := 14) (d := 43) rfl rfl h43 rfl) K288 Y fun a337 e => ?_; clear Y
  have g47 := R.at_ e (by decide); replace R := R.put e; replace h3 := slot_on e h3 (by decide); replace h4 := slot_on e h4 (by decide); replace h5 := slot_on e h5 (by decide); replace h6 := slot_on e h6 (by decide); replace h43 := slot_on e h43 (by decide); replace h48 := slot_on e h48 (by decide); replace h49 := slot_on e h49 (by decide); clear h46; have h47 := g47; clear g47; clear e
  refine dr_only (i := 21) (fuel := 2) (by kernel_rfl) ?_
  have Y : (execOp a337.eval o7_5_21).run Try.prog w334 = .ok (.enter 19 #[.agg #[.int .i64 a.k, .string (str a.nm), .int .i64 a.i, .slice aa a.args.length ca], .agg #[.int .i64 b.k, .string (str b.nm), .int .i64 b.i, .slice ab b.args.length cb]]) w334 := by unfold o7_5_21; go_simp
  have hsm := Same_any (HA.out.on K1) (HB.out.on K1); rw [HSM.out] at hsm
  refine dr_call (l' := #[true, true, true, true, true, true, true, true, true, true, true, true, true, true, true, true, true, true, true, true, true, true, false, false]) g7_5_21 rfl rfl (wanted_is (j := 14) (d := 43) rfl rfl h43 rfl) Y ((hsm).mono ?_); clear Y
  rintro e9 w339 ⟨rfl, kk⟩
  replace K1 := keep_onto K1 kk
  replace K288 := keep_onto K288 kk
  replace B1 := blk_on B1 kk
  replace B2 := blk_on B2 kk
  replace B3 := blk_on B3 kk
  clear kk
  clear hsm
  refine ⟨_, rfl, K288, fun a340 e => ?_⟩
  have g50 := R.at_ e (by decide); replace R := R.put e; replace h3 := slot_on e h3 (by decide); replace h4 := slot_on e h4 (by decide); replace h5 := slot_on e h5 (by decide); replace h6 := slot_on e h6 (by decide); replace h43 := slot_on e h43 (by decide); replace h47 := slot_on e h47 (by decide); clear h48 h49; have h50 := g50; clear g50; clear e
  have Y : ∀ W, Keep (fun g => g < w0.heap.size) w0 W → (execOp a340.eval o7_5_22).run Try.prog W = .ok (.value (.bool false)) W := by intro W7 hS; unfold o7_5_22; go_simp
  refine dr_take (i := 22) (fuel := 1) (l' := #[true, true, true, true, true, true, true, true, true, true, true, true, true, true, true, true, true, true, true, true, true, true, true, false]) g7_5_22 rfl ns7_5 (by kernel_rfl) (by kernel_rfl) rfl (wanted_is (j := 14) (d := 43) rfl rfl h43 rfl) K288 Y fun a342 e => ?_; clear Y
  have g51 := R.at_ e (by decide); replace R := R.put e; replace h3 := slot_on e h3 (by decide); replace h4 := slot_on e h4 (by decide); replace h5 := slot_on e h5 (by decide); replace h6 := slot_on e h6 (by decide); replace h43 := slot_on e h43 (by decide); clear h47 h50; have h51 := g51; clear g51; clear e
  have Y : ∀ W, Keep (fun g => g < w0.heap.size) w0 W → (execOp a342.eval o7_5_23).run Try.prog W = .ok (.value (.bool false)) W := by intro W7 hS; unfold o7_5_23; go_simp
  refine dr_take (i := 23) (fuel := 0) (l' := #[true, true, true, true, true, true, true, true, true, true, true, true, true, true, true, true, true, true, true, true, true, true, true, true]) g7_5_23 rfl ns7_5 (by kernel_rfl) (by kernel_rfl) rfl (wanted_free rfl) K288 Y fun a344 e => ?_; clear Y
  have g52 := R.at_ e (by decide); replace R := R.put e; replace h3 := slot_on e h3 (by decide); replace h4 := slot_on e h4 (by decide); replace h5 := slot_on e h5 (by decide); replace h6 := slot_on e h6 (by decide); clear h43 h51; have h52 := g52; clear g52; clear e
  refine dr_end (by kernel_rfl) ?_
  clear K288 D290 D291 D292
  change (c7_21).wp _ _ _ _
  refine wp_cond_false (x := c7_22) (y := Code.skip) (eval_slot h52) ?_
  refine wp_skip ?_
  exact ow7 (a := a) (b := b) (c := c) (aa := aa) (ab := ab) (ac := ac) (ca := ca) (cb := cb) (cc := cc) R h3 h4 h5 h6 K1 B1 B2 B3 HA HREN HP HB HC HOab HObc HOac HTR

set_option maxRecDepth 100000 in
set_option maxHeartbeats 4000000 in
theorem ow5_n {W : World} {a b c : Tm} {aa ab ac : Option Addr} {ca cb cc : Nat} {m : Int} {xr : Tm} {L : Nat} {zs zd zb zc : Int} {f0 : Act} {w0 : World} {b1 : Nat} {b2 : Nat} {b3 : Nat} (R : FrS 125 f0) (h3 : f0.tmps[3]? = some (.int .i64 m)) (h4 : f0.tmps[4]? = some (.pointer (some ⟨b1, 0, none⟩))) (h5 : f0.tmps[5]? = some (.pointer (some ⟨b2, 0, none⟩))) (h6 : f0.tmps[6]? = some (.pointer (some ⟨b3, 0, none⟩))) (K1 : Keep (fun g => g < W.heap.size) W w0) (B1 : Blk w0 b1 24 #[.int .i64 a.k, .string (str a.nm), .int .i64 a.i, .slice aa a.args.length ca]) (B2 : Blk w0 b2 24 #[.int .i64 b.k, .string (str b.nm), .int .i64 b.i, .slice ab b.args.length cb]) (B3 : Blk w0 b3 24 #[.int .i64 c.k, .string (str c.nm), .int .i64 c.i, .slice ac c.args.length cc]) (HA : Hid (TmAt W.heap.size W a aa ca)) (HREN : Hid (∀ V, Keep (fun g => g < W.heap.size) W V → 1 ≤ m → m ≤ 1152921504606846976 → Calls Try.prog 32 #[.agg #[.int .i64 a.k, .string (str a.nm), .int .i64 a.i, .slice aa a.args.length ca], .int .i64 m] V fun e w' => ∃ ax cx, e = .returned (.tuple #[.agg #[.int .i64 xr.k, .string (str xr.nm), .int .i64 xr.i, .slice ax xr.args.length cx], .int .i64 (m + (L : Int)), .int .i64 0]) ∧ TmAt w'.heap.size w' xr ax cx ∧ Keep (fun g => g < V.heap.size) V w')) (HP : Hid (1 ≤ m → Hid (vtV a xr = true) ∧ Hid ((vaV a).length = L) ∧ Hid (L ≤ 2000) ∧ Hid (∃ l : List Int, vaV xr = l ∧ l.length = L ∧ ∀ i : Nat, i < L → l[i]? = some (m + i)) ∧ Hid (xr.size = zs ∧ a.size = zs ∧ xr.depth = zd ∧ a.depth = zd))) (HB : Hid (TmAt W.heap.size W b ab cb)) (HC : Hid (TmAt W.heap.size W c ac cc)) (HOab : Hid (ordV a b = -1)) (HObc : Hid (ordV b c = zb)) (HOac : Hid (ordV a c = zc)) (HOba : Hid (ordV b a = 1)) (HOaa : Hid (ordV a a = 0)) (HSM : Hid (sameV a b = false)) (HTR : Hid ((-1 : Int) ≤ 0 → zb ≤ 0 → zc ≤ 0)) : c7_18.wp Try.prog (bodyPost Try.prog Try.f7 (fun e w' => e = .returned (.bool true) ∧ Keep (fun g => g < W.heap.size) W w')) f0 w0 := by
  refine wp_seq (x := c7_19) (y := c7_26) ?_
  refine wp_seq (x := c7_20) (y := c7_21) ?_
  change (Code.region 5 O7_5 true).wp _ _ _ _
  have D348 := B1
  have D349 := B2
  have D350 := B3
  have K346 := (Keep.refl (fun g => g < w0.heap.size) w0).drew
  refine dr_in (S := (fun W => Keep (fun g => g < w0.heap.size) w0 W)) (n := 24) (l := #[false, false, false, false, false, false, false, false, false, false, false, false, false, false, false, false, false, false, false, false, false, false, false, false]) (by kernel_rfl) K346 rfl rfl ?_
  replace K1 := K1.drew
  replace B1 := B1.drew
  replace B2 := B2.drew
  replace B3 := B3.drew
  generalize w0.drew = w347 at K346 K1 B1 B2 B3 ⊢
  have Y : ∀ W, Keep (fun g => g < w0.heap.size) w0 W → (execOp f0.eval o7_5_0).run Try.prog W = .ok (.value (.agg #[.int .i64 a.k, .string (str a.nm), .int .i64 a.i, .slice aa a.args.length ca])) W := by intro W7 hS; have D := D348.keep hS D348.lt; have q0 : W7.cell? ⟨b1, 0, none⟩ = some (.int .i64 a.k) := D.cell 0; have q1 : W7.cell? ⟨b1, 1, none⟩ = some (.string (str a.nm)) := D.cell 1; have q2 : W7.cell? ⟨b1, 2, none⟩ = some (.int .i64 a.i) := D.cell 2; have q3 : W7.cell? ⟨b1, 3, none⟩ = some (.slice aa a.args.length ca) := D.cell 3; unfold o7_5_0; go_simp
  refine dr_take (i := 0) (fuel := 23) (l' := #[true, false, false, false, false, false, false, false, false, false, false, false, false, false, false, false, false, false, false, false, false, false, false, false]) g7_5_0 rfl ns7_5 (by kernel_rfl) (by kernel_rfl) rfl (wanted_free rfl) K346 Y fun a351 e => ?_; clear Y
  have g29 := R.at_ e (by decide); replace R := R.put e; replace h3 := slot_on e h3 (by decide); replace h4 := slot_on e h4 (by decide); replace h5 := slot_on e h5 (by decide); replace h6 := slot_on e h6 (by decide); have h29 := g29; clear g29; clear e
  have Y : ∀ W, Keep (fun g => g < w0.heap.size) w0 W → (execOp a351.eval o7_5_1).run Try.prog W = .ok (.value (.agg #[.int .i64 b.k, .string (str b.nm), .int .i64 b.i, .slice ab b.args.length cb])) W := by intro W7 hS; have D := D349.keep hS D349.lt; have q0 : W7.cell? ⟨b2, 0, none⟩ = some (.int .i64 b.k) := D.cell 0; have q1 : W7.cell? ⟨b2, 1, none⟩ = some (.string (str b.nm)) := D.cell 1; have q2 : W7.cell? ⟨b2, 2, none⟩ = some (.int .i64 b.i) := D.cell 2; have q3 : W7.cell? ⟨b2, 3, none⟩ = some (.slice ab b.args.length cb) := D.cell 3; unfold o7_5_1; go_simp
  refine dr_take (i := 1) (fuel := 22) (l' := #[true, true, false, false, false, false, false, false, false, false, false, false, false, false, false, false, false, false, false, false, false, false, false, false]) g7_5_1 rfl ns7_5 (by kernel_rfl) (by kernel_rfl) rfl (wanted_free rfl) K346 Y fun a353 e => ?_; clear Y
  have g30 := R.at_ e (by decide); replace R := R.put e; replace h3 := slot_on e h3 (by decide); replace h4 := slot_on e h4 (by decide); replace h5 := slot_on e h5 (by decide); replace h6 := slot_on e h6 (by decide); replace h29 := slot_on e h29 (by decide); have h30 := g30; clear g30; clear e
  have Y : ∀ W, Keep (fun g => g < w0.heap.size) w0 W → (execOp a353.eval o7_5_3).run Try.prog W = .ok (.value (.agg #[.int .i64 b.k, .string (str b.nm), .int .i64 b.i, .slice ab b.args.length cb])) W := by intro W7 hS; have D := D349.keep hS D349.lt; have q0 : W7.cell? ⟨b2, 0, none⟩ = some (.int .i64 b.k) := D.cell 0; have q1 : W7.cell? ⟨b2, 1, none⟩ = some (.string (str b.nm)) := D.cell 1; have q2 : W7.cell? ⟨b2, 2, none⟩ = some (.int .i64 b.i) := D.cell 2; have q3 : W7.cell? ⟨b2, 3, none⟩ = some (.slice ab b.args.length cb) := D.cell 3; unfold o7_5_3; go_simp
  refine dr_take (i := 3) (fuel := 21) (l' := #[true, true, false, true, false, false, false, false, false, false, false, false, false, false, false, false, false, false, false, false, false, false, false, false]) g7_5_3 rfl ns7_5 (by kernel_rfl) (by kernel_rfl) rfl (wanted_free rfl) K346 Y fun a355 e => ?_; clear Y
  have g32 := R.at_ e (by decide); replace R := R.put e; replace h3 := slot_on e h3 (by decide); replace h4 := slot_on e h4 (by decide); replace h5 := slot_on e h5 (by decide); replace h6 := slot_on e h6 (by decide); replace h29 := slot_on e h29 (by decide); replace h30 := slot_on e h30 (by decide); have h32 := g32; clear g32; clear e
  have Y : ∀ W, Keep (fun g => g < w0.heap.size) w0 W → (execOp a355.eval o7_5_4).run Try.prog W = .ok (.value (.agg #[.int .i64 a.k, .string (str a.nm), .int .i64 a.i, .slice aa a.args.length ca])) W := by intro W7 hS; have D := D348.keep hS D348.lt; have q0 : W7.cell? ⟨b1, 0, none⟩ = some (.int .i64 a.k) := D.cell 0; have q1 : W7.cell? ⟨b1, 1, none⟩ = some (.string (str a.nm)) := D.cell 1; have q2 : W7.cell? ⟨b1, 2, none⟩ = some (.int .i64 a.i) := D.cell 2; have q3 : W7.cell? ⟨b1, 3, none⟩ = some (.slice aa a.args.length ca) := D.cell 3; unfold o7_5_4; go_simp
  refine dr_take (i := 4) (fuel := 20) (l' := #[true, true, false, true, true, false, false, false, false, false, false, false, false, false, false, false, false, false, false, false, false, false, false, false]) g7_5_4 rfl ns7_5 (by kernel_rfl) (by kernel_rfl) rfl (wanted_free rfl) K346 Y fun a357 e => ?_; clear Y
  have g33 := R.at_ e (by decide); replace R := R.put e; replace h3 := slot_on e h3 (by decide); replace h4 := slot_on e h4 (by decide); replace h5 := slot_on e h5 (by decide); replace h6 := slot_on e h6 (by decide); replace h29 := slot_on e h29 (by decide); replace h30 := slot_on e h30 (by decide); replace h32 := slot_on e h32 (by decide); have h33 := g33; clear g33; clear e
  refine dr_only (i := 2) (fuel := 19) (by kernel_rfl) ?_
  have Y : (execOp a357.eval o7_5_2).run Try.prog w347 = .ok (.enter 20 #[.agg #[.int .i64 a.k, .string (str a.nm), .int .i64 a.i, .slice aa a.args.length ca], .agg #[.int .i64 b.k, .string (str b.nm), .int .i64 b.i, .slice ab b.args.length cb]]) w347 := by unfold o7_5_2; go_simp
  have hord := Order_any (HA.out.on K1) (HB.out.on K1); rw [HOab.out] at hord
  refine dr_call (l' := #[true, true, true, true, true, false, false, false, false, false, false, false, false, false, false, false, false, false, false, false, false, false, false, false]) g7_5_2 rfl rfl (wanted_free rfl) Y ((hord).mono ?_); clear Y
  rintro e9 w359 ⟨rfl, kk⟩
  replace K1 := keep_onto K1 kk
  replace K346 := keep_onto K346 kk
  replace B1 := blk_on B1 kk
  replace B2 := blk_on B2 kk
  replace B3 := blk_on B3 kk
  clear kk
  clear hord
  refine ⟨_, rfl, K346, fun a360 e => ?_⟩
  have g31 := R.at_ e (by decide); replace R := R.put e; replace h3 := slot_on e h3 (by decide); replace h4 := slot_on e h4 (by decide); replace h5 := slot_on e h5 (by decide); replace h6 := slot_on e h6 (by decide); replace h32 := slot_on e h32 (by decide); replace h33 := slot_on e h33 (by decide); clear h29 h30; have h31 := g31; clear g31; clear e
  refine dr_only (i := 5) (fuel := 18) (by kernel_rfl) ?_
  have Y : (execOp a360.eval o7_5_5).run Try.prog w359 = .ok (.enter 20 #[.agg #[.int .i64 b.k, .string (str b.nm), .int .i64 b.i, .slice ab b.args.length cb], .agg #[.int .i64 a.k, .string (str a.nm), .int .i64 a.i, .slice aa a.args.length ca]]) w359 := by unfold o7_5_5; go_simp
  have hord := Order_any (HB.out.on K1) (HA.out.on K1); rw [HOba.out] at hord
  refine dr_call (l' := #[true, true, true, true, true, true, false, false, false, false, false, false, false, false, false, false, false, false, false, false, false, false, false, false]) g7_5_5 rfl rfl (wanted_free rfl) Y ((hord).mono ?_); clear Y
  rintro e9 w362 ⟨rfl, kk⟩
  replace K1 := keep_onto K1 kk
  replace K346 := keep_onto K346 kk
  replace B1 := blk_on B1 kk
  replace B2 := blk_on B2 kk
  replace B3 := blk_on B3 kk
  clear kk
  clear hord
  refine ⟨_, rfl, K346, fun a363 e => ?_⟩
  have g34 := R.at_ e (by decide); replace R := R.put e; replace h3 := slot_on e h3 (by decide); replace h4 := slot_on e h4 (by decide); replace h5 := slot_on e h5 (by decide); replace h6 := slot_on e h6 (by decide); replace h31 := slot_on e h31 (by decide); clear h32 h33; have h34 := g34; clear g34; clear e
  have Y : ∀ W, Keep (fun g => g < w0.heap.size) w0 W → (execOp a363.eval o7_5_6).run Try.prog W = .ok (.value (.int .i64 (-1))) W := by intro W7 hS; have hwr : IntKind.i64.wrap (-1) = (-1) := (by decide); unfold o7_5_6; go_simp
  refine dr_take (i := 6) (fuel := 17) (l' := #[true, true, true, true, true, true, true, false, false, false, false, false, false, false, false, false, false, false, false, false, false, false, false, false]) g7_5_6 rfl ns7_5 (by kernel_rfl) (by kernel_rfl) rfl (wanted_free rfl) K346 Y fun a365 e => ?_; clear Y
  have g35 := R.at_ e (by decide); replace R := R.put e; replace h3 := slot_on e h3 (by decide); replace h4 := slot_on e h4 (by decide); replace h5 := slot_on e h5 (by decide); replace h6 := slot_on e h6 (by decide); replace h31 := slot_on e h31 (by decide); clear h34; have h35 := g35; clear g35; clear e
  have Y : ∀ W, Keep (fun g => g < w0.heap.size) w0 W → (execOp a365.eval o7_5_7).run Try.prog W = .ok (.value (.bool false)) W := by intro W7 hS; unfold o7_5_7; go_simp
  refine dr_take (i := 7) (fuel := 16) (l' := #[true, true, true, true, true, true, true, true, false, false, false, false, false, false, false, false, false, false, false, false, false, false, false, false]) g7_5_7 rfl ns7_5 (by kernel_rfl) (by kernel_rfl) rfl (wanted_free rfl) K346 Y fun a367 e => ?_; clear Y
  have g36 := R.at_ e (by decide); replace R := R.put e; replace h3 := slot_on e h3 (by decide); replace h4 := slot_on e h4 (by decide); replace h5 := slot_on e h5 (by decide); replace h6 := slot_on e h6 (by decide); clear h31 h35; have h36 := g36; clear g36; clear e
  have Y : ∀ W, Keep (fun g => g < w0.heap.size) w0 W → (execOp a367.eval o7_5_8).run Try.prog W = .ok (.value (.bool false)) W := by intro W7 hS; unfold o7_5_8; go_simp
  refine dr_take (i := 8) (fuel := 15) (l' := #[true, true, true, true, true, true, true, true, true, false, false, false, false, false, false, false, false, false, false, false, false, false, false, false]) g7_5_8 rfl ns7_5 (by kernel_rfl) (by kernel_rfl) rfl (wanted_free rfl) K346 Y fun a369 e => ?_; clear Y
  have g37 := R.at_ e (by decide); replace R := R.put e; replace h3 := slot_on e h3 (by decide); replace h4 := slot_on e h4 (by decide); replace h5 := slot_on e h5 (by decide); replace h6 := slot_on e h6 (by decide); clear h36; have h37 := g37; clear g37; clear e
  have Y : ∀ W, Keep (fun g => g < w0.heap.size) w0 W → (execOp a369.eval o7_5_9).run Try.prog W = .ok (.value (.agg #[.int .i64 a.k, .string (str a.nm), .int .i64 a.i, .slice aa a.args.length ca])) W := by intro W7 hS; have D := D348.keep hS D348.lt; have q0 : W7.cell? ⟨b1, 0, none⟩ = some (.int .i64 a.k) := D.cell 0; have q1 : W7.cell? ⟨b1, 1, none⟩ = some (.string (str a.nm)) := D.cell 1; have q2 : W7.cell? ⟨b1, 2, none⟩ = some (.int .i64 a.i) := D.cell 2; have q3 : W7.cell? ⟨b1, 3, none⟩ = some (.slice aa a.args.length ca) := D.cell 3; unfold o7_5_9; go_simp
  refine dr_take (i := 9) (fuel := 14) (l' := #[true, true, true, true, true, true, true, true, true, true, false, false, false, false, false, false, false, false, false, false, false, false, false, false]) g7_5_9 rfl ns7_5 (by kernel_rfl) (by kernel_rfl) rfl (wanted_is (j := 8) (d := 37) rfl rfl h37 rfl) K346 Y fun a371 e => ?_; clear Y
  have g38 := R.at_ e (by decide); replace R := R.put e; replace h3 := slot_on e h3 (by decide); replace h4 := slot_on e h4 (by decide); replace h5 := slot_on e h5 (by decide); replace h6 := slot_on e h6 (by decide); replace h37 := slot_on e h37 (by decide); have h38 := g38; clear g38; clear e
  have Y : ∀ W, Keep (fun g => g < w0.heap.size) w0 W → (execOp a371.eval o7_5_10).run Try.prog W = .ok (.value (.agg #[.int .i64 a.k, .string (str a.nm), .int .i64 a.i, .slice aa a.args.length ca])) W := by intro W7 hS; have D := D348.keep hS D348.lt; have q0 : W7.cell? ⟨b1, 0, none⟩ = some (.int .i64 a.k) := D.cell 0; have q1 : W7.cell? ⟨b1, 1, none⟩ = some (.string (str a.nm)) := D.cell 1; have q2 : W7.cell? ⟨b1, 2, none⟩ = some (.int .i64 a.i) := D.cell 2; have q3 : W7.cell? ⟨b1, 3, none⟩ = some (.slice aa a.args.length ca) := D.cell 3; unfold o7_5_10; go_simp
  refine dr_take (i := 10) (fuel := 13) (l' := #[true, true, true, true, true, true, true, true, true, true, true, false, false, false, false, false, false, false, false, false, false, false, false, false]) g7_5_10 rfl ns7_5 (by kernel_rfl) (by kernel_rfl) rfl (wanted_is (j := 8) (d := 37) rfl rfl h37 rfl) K346 Y fun a373 e => ?_; clear Y
  have g39 := R.at_ e (by decide); replace R := R.put e; replace h3 := slot_on e h3 (by decide); replace h4 := slot_on e h4 (by decide); replace h5 := slot_on e h5 (by decide); replace h6 := slot_on e h6 (by decide); replace h37 := slot_on e h37 (by decide); replace h38 := slot_on e h38 (by decide); have h39 := g39; clear g39; clear e
  refine dr_only (i := 11) (fuel := 12) (by kernel_rfl) ?_
  have Y : (execOp a373.eval o7_5_11).run Try.prog w362 = .ok (.enter 20 #[.agg #[.int .i64 a.k, .string (str a.nm), .int .i64 a.i, .slice aa a.args.length ca], .agg #[.int .i64 a.k, .string (str a.nm), .int .i64 a.i, .slice aa a.args.length ca]]) w362 := by unfold o7_5_11; go_simp
  have hord := Order_any (HA.out.on K1) (HA.out.on K1); rw [HOaa.out] at hord
  refine dr_call (l' := #[true, true, true, true, true, true, true, true, true, true, true, true, false, false, false, false, false, false, false, false, false, false, false, false]) g7_5_11 rfl rfl (wanted_is (j := 8) (d := 37) rfl rfl h37 rfl) Y ((hord).mono ?_); clear Y
  rintro e9 w375 ⟨rfl, kk⟩
  replace K1 := keep_onto K1 kk
  replace K346 := keep_onto K346 kk
  replace B1 := blk_on B1 kk
  replace B2 := blk_on B2 kk
  replace B3 := blk_on B3 kk
  clear kk
  clear hord
  refine ⟨_, rfl, K346, fun a376 e => ?_⟩
  have g40 := R.at_ e (by decide); replace R := R.put e; replace h3 := slot_on e h3 (by decide); replace h4 := slot_on e h4 (by decide); replace h5 := slot_on e h5 (by decide); replace h6 := slot_on e h6 (by decide); replace h37 := slot_on e h37 (by decide); clear h38 h39; have h40 := g40; clear g40; clear e
  have Y : ∀ W, Keep (fun g => g < w0.heap.size) w0 W → (execOp a376.eval o7_5_12).run Try.prog W = .ok (.value (.bool false)) W := by intro W7 hS; unfold o7_5_12; go_simp
  refine dr_take (i := 12) (fuel := 11) (l' := #[true, true, true, true, true, true, true, true, true, true, true, true, true, false, false, false, false, false, false, false, false, false, false, false]) g7_5_12 rfl ns7_5 (by kernel_rfl) (by kernel_rfl) rfl (wanted_is (j := 8) (d := 37) rfl rfl h37 rfl) K346 Y fun a378 e => ?_; clear Y
  have g41 := R.at_ e (by decide); replace R := R.put e; replace h3 := slot_on e h3 (by decide); replace h4 := slot_on e h4 (by decide); replace h5 := slot_on e h5 (by decide); replace h6 := slot_on e h6 (by decide); replace h37 := slot_on e h37 (by decide); clear h40; have h41 := g41; clear g41; clear e
  have Y : ∀ W, Keep (fun g => g < w0.heap.size) w0 W → (execOp a378.eval o7_5_13).run Try.prog W = .ok (.value (.bool false)) W := by intro W7 hS; unfold o7_5_13; go_simp
  refine dr_take (i := 13) (fuel := 10) (l' := #[true, true, true, true, true, true, true, true, true, true, true, true, true, true, false, false, false, false, false, false, false, false, false, false]) g7_5_13 rfl ns7_5 (by kernel_rfl) (by kernel_rfl) rfl (wanted_free rfl) K346 Y fun a380 e => ?_; clear Y
  have g42 := R.at_ e (by decide); replace R := R.put e; replace h3 := slot_on e h3 (by decide); replace h4 := slot_on e h4 (by decide); replace h5 := slot_on e h5 (by decide); replace h6 := slot_on e h6 (by decide); clear h37 h41; have h42 := g42; clear g42; clear e
  have Y : ∀ W, Keep (fun g => g < w0.heap.size) w0 W → (execOp a380.eval o7_5_14).run Try.prog W = .ok (.value (.bool false)) W := by intro W7 hS; unfold o7_5_14; go_simp
  refine dr_take (i := 14) (fuel := 9) (l' := #[true, true, true, true, true, true, true, true, true, true, true, true, true, true, true, false, false, false, false, false, false, false, false, false]) g7_5_14 rfl ns7_5 (by kernel_rfl) (by kernel_rfl) rfl (wanted_free rfl) K346 Y fun a382 e => ?_; clear Y
  have g43 := R.at_ e (by decide); replace R := R.put e; replace h3 := slot_on e h3 (by decide); replace h4 := slot_on e h4 (by decide); replace h5 := slot_on e h5 (by decide); replace h6 := slot_on e h6 (by decide); clear h42; have h43 := g43; clear g43; clear e
  have Y : ∀ W, Keep (fun g => g < w0.heap.size) w0 W → (execOp a382.eval o7_5_15).run Try.prog W = .ok (.value (.agg #[.int .i64 a.k, .string (str a.nm), .int .i64 a.i, .slice aa a.args.length ca])) W := by intro W7 hS; have D := D348.keep hS D348.lt; have q0 : W7.cell? ⟨b1, 0, none⟩ = some (.int .i64 a.k) := D.cell 0; have q1 : W7.cell? ⟨b1, 1, none⟩ = some (.string (str a.nm)) := D.cell 1; have q2 : W7.cell? ⟨b1, 2, none⟩ = some (.int .i64 a.i) := D.cell 2; have q3 : W7.cell? ⟨b1, 3, none⟩ = some (.slice aa a.args.length ca) := D.cell 3; unfold o7_5_15; go_simp
  refine dr_take (i := 15) (fuel := 8) (l' := #[true, true, true, true, true, true, true, true, true, true, true, true, true, true, true, true, false, false, false, false, false, false, false, false]) g7_5_15 rfl ns7_5 (by kernel_rfl) (by kernel_rfl) rfl (wanted_is (j := 14) (d := 43) rfl rfl h43 rfl) K346 Y fun a384 e => ?_; clear Y
  have g44 := R.at_ e (by decide); replace R := R.put e; replace h3 := slot_on e h3 (by decide); replace h4 := slot_on e h4 (by decide); replace h5 := slot_on e h5 (by decide); replace h6 := slot_on e h6 (by decide); replace h43 := slot_on e h43 (by decide); have h44 := g44; clear g44; clear e
  have Y : ∀ W, Keep (fun g => g < w0.heap.size) w0 W → (execOp a384.eval o7_5_16).run Try.prog W = .ok (.value (.agg #[.int .i64 b.k, .string (str b.nm), .int .i64 b.i, .slice ab b.args.length cb])) W := by intro W7 hS; have D := D349.keep hS D349.lt; have q0 : W7.cell? ⟨b2, 0, none⟩ = some (.int .i64 b.k) := D.cell 0; have q1 : W7.cell? ⟨b2, 1, none⟩ = some (.string (str b.nm)) := D.cell 1; have q2 : W7.cell? ⟨b2, 2, none⟩ = some (.int .i64 b.i) := D.cell 2; have q3 : W7.cell? ⟨b2, 3, none⟩ = some (.slice ab b.args.length cb) := D.cell 3; unfold o7_5_16; go_simp
  refine dr_take (i := 16) (fuel := 7) (l' := #[true, true, true, true, true, true, true, true, true, true, true, true, true, true, true, true, true, false, false, false, false, false, false, false]) g7_5_16 rfl ns7_5 (by kernel_rfl) (by kernel_rfl) rfl (wanted_is (j := 14) (d := 43) rfl rfl h43 rfl) K346 Y fun a386 e => ?_; clear Y
  have g45 := R.at_ e (by decide); replace R := R.put e; replace h3 := slot_on e h3 (by decide); replace h4 := slot_on e h4 (by decide); replace h5 := slot_on e h5 (by decide); replace h6 := slot_on e h6 (by decide); replace h43 := slot_on e h43 (by decide); replace h44 := slot_on e h44 (by decide); have h45 := g45; clear g45; clear e
  have Y : ∀ W, Keep (fun g => g < w0.heap.size) w0 W → (execOp a386.eval o7_5_19).run Try.prog W = .ok (.value (.agg #[.int .i64 a.k, .string (str a.nm), .int .i64 a.i, .slice aa a.args.length ca])) W := by intro W7 hS; have D := D348.keep hS D348.lt; have q0 : W7.cell? ⟨b1, 0, none⟩ = some (.int .i64 a.k) := D.cell 0; have q1 : W7.cell? ⟨b1, 1, none⟩ = some (.string (str a.nm)) := D.cell 1; have q2 : W7.cell? ⟨b1, 2, none⟩ = some (.int .i64 a.i) := D.cell 2; have q3 : W7.cell? ⟨b1, 3, none⟩ = some (.slice aa a.args.length ca) := D.cell 3; unfold o7_5_19; go_simp
  refine dr_take (i := 19) (fuel := 6) (l' := #[true, true, true, true, true, true, true, true, true, true, true, true, true, true, true, true, true, false, false, true, false, false, false, false]) g7_5_19 rfl ns7_5 (by kernel_rfl) (by kernel_rfl) rfl (wanted_is (j := 14) (d := 43) rfl rfl h43 rfl) K346 Y fun a388 e => ?_; clear Y
  have g48 := R.at_ e (by decide); replace R := R.put e; replace h3 := slot_on e h3 (by decide); replace h4 := slot_on e h4 (by decide); replace h5 := slot_on e h5 (by decide); replace h6 := slot_on e h6 (by decide); replace h43 := slot_on e h43 (by decide); replace h44 := slot_on e h44 (by decide); replace h45 := slot_on e h45 (by decide); have h48 := g48; clear g48; clear e
  have Y : ∀ W, Keep (fun g => g < w0.heap.size) w0 W → (execOp a388.eval o7_5_20).run Try.prog W = .ok (.value (.agg #[.int .i64 b.k, .string (str b.nm), .int .i64 b.i, .slice ab b.args.length cb])) W := by intro W7 hS; have D := D349.keep hS D349.lt; have q0 : W7.cell? ⟨b2, 0, none⟩ = some (.int .i64 b.k) := D.cell 0; have q1 : W7.cell? ⟨b2, 1, none⟩ = some (.string (str b.nm)) := D.cell 1; have q2 : W7.cell? ⟨b2, 2, none⟩ = some (.int .i64 b.i) := D.cell 2; have q3 : W7.cell? ⟨b2, 3, none⟩ = some (.slice ab b.args.length cb) := D.cell 3; unfold o7_5_20; go_simp
  refine dr_take (i := 20) (fuel := 5) (l' := #[true, true, true, true, true, true, true, true, true, true, true, true, true, true, true, true, true, false, false, true, true, false, false, false]) g7_5_20 rfl ns7_5 (by kernel_rfl) (by kernel_rfl) rfl (wanted_is (j := 14) (d := 43) rfl rfl h43 rfl) K346 Y fun a390 e => ?_; clear Y
  have g49 := R.at_ e (by decide); replace R := R.put e; replace h3 := slot_on e h3 (by decide); replace h4 := slot_on e h4 (by decide); replace h5 := slot_on e h5 (by decide); replace h6 := slot_on e h6 (by decide); replace h43 := slot_on e h43 (by decide); replace h44 := slot_on e h44 (by decide); replace h45 := slot_on e h45 (by decide); replace h48 := slot_on e h48 (by decide); have h49 := g49; clear g49; clear e
  refine dr_only (i := 17) (fuel := 4) (by kernel_rfl) ?_
  have Y : (execOp a390.eval o7_5_17).run Try.prog w375 = .ok (.enter 20 #[.agg #[.int .i64 a.k, .string (str a.nm), .int .i64 a.i, .slice aa a.args.length ca], .agg #[.int .i64 b.k, .string (str b.nm), .int .i64 b.i, .slice ab b.args.length cb]]) w375 := by unfold o7_5_17; go_simp
  have hord := Order_any (HA.out.on K1) (HB.out.on K1); rw [HOab.out] at hord
  refine dr_call (l' := #[true, true, true, true, true, true, true, true, true, true, true, true, true, true, true, true, true, true, false, true, true, false, false, false]) g7_5_17 rfl rfl (wanted_is (j := 14) (d := 43) rfl rfl h43 rfl) Y ((hord).mono ?_); clear Y
  rintro e9 w392 ⟨rfl, kk⟩
  replace K1 := keep_onto K1 kk
  replace K346 := keep_onto K346 kk
  replace B1 := blk_on B1 kk
  replace B2 := blk_on B2 kk
  replace B3 := blk_on B3 kk
  clear kk
  clear hord
  refine ⟨_, rfl, K346, fun a393 e => ?_⟩
  have g46 := R.at_ e (by decide); replace R := R.put e; replace h3 := slot_on e h3 (by decide); replace h4 := slot_on e h4 (by decide); replace h5 := slot_on e h5 (by decide); replace h6 := slot_on e h6 (by decide); replace h43 := slot_on e h43 (by decide); replace h48 := slot_on e h48 (by decide); replace h49 := slot_on e h49 (by decide); clear h44 h45; have h46 := g46; clear g46; clear e
  have Y : ∀ W, Keep (fun g => g < w0.heap.size) w0 W → (execOp a393.eval o7_5_18).run Try.prog W = .ok (.value (.bool false)) W := by intro W7 hS; unfold o7_5_18; go_simp
  refine dr_take (i := 18) (fuel := 3) (l' := #[true, true, true, true, true, true, true, true, true, true, true, true, true, true, true, true, true, true, true, true, true, false, false, false]) g7_5_18 rfl ns7_5 (by kernel_rfl) (by kernel_rfl) rfl (wanted_is (j := 14) (d := 43) rfl rfl h43 rfl) K346 Y fun a395 e => ?_; clear Y
  have g47 := R.at_ e (by decide); replace R := R.put e; replace h3 := slot_on e h3 (by decide); replace h4 := slot_on e h4 (by decide); replace h5 := slot_on e h5 (by decide); replace h6 := slot_on e h6 (by decide); replace h43 := slot_on e h43 (by decide); replace h48 := slot_on e h48 (by decide); replace h49 := slot_on e h49 (by decide); clear h46; have h47 := g47; clear g47; clear e
  refine dr_only (i := 21) (fuel := 2) (by kernel_rfl) ?_
  have Y : (execOp a395.eval o7_5_21).run Try.prog w392 = .ok (.enter 19 #[.agg #[.int .i64 a.k, .string (str a.nm), .int .i64 a.i, .slice aa a.args.length ca], .agg #[.int .i64 b.k, .string (str b.nm), .int .i64 b.i, .slice ab b.args.length cb]]) w392 := by unfold o7_5_21; go_simp
  have hsm := Same_any (HA.out.on K1) (HB.out.on K1); rw [HSM.out] at hsm
  refine dr_call (l' := #[true, true, true, true, true, true, true, true, true, true, true, true, true, true, true, true, true, true, true, true, true, true, false, false]) g7_5_21 rfl rfl (wanted_is (j := 14) (d := 43) rfl rfl h43 rfl) Y ((hsm).mono ?_); clear Y
  rintro e9 w397 ⟨rfl, kk⟩
  replace K1 := keep_onto K1 kk
  replace K346 := keep_onto K346 kk
  replace B1 := blk_on B1 kk
  replace B2 := blk_on B2 kk
  replace B3 := blk_on B3 kk
  clear kk
  clear hsm
  refine ⟨_, rfl, K346, fun a398 e => ?_⟩
  have g50 := R.at_ e (by decide); replace R := R.put e; replace h3 := slot_on e h3 (by decide); replace h4 := slot_on e h4 (by decide); replace h5 := slot_on e h5 (by decide); replace h6 := slot_on e h6 (by decide); replace h43 := slot_on e h43 (by decide); replace h47 := slot_on e h47 (by decide); clear h48 h49; have h50 := g50; clear g50; clear e
  have Y : ∀ W, Keep (fun g => g < w0.heap.size) w0 W → (execOp a398.eval o7_5_22).run Try.prog W = .ok (.value (.bool false)) W := by intro W7 hS; unfold o7_5_22; go_simp
  refine dr_take (i := 22) (fuel := 1) (l' := #[true, true, true, true, true, true, true, true, true, true, true, true, true, true, true, true, true, true, true, true, true, true, true, false]) g7_5_22 rfl ns7_5 (by kernel_rfl) (by kernel_rfl) rfl (wanted_is (j := 14) (d := 43) rfl rfl h43 rfl) K346 Y fun a400 e => ?_; clear Y
  have g51 := R.at_ e (by decide); replace R := R.put e; replace h3 := slot_on e h3 (by decide); replace h4 := slot_on e h4 (by decide); replace h5 := slot_on e h5 (by decide); replace h6 := slot_on e h6 (by decide); replace h43 := slot_on e h43 (by decide); clear h47 h50; have h51 := g51; clear g51; clear e
  have Y : ∀ W, Keep (fun g => g < w0.heap.size) w0 W → (execOp a400.eval o7_5_23).run Try.prog W = .ok (.value (.bool false)) W := by intro W7 hS; unfold o7_5_23; go_simp
  refine dr_take (i := 23) (fuel := 0) (l' := #[true, true, true, true, true, true, true, true, true, true, true, true, true, true, true, true, true, true, true, true, true, true, true, true]) g7_5_23 rfl ns7_5 (by kernel_rfl) (by kernel_rfl) rfl (wanted_free rfl) K346 Y fun a402 e => ?_; clear Y
  have g52 := R.at_ e (by decide); replace R := R.put e; replace h3 := slot_on e h3 (by decide); replace h4 := slot_on e h4 (by decide); replace h5 := slot_on e h5 (by decide); replace h6 := slot_on e h6 (by decide); clear h43 h51; have h52 := g52; clear g52; clear e
  refine dr_end (by kernel_rfl) ?_
  clear K346 D348 D349 D350
  change (c7_21).wp _ _ _ _
  refine wp_cond_false (x := c7_22) (y := Code.skip) (eval_slot h52) ?_
  refine wp_skip ?_
  exact ow7 (a := a) (b := b) (c := c) (aa := aa) (ab := ab) (ac := ac) (ca := ca) (cb := cb) (cc := cc) R h3 h4 h5 h6 K1 B1 B2 B3 HA HREN HP HB HC HOab HObc HOac HTR

set_option maxRecDepth 100000 in
set_option maxHeartbeats 4000000 in
theorem ow1_a {W : World} {a b c : Tm} {aa ab ac : Option Addr} {ca cb cc : Nat} {m : Int} {f0 : Act} {w0 : World} (R : FrS 125 f0) (h0 : f0.tmps[0]? = some (.agg #[.int .i64 a.k, .string (str a.nm), .int .i64 a.i, .slice aa a.args.length ca])) (h1 : f0.tmps[1]? = some (.agg #[.int .i64 b.k, .string (str b.nm), .int .i64 b.i, .slice ab b.args.length cb])) (h2 : f0.tmps[2]? = some (.agg #[.int .i64 c.k, .string (str c.nm), .int .i64 c.i, .slice ac c.args.length cc])) (h3 : f0.tmps[3]? = some (.int .i64 m)) (K1 : Keep (fun g => g < W.heap.size) W w0)  (HRa : Hid (a.right = false)) (HA : Hid (TmAt W.heap.size W a aa ca)) (HB : Hid (TmAt W.heap.size W b ab cb)) (HC : Hid (TmAt W.heap.size W c ac cc)) : c7_0.wp Try.prog (bodyPost Try.prog Try.f7 (fun e w' => e = .returned (.bool true) ∧ Keep (fun g => g < W.heap.size) W w')) f0 w0 := by
  refine wp_seq (x := c7_1) (y := c7_2) ?_
  change (Code.region 0 O7_0 false).wp _ _ _ _
  refine reg_in (l := [0, 1, 2, 3]) rfl ?_
  have MK1 := K1
  have Y : (execOp f0.eval o7_0_0).run Try.prog w0 = .ok (.value (.pointer (some ⟨w0.heap.size, 0, none⟩))) (w0.alloc (.cells #[.int .i64 a.k, .string (str a.nm), .int .i64 a.i, .slice aa a.args.length ca] 24)) := by unfold o7_0_0; go_simp
  have B404 := Blk.new w0 24 #[.int .i64 a.k, .string (str a.nm), .int .i64 a.i, .slice aa a.args.length ca]
  replace K1 := K1.alloc (.cells #[.int .i64 a.k, .string (str a.nm), .int .i64 a.i, .slice aa a.args.length ca] 24)
  obtain ⟨w405, hw405⟩ : ∃ x, x = w0.alloc (.cells #[.int .i64 a.k, .string (str a.nm), .int .i64 a.i, .slice aa a.args.length ca] 24) := ⟨_, rfl⟩
  rw [← hw405] at Y B404 K1
  obtain ⟨b404, hb404⟩ : ∃ x, x = w0.heap.size := ⟨_, rfl⟩
  rw [← hb404] at Y B404
  have LK1_b404 : W.heap.size ≤ b404 := by rw [hb404]; first | exact Nat.le_refl _ | exact MK1.size
  clear hw405 hb404 MK1
  refine st_val g7_0_0 rfl (wanted_free rfl) Y fun a406 e => ?_; clear Y
  have g4 := R.at_ e (by decide); replace R := R.put e; replace h1 := slot_on e h1 (by decide); replace h2 := slot_on e h2 (by decide); replace h3 := slot_on e h3 (by decide); clear h0; have h4 := g4; clear g4; clear e
  have MK1 := K1
  have Y : (execOp a406.eval o7_0_1).run Try.prog w405 = .ok (.value (.pointer (some ⟨w405.heap.size, 0, none⟩))) (w405.alloc (.cells #[.int .i64 b.k, .string (str b.nm), .int .i64 b.i, .slice ab b.args.length cb] 24)) := by unfold o7_0_1; go_simp
  have B408 := Blk.new w405 24 #[.int .i64 b.k, .string (str b.nm), .int .i64 b.i, .slice ab b.args.length cb]
  replace K1 := K1.alloc (.cells #[.int .i64 b.k, .string (str b.nm), .int .i64 b.i, .slice ab b.args.length cb] 24)
  have Nb404_b408 := Nat.ne_of_lt B404.lt; replace B404 := B404.alloc (.cells #[.int .i64 b.k, .string (str b.nm), .int .i64 b.i, .slice ab b.args.length cb] 24)
  obtain ⟨w409, hw409⟩ : ∃ x, x = w405.alloc (.cells #[.int .i64 b.k, .string (str b.nm), .int .i64 b.i, .slice ab b.args.length cb] 24) := ⟨_, rfl⟩
  rw [← hw409] at Y B408 K1 B404
  obtain ⟨b408, hb408⟩ : ∃ x, x = w405.heap.size := ⟨_, rfl⟩
  rw [← hb408] at Y B408 Nb404_b408
  have LK1_b408 : W.heap.size ≤ b408 := by rw [hb408]; first | exact Nat.le_refl _ | exact MK1.size
  clear hw409 hb408 MK1
  refine st_val g7_0_1 rfl (wanted_free rfl) Y fun a410 e => ?_; clear Y
  have g5 := R.at_ e (by decide); replace R := R.put e; replace h2 := slot_on e h2 (by decide); replace h3 := slot_on e h3 (by decide); replace h4 := slot_on e h4 (by decide); clear h1; have h5 := g5; clear g5; clear e
  have MK1 := K1
  have Y : (execOp a410.eval o7_0_2).run Try.prog w409 = .ok (.value (.pointer (some ⟨w409.heap.size, 0, none⟩))) (w409.alloc (.cells #[.int .i64 c.k, .string (str c.nm), .int .i64 c.i, .slice ac c.args.length cc] 24)) := by unfold o7_0_2; go_simp
  have B412 := Blk.new w409 24 #[.int .i64 c.k, .string (str c.nm), .int .i64 c.i, .slice ac c.args.length cc]
  replace K1 := K1.alloc (.cells #[.int .i64 c.k, .string (str c.nm), .int .i64 c.i, .slice ac c.args.length cc] 24)
  have Nb404_b412 := Nat.ne_of_lt B404.lt; replace B404 := B404.alloc (.cells #[.int .i64 c.k, .string (str c.nm), .int .i64 c.i, .slice ac c.args.length cc] 24)
  have Nb408_b412 := Nat.ne_of_lt B408.lt; replace B408 := B408.alloc (.cells #[.int .i64 c.k, .string (str c.nm), .int .i64 c.i, .slice ac c.args.length cc] 24)
  obtain ⟨w413, hw413⟩ : ∃ x, x = w409.alloc (.cells #[.int .i64 c.k, .string (str c.nm), .int .i64 c.i, .slice ac c.args.length cc] 24) := ⟨_, rfl⟩
  rw [← hw413] at Y B412 K1 B404 B408
  obtain ⟨b412, hb412⟩ : ∃ x, x = w409.heap.size := ⟨_, rfl⟩
  rw [← hb412] at Y B412 Nb404_b412 Nb408_b412
  have LK1_b412 : W.heap.size ≤ b412 := by rw [hb412]; first | exact Nat.le_refl _ | exact MK1.size
  clear hw413 hb412 MK1
  refine st_val g7_0_2 rfl (wanted_free rfl) Y fun a414 e => ?_; clear Y
  have g6 := R.at_ e (by decide); replace R := R.put e; replace h3 := slot_on e h3 (by decide); replace h4 := slot_on e h4 (by decide); replace h5 := slot_on e h5 (by decide); clear h2; have h6 := g6; clear g6; clear e
  have Y : (execOp a414.eval o7_0_3).run Try.prog w413 = .ok (.value (.bool false)) w413 := by unfold o7_0_3; go_simp
  refine st_val g7_0_3 rfl (wanted_free rfl) Y fun a416 e => ?_; clear Y
  have g8 := R.at_ e (by decide); replace R := R.put e; replace h3 := slot_on e h3 (by decide); replace h4 := slot_on e h4 (by decide); replace h5 := slot_on e h5 (by decide); replace h6 := slot_on e h6 (by decide); have h8 := g8; clear g8; clear e
  refine st_end ?_
  change (c7_2).wp _ _ _ _
  refine wp_seq (x := c7_3) (y := c7_10) ?_
  refine wp_seq (x := c7_4) (y := c7_5) ?_
  change (Code.region 1 O7_1 false).wp _ _ _ _
  refine reg_in (l := [0, 1]) rfl ?_
  have Y : (execOp a416.eval o7_1_0).run Try.prog w413 = .ok (.enter 13 #[]) w413 := by unfold o7_1_0; go_simp
  refine st_call g7_1_0 rfl (wanted_free rfl) Y ((alive_any (w := w413)).mono ?_); clear Y
  rintro e9 w418 ⟨rfl, kk⟩
  replace K1 := keep_onto K1 kk
  replace B404 := blk_on B404 kk
  replace B408 := blk_on B408 kk
  replace B412 := blk_on B412 kk
  clear kk
  refine ⟨_, rfl, fun a419 e => ?_⟩
  have g14 := R.at_ e (by decide); replace R := R.put e; replace h3 := slot_on e h3 (by decide); replace h4 := slot_on e h4 (by decide); replace h5 := slot_on e h5 (by decide); replace h6 := slot_on e h6 (by decide); replace h8 := slot_on e h8 (by decide); have h14 := g14; clear g14; clear e
  have Y : (execOp a419.eval o7_1_1).run Try.prog w418 = .ok (.value (.bool false)) w418 := by unfold o7_1_1; go_simp
  refine st_val g7_1_1 rfl (wanted_free rfl) Y fun a421 e => ?_; clear Y
  have g15 := R.at_ e (by decide); replace R := R.put e; replace h3 := slot_on e h3 (by decide); replace h4 := slot_on e h4 (by decide); replace h5 := slot_on e h5 (by decide); replace h6 := slot_on e h6 (by decide); replace h8 := slot_on e h8 (by decide); clear h14; have h15 := g15; clear g15; clear e
  refine st_end ?_
  change (c7_5).wp _ _ _ _
  refine wp_cond_false (x := c7_6) (y := Code.skip) (eval_slot h15) ?_
  refine wp_skip ?_
  change (c7_10).wp _ _ _ _
  refine wp_seq (x := c7_11) (y := c7_18) ?_
  refine wp_seq (x := c7_12) (y := c7_13) ?_
  change (Code.region 3 O7_3 false).wp _ _ _ _
  refine reg_in (l := [0, 1, 2, 3, 4, 5, 6, 7, 8, 9, 10, 11, 12]) rfl ?_
  have Y : (execOp a421.eval o7_3_0).run Try.prog w418 = .ok (.value (.agg #[.int .i64 a.k, .string (str a.nm), .int .i64 a.i, .slice aa a.args.length ca])) w418 := by have q0 : w418.cell? ⟨b404, 0, none⟩ = some (.int .i64 a.k) := B404.cell 0; have q1 : w418.cell? ⟨b404, 1, none⟩ = some (.string (str a.nm)) := B404.cell 1; have q2 : w418.cell? ⟨b404, 2, none⟩ = some (.int .i64 a.i) := B404.cell 2; have q3 : w418.cell? ⟨b404, 3, none⟩ = some (.slice aa a.args.length ca) := B404.cell 3; unfold o7_3_0; go_simp
  refine st_val g7_3_0 rfl (wanted_free rfl) Y fun a423 e => ?_; clear Y
  have g16 := R.at_ e (by decide); replace R := R.put e; replace h3 := slot_on e h3 (by decide); replace h4 := slot_on e h4 (by decide); replace h5 := slot_on e h5 (by decide); replace h6 := slot_on e h6 (by decide); replace h8 := slot_on e h8 (by decide); clear h15; have h16 := g16; clear g16; clear e
  have Y : (execOp a423.eval o7_3_1).run Try.prog w418 = .ok (.enter 15 #[.agg #[.int .i64 a.k, .string (str a.nm), .int .i64 a.i, .slice aa a.args.length ca]]) w418 := by unfold o7_3_1; go_simp
  have hck := check_any (HA.out.on K1); rw [HRa.out] at hck
  refine st_call g7_3_1 rfl (wanted_free rfl) Y ((hck).mono ?_); clear Y
  rintro e9 w425 ⟨rfl, kk⟩
  replace K1 := keep_onto K1 kk
  replace B404 := blk_on B404 kk
  replace B408 := blk_on B408 kk
  replace B412 := blk_on B412 kk
  clear kk
  clear hck
  refine ⟨_, rfl, fun a426 e => ?_⟩
  have g17 := R.at_ e (by decide); replace R := R.put e; replace h3 := slot_on e h3 (by decide); replace h4 := slot_on e h4 (by decide); replace h5 := slot_on e h5 (by decide); replace h6 := slot_on e h6 (by decide); replace h8 := slot_on e h8 (by decide); clear h16; have h17 := g17; clear g17; clear e
  have Y : (execOp a426.eval o7_3_2).run Try.prog w425 = .ok (.value (.bool true)) w425 := by unfold o7_3_2; go_simp
  refine st_val g7_3_2 rfl (wanted_free rfl) Y fun a428 e => ?_; clear Y
  have g18 := R.at_ e (by decide); replace R := R.put e; replace h3 := slot_on e h3 (by decide); replace h4 := slot_on e h4 (by decide); replace h5 := slot_on e h5 (by decide); replace h6 := slot_on e h6 (by decide); replace h8 := slot_on e h8 (by decide); clear h17; have h18 := g18; clear g18; clear e
  have Y : (execOp a428.eval o7_3_3).run Try.prog w425 = .ok (.value (.bool true)) w425 := by unfold o7_3_3; go_simp
  refine st_val g7_3_3 rfl (wanted_free rfl) Y fun a430 e => ?_; clear Y
  have g19 := R.at_ e (by decide); replace R := R.put e; replace h3 := slot_on e h3 (by decide); replace h4 := slot_on e h4 (by decide); replace h5 := slot_on e h5 (by decide); replace h6 := slot_on e h6 (by decide); replace h8 := slot_on e h8 (by decide); clear h18; have h19 := g19; clear g19; clear e
  refine st_not g7_3_4 rfl (wanted_is (j := 3) (d := 19) rfl rfl h19 rfl) fun a432 e => ?_
  have g20 := R.at_ e (by decide); replace R := R.put e; replace h3 := slot_on e h3 (by decide); replace h4 := slot_on e h4 (by decide); replace h5 := slot_on e h5 (by decide); replace h6 := slot_on e h6 (by decide); replace h8 := slot_on e h8 (by decide); replace h19 := slot_on e h19 (by decide); have h20 := g20; clear g20; clear e
  refine st_not g7_3_5 rfl (wanted_is (j := 3) (d := 19) rfl rfl h19 rfl) fun a434 e => ?_
  have g21 := R.at_ e (by decide); replace R := R.put e; replace h3 := slot_on e h3 (by decide); replace h4 := slot_on e h4 (by decide); replace h5 := slot_on e h5 (by decide); replace h6 := slot_on e h6 (by decide); replace h8 := slot_on e h8 (by decide); replace h19 := slot_on e h19 (by decide); clear h20; have h21 := g21; clear g21; clear e
  refine st_not g7_3_6 rfl (wanted_is (j := 3) (d := 19) rfl rfl h19 rfl) fun a436 e => ?_
  have g22 := R.at_ e (by decide); replace R := R.put e; replace h3 := slot_on e h3 (by decide); replace h4 := slot_on e h4 (by decide); replace h5 := slot_on e h5 (by decide); replace h6 := slot_on e h6 (by decide); replace h8 := slot_on e h8 (by decide); replace h19 := slot_on e h19 (by decide); clear h21; have h22 := g22; clear g22; clear e
  have Y : (execOp a436.eval o7_3_7).run Try.prog w425 = .ok (.value (.bool true)) w425 := by unfold o7_3_7; go_simp
  refine st_val g7_3_7 rfl (wanted_free rfl) Y fun a438 e => ?_; clear Y
  have g23 := R.at_ e (by decide); replace R := R.put e; replace h3 := slot_on e h3 (by decide); replace h4 := slot_on e h4 (by decide); replace h5 := slot_on e h5 (by decide); replace h6 := slot_on e h6 (by decide); replace h8 := slot_on e h8 (by decide); clear h19 h22; have h23 := g23; clear g23; clear e
  have Y : (execOp a438.eval o7_3_8).run Try.prog w425 = .ok (.value (.bool true)) w425 := by unfold o7_3_8; go_simp
  refine st_val g7_3_8 rfl (wanted_free rfl) Y fun a440 e => ?_; clear Y
  have g24 := R.at_ e (by decide); replace R := R.put e; replace h3 := slot_on e h3 (by decide); replace h4 := slot_on e h4 (by decide); replace h5 := slot_on e h5 (by decide); replace h6 := slot_on e h6 (by decide); replace h8 := slot_on e h8 (by decide); clear h23; have h24 := g24; clear g24; clear e
  refine st_not g7_3_9 rfl (wanted_is (j := 8) (d := 24) rfl rfl h24 rfl) fun a442 e => ?_
  have g25 := R.at_ e (by decide); replace R := R.put e; replace h3 := slot_on e h3 (by decide); replace h4 := slot_on e h4 (by decide); replace h5 := slot_on e h5 (by decide); replace h6 := slot_on e h6 (by decide); replace h8 := slot_on e h8 (by decide); replace h24 := slot_on e h24 (by decide); have h25 := g25; clear g25; clear e
  refine st_not g7_3_10 rfl (wanted_is (j := 8) (d := 24) rfl rfl h24 rfl) fun a444 e => ?_
  have g26 := R.at_ e (by decide); replace R := R.put e; replace h3 := slot_on e h3 (by decide); replace h4 := slot_on e h4 (by decide); replace h5 := slot_on e h5 (by decide); replace h6 := slot_on e h6 (by decide); replace h8 := slot_on e h8 (by decide); replace h24 := slot_on e h24 (by decide); clear h25; have h26 := g26; clear g26; clear e
  refine st_not g7_3_11 rfl (wanted_is (j := 8) (d := 24) rfl rfl h24 rfl) fun a446 e => ?_
  have g27 := R.at_ e (by decide); replace R := R.put e; replace h3 := slot_on e h3 (by decide); replace h4 := slot_on e h4 (by decide); replace h5 := slot_on e h5 (by decide); replace h6 := slot_on e h6 (by decide); replace h8 := slot_on e h8 (by decide); replace h24 := slot_on e h24 (by decide); clear h26; have h27 := g27; clear g27; clear e
  have Y : (execOp a446.eval o7_3_12).run Try.prog w425 = .ok (.value (.bool true)) w425 := by unfold o7_3_12; go_simp
  refine st_val g7_3_12 rfl (wanted_free rfl) Y fun a448 e => ?_; clear Y
  have g28 := R.at_ e (by decide); replace R := R.put e; replace h3 := slot_on e h3 (by decide); replace h4 := slot_on e h4 (by decide); replace h5 := slot_on e h5 (by decide); replace h6 := slot_on e h6 (by decide); replace h8 := slot_on e h8 (by decide); clear h24 h27; have h28 := g28; clear g28; clear e
  refine st_end ?_
  change (c7_13).wp _ _ _ _
  refine wp_cond_true (x := c7_14) (y := Code.skip) (eval_slot h28) ?_
  refine wp_seq (x := c7_15) (y := Code.ret) ?_
  change (Code.region 4 O7_4 false).wp _ _ _ _
  refine reg_in (l := [0]) rfl ?_
  have Y : (execOp a448.eval o7_4_0).run Try.prog w425 = .ok (.value (.bool true)) w425 := by unfold o7_4_0; go_simp
  refine st_val g7_4_0 rfl (wanted_free rfl) Y fun a450 e => ?_; clear Y
  have g8 := R.at_ e (by decide); replace R := R.put e; replace h3 := slot_on e h3 (by decide); replace h4 := slot_on e h4 (by decide); replace h5 := slot_on e h5 (by decide); replace h6 := slot_on e h6 (by decide); clear h8 h28; have h8 := g8; clear g8; clear e
  refine st_end ?_
  change (Code.ret).wp _ _ _ _
  refine wp_ret ?_
  change bodyPost Try.prog Try.f7 (fun e w' => e = .returned (.bool true) ∧ Keep (fun g => g < W.heap.size) W w') .ret a450 w425
  refine ret_one rfl R h8 ?_
  exact ⟨rfl, K1⟩

set_option maxRecDepth 100000 in
set_option maxHeartbeats 4000000 in
theorem ow1_b {W : World} {a b c : Tm} {aa ab ac : Option Addr} {ca cb cc : Nat} {m : Int} {f0 : Act} {w0 : World} (R : FrS 125 f0) (h0 : f0.tmps[0]? = some (.agg #[.int .i64 a.k, .string (str a.nm), .int .i64 a.i, .slice aa a.args.length ca])) (h1 : f0.tmps[1]? = some (.agg #[.int .i64 b.k, .string (str b.nm), .int .i64 b.i, .slice ab b.args.length cb])) (h2 : f0.tmps[2]? = some (.agg #[.int .i64 c.k, .string (str c.nm), .int .i64 c.i, .slice ac c.args.length cc])) (h3 : f0.tmps[3]? = some (.int .i64 m)) (K1 : Keep (fun g => g < W.heap.size) W w0)  (HRa : Hid (a.right = true)) (HRb : Hid (b.right = false)) (HA : Hid (TmAt W.heap.size W a aa ca)) (HB : Hid (TmAt W.heap.size W b ab cb)) (HC : Hid (TmAt W.heap.size W c ac cc)) : c7_0.wp Try.prog (bodyPost Try.prog Try.f7 (fun e w' => e = .returned (.bool true) ∧ Keep (fun g => g < W.heap.size) W w')) f0 w0 := by
  refine wp_seq (x := c7_1) (y := c7_2) ?_
  change (Code.region 0 O7_0 false).wp _ _ _ _
  refine reg_in (l := [0, 1, 2, 3]) rfl ?_
  have MK1 := K1
  have Y : (execOp f0.eval o7_0_0).run Try.prog w0 = .ok (.value (.pointer (some ⟨w0.heap.size, 0, none⟩))) (w0.alloc (.cells #[.int .i64 a.k, .string (str a.nm), .int .i64 a.i, .slice aa a.args.length ca] 24)) := by unfold o7_0_0; go_simp
  have B452 := Blk.new w0 24 #[.int .i64 a.k, .string (str a.nm), .int .i64 a.i, .slice aa a.args.length ca]
  replace K1 := K1.alloc (.cells #[.int .i64 a.k, .string (str a.nm), .int .i64 a.i, .slice aa a.args.length ca] 24)
  obtain ⟨w453, hw453⟩ : ∃ x, x = w0.alloc (.cells #[.int .i64 a.k, .string (str a.nm), .int .i64 a.i, .slice aa a.args.length ca] 24) := ⟨_, rfl⟩
  rw [← hw453] at Y B452 K1
  obtain ⟨b452, hb452⟩ : ∃ x, x = w0.heap.size := ⟨_, rfl⟩
  rw [← hb452] at Y B452
  have LK1_b452 : W.heap.size ≤ b452 := by rw [hb452]; first | exact Nat.le_refl _ | exact MK1.size
  clear hw453 hb452 MK1
  refine st_val g7_0_0 rfl (wanted_free rfl) Y fun a454 e => ?_; clear Y
  have g4 := R.at_ e (by decide); replace R := R.put e; replace h1 := slot_on e h1 (by decide); replace h2 := slot_on e h2 (by decide); replace h3 := slot_on e h3 (by decide); clear h0; have h4 := g4; clear g4; clear e
  have MK1 := K1
  have Y : (execOp a454.eval o7_0_1).run Try.prog w453 = .ok (.value (.pointer (some ⟨w453.heap.size, 0, none⟩))) (w453.alloc (.cells #[.int .i64 b.k, .string (str b.nm), .int .i64 b.i, .slice ab b.args.length cb] 24)) := by unfold o7_0_1; go_simp
  have B456 := Blk.new w453 24 #[.int .i64 b.k, .string (str b.nm), .int .i64 b.i, .slice ab b.args.length cb]
  replace K1 := K1.alloc (.cells #[.int .i64 b.k, .string (str b.nm), .int .i64 b.i, .slice ab b.args.length cb] 24)
  have Nb452_b456 := Nat.ne_of_lt B452.lt; replace B452 := B452.alloc (.cells #[.int .i64 b.k, .string (str b.nm), .int .i64 b.i, .slice ab b.args.length cb] 24)
  obtain ⟨w457, hw457⟩ : ∃ x, x = w453.alloc (.cells #[.int .i64 b.k, .string (str b.nm), .int .i64 b.i, .slice ab b.args.length cb] 24) := ⟨_, rfl⟩
  rw [← hw457] at Y B456 K1 B452
  obtain ⟨b456, hb456⟩ : ∃ x, x = w453.heap.size := ⟨_, rfl⟩
  rw [← hb456] at Y B456 Nb452_b456
  have LK1_b456 : W.heap.size ≤ b456 := by rw [hb456]; first | exact Nat.le_refl _ | exact MK1.size
  clear hw457 hb456 MK1
  refine st_val g7_0_1 rfl (wanted_free rfl) Y fun a458 e => ?_; clear Y
  have g5 := R.at_ e (by decide); replace R := R.put e; replace h2 := slot_on e h2 (by decide); replace h3 := slot_on e h3 (by decide); replace h4 := slot_on e h4 (by decide); clear h1; have h5 := g5; clear g5; clear e
  have MK1 := K1
  have Y : (execOp a458.eval o7_0_2).run Try.prog w457 = .ok (.value (.pointer (some ⟨w457.heap.size, 0, none⟩))) (w457.alloc (.cells #[.int .i64 c.k, .string (str c.nm), .int .i64 c.i, .slice ac c.args.length cc] 24)) := by unfold o7_0_2; go_simp
  have B460 := Blk.new w457 24 #[.int .i64 c.k, .string (str c.nm), .int .i64 c.i, .slice ac c.args.length cc]
  replace K1 := K1.alloc (.cells #[.int .i64 c.k, .string (str c.nm), .int .i64 c.i, .slice ac c.args.length cc] 24)
  have Nb452_b460 := Nat.ne_of_lt B452.lt; replace B452 := B452.alloc (.cells #[.int .i64 c.k, .string (str c.nm), .int .i64 c.i, .slice ac c.args.length cc] 24)
  have Nb456_b460 := Nat.ne_of_lt B456.lt; replace B456 := B456.alloc (.cells #[.int .i64 c.k, .string (str c.nm), .int .i64 c.i, .slice ac c.args.length cc] 24)
  obtain ⟨w461, hw461⟩ : ∃ x, x = w457.alloc (.cells #[.int .i64 c.k, .string (str c.nm), .int .i64 c.i, .slice ac c.args.length cc] 24) := ⟨_, rfl⟩
  rw [← hw461] at Y B460 K1 B452 B456
  obtain ⟨b460, hb460⟩ : ∃ x, x = w457.heap.size := ⟨_, rfl⟩
  rw [← hb460] at Y B460 Nb452_b460 Nb456_b460
  have LK1_b460 : W.heap.size ≤ b460 := by rw [hb460]; first | exact Nat.le_refl _ | exact MK1.size
  clear hw461 hb460 MK1
  refine st_val g7_0_2 rfl (wanted_free rfl) Y fun a462 e => ?_; clear Y
  have g6 := R.at_ e (by decide); replace R := R.put e; replace h3 := slot_on e h3 (by decide); replace h4 := slot_on e h4 (by decide); replace h5 := slot_on e h5 (by decide); clear h2; have h6 := g6; clear g6; clear e
  have Y : (execOp a462.eval o7_0_3).run Try.prog w461 = .ok (.value (.bool false)) w461 := by unfold o7_0_3; go_simp
  refine st_val g7_0_3 rfl (wanted_free rfl) Y fun a464 e => ?_; clear Y
  have g8 := R.at_ e (by decide); replace R := R.put e; replace h3 := slot_on e h3 (by decide); replace h4 := slot_on e h4 (by decide); replace h5 := slot_on e h5 (by decide); replace h6 := slot_on e h6 (by decide); have h8 := g8; clear g8; clear e
  refine st_end ?_
  change (c7_2).wp _ _ _ _
  refine wp_seq (x := c7_3) (y := c7_10) ?_
  refine wp_seq (x := c7_4) (y := c7_5) ?_
  change (Code.region 1 O7_1 false).wp _ _ _ _
  refine reg_in (l := [0, 1]) rfl ?_
  have Y : (execOp a464.eval o7_1_0).run Try.prog w461 = .ok (.enter 13 #[]) w461 := by unfold o7_1_0; go_simp
  refine st_call g7_1_0 rfl (wanted_free rfl) Y ((alive_any (w := w461)).mono ?_); clear Y
  rintro e9 w466 ⟨rfl, kk⟩
  replace K1 := keep_onto K1 kk
  replace B452 := blk_on B452 kk
  replace B456 := blk_on B456 kk
  replace B460 := blk_on B460 kk
  clear kk
  refine ⟨_, rfl, fun a467 e => ?_⟩
  have g14 := R.at_ e (by decide); replace R := R.put e; replace h3 := slot_on e h3 (by decide); replace h4 := slot_on e h4 (by decide); replace h5 := slot_on e h5 (by decide); replace h6 := slot_on e h6 (by decide); replace h8 := slot_on e h8 (by decide); have h14 := g14; clear g14; clear e
  have Y : (execOp a467.eval o7_1_1).run Try.prog w466 = .ok (.value (.bool false)) w466 := by unfold o7_1_1; go_simp
  refine st_val g7_1_1 rfl (wanted_free rfl) Y fun a469 e => ?_; clear Y
  have g15 := R.at_ e (by decide); replace R := R.put e; replace h3 := slot_on e h3 (by decide); replace h4 := slot_on e h4 (by decide); replace h5 := slot_on e h5 (by decide); replace h6 := slot_on e h6 (by decide); replace h8 := slot_on e h8 (by decide); clear h14; have h15 := g15; clear g15; clear e
  refine st_end ?_
  change (c7_5).wp _ _ _ _
  refine wp_cond_false (x := c7_6) (y := Code.skip) (eval_slot h15) ?_
  refine wp_skip ?_
  change (c7_10).wp _ _ _ _
  refine wp_seq (x := c7_11) (y := c7_18) ?_
  refine wp_seq (x := c7_12) (y := c7_13) ?_
  change (Code.region 3 O7_3 false).wp _ _ _ _
  refine reg_in (l := [0, 1, 2, 3, 4, 5, 6, 7, 8, 9, 10, 11, 12]) rfl ?_
  have Y : (execOp a469.eval o7_3_0).run Try.prog w466 = .ok (.value (.agg #[.int .i64 a.k, .string (str a.nm), .int .i64 a.i, .slice aa a.args.length ca])) w466 := by have q0 : w466.cell? ⟨b452, 0, none⟩ = some (.int .i64 a.k) := B452.cell 0; have q1 : w466.cell? ⟨b452, 1, none⟩ = some (.string (str a.nm)) := B452.cell 1; have q2 : w466.cell? ⟨b452, 2, none⟩ = some (.int .i64 a.i) := B452.cell 2; have q3 : w466.cell? ⟨b452, 3, none⟩ = some (.slice aa a.args.length ca) := B452.cell 3; unfold o7_3_0; go_simp
  refine st_val g7_3_0 rfl (wanted_free rfl) Y fun a471 e => ?_; clear Y
  have g16 := R.at_ e (by decide); replace R := R.put e; replace h3 := slot_on e h3 (by decide); replace h4 := slot_on e h4 (by decide); replace h5 := slot_on e h5 (by decide); replace h6 := slot_on e h6 (by decide); replace h8 := slot_on e h8 (by decide); clear h15; have h16 := g16; clear g16; clear e
  have Y : (execOp a471.eval o7_3_1).run Try.prog w466 = .ok (.enter 15 #[.agg #[.int .i64 a.k, .string (str a.nm), .int .i64 a.i, .slice aa a.args.length ca]]) w466 := by unfold o7_3_1; go_simp
  have hck := check_any (HA.out.on K1); rw [HRa.out] at hck
  refine st_call g7_3_1 rfl (wanted_free rfl) Y ((hck).mono ?_); clear Y
  rintro e9 w473 ⟨rfl, kk⟩
  replace K1 := keep_onto K1 kk
  replace B452 := blk_on B452 kk
  replace B456 := blk_on B456 kk
  replace B460 := blk_on B460 kk
  clear kk
  clear hck
  refine ⟨_, rfl, fun a474 e => ?_⟩
  have g17 := R.at_ e (by decide); replace R := R.put e; replace h3 := slot_on e h3 (by decide); replace h4 := slot_on e h4 (by decide); replace h5 := slot_on e h5 (by decide); replace h6 := slot_on e h6 (by decide); replace h8 := slot_on e h8 (by decide); clear h16; have h17 := g17; clear g17; clear e
  have Y : (execOp a474.eval o7_3_2).run Try.prog w473 = .ok (.value (.bool false)) w473 := by unfold o7_3_2; go_simp
  refine st_val g7_3_2 rfl (wanted_free rfl) Y fun a476 e => ?_; clear Y
  have g18 := R.at_ e (by decide); replace R := R.put e; replace h3 := slot_on e h3 (by decide); replace h4 := slot_on e h4 (by decide); replace h5 := slot_on e h5 (by decide); replace h6 := slot_on e h6 (by decide); replace h8 := slot_on e h8 (by decide); clear h17; have h18 := g18; clear g18; clear e
  have Y : (execOp a476.eval o7_3_3).run Try.prog w473 = .ok (.value (.bool false)) w473 := by unfold o7_3_3; go_simp
  refine st_val g7_3_3 rfl (wanted_free rfl) Y fun a478 e => ?_; clear Y
  have g19 := R.at_ e (by decide); replace R := R.put e; replace h3 := slot_on e h3 (by decide); replace h4 := slot_on e h4 (by decide); replace h5 := slot_on e h5 (by decide); replace h6 := slot_on e h6 (by decide); replace h8 := slot_on e h8 (by decide); clear h18; have h19 := g19; clear g19; clear e
  have Y : (execOp a478.eval o7_3_4).run Try.prog w473 = .ok (.value (.agg #[.int .i64 b.k, .string (str b.nm), .int .i64 b.i, .slice ab b.args.length cb])) w473 := by have q0 : w473.cell? ⟨b456, 0, none⟩ = some (.int .i64 b.k) := B456.cell 0; have q1 : w473.cell? ⟨b456, 1, none⟩ = some (.string (str b.nm)) := B456.cell 1; have q2 : w473.cell? ⟨b456, 2, none⟩ = some (.int .i64 b.i) := B456.cell 2; have q3 : w473.cell? ⟨b456, 3, none⟩ = some (.slice ab b.args.length cb) := B456.cell 3; unfold o7_3_4; go_simp
  refine st_val g7_3_4 rfl (wanted_is (j := 3) (d := 19) rfl rfl h19 rfl) Y fun a480 e => ?_; clear Y
  have g20 := R.at_ e (by decide); replace R := R.put e; replace h3 := slot_on e h3 (by decide); replace h4 := slot_on e h4 (by decide); replace h5 := slot_on e h5 (by decide); replace h6 := slot_on e h6 (by decide); replace h8 := slot_on e h8 (by decide); replace h19 := slot_on e h19 (by decide); have h20 := g20; clear g20; clear e
  have Y : (execOp a480.eval o7_3_5).run Try.prog w473 = .ok (.enter 15 #[.agg #[.int .i64 b.k, .string (str b.nm), .int .i64 b.i, .slice ab b.args.length cb]]) w473 := by unfold o7_3_5; go_simp
  have hck := check_any (HB.out.on K1); rw [HRb.out] at hck
  refine st_call g7_3_5 rfl (wanted_is (j := 3) (d := 19) rfl rfl h19 rfl) Y ((hck).mono ?_); clear Y
  rintro e9 w482 ⟨rfl, kk⟩
  replace K1 := keep_onto K1 kk
  replace B452 := blk_on B452 kk
  replace B456 := blk_on B456 kk
  replace B460 := blk_on B460 kk
  clear kk
  clear hck
  refine ⟨_, rfl, fun a483 e => ?_⟩
  have g21 := R.at_ e (by decide); replace R := R.put e; replace h3 := slot_on e h3 (by decide); replace h4 := slot_on e h4 (by decide); replace h5 := slot_on e h5 (by decide); replace h6 := slot_on e h6 (by decide); replace h8 := slot_on e h8 (by decide); replace h19 := slot_on e h19 (by decide); clear h20; have h21 := g21; clear g21; clear e
  have Y : (execOp a483.eval o7_3_6).run Try.prog w482 = .ok (.value (.bool true)) w482 := by unfold o7_3_6; go_simp
  refine st_val g7_3_6 rfl (wanted_is (j := 3) (d := 19) rfl rfl h19 rfl) Y fun a485 e => ?_; clear Y
  have g22 := R.at_ e (by decide); replace R := R.put e; replace h3 := slot_on e h3 (by decide); replace h4 := slot_on e h4 (by decide); replace h5 := slot_on e h5 (by decide); replace h6 := slot_on e h6 (by decide); replace h8 := slot_on e h8 (by decide); replace h19 := slot_on e h19 (by decide); clear h21; have h22 := g22; clear g22; clear e
  have Y : (execOp a485.eval o7_3_7).run Try.prog w482 = .ok (.value (.bool true)) w482 := by unfold o7_3_7; go_simp
  refine st_val g7_3_7 rfl (wanted_free rfl) Y fun a487 e => ?_; clear Y
  have g23 := R.at_ e (by decide); replace R := R.put e; replace h3 := slot_on e h3 (by decide); replace h4 := slot_on e h4 (by decide); replace h5 := slot_on e h5 (by decide); replace h6 := slot_on e h6 (by decide); replace h8 := slot_on e h8 (by decide); clear h19 h22; have h23 := g23; clear g23; clear e
  have Y : (execOp a487.eval o7_3_8).run Try.prog w482 = .ok (.value (.bool true)) w482 := by unfold o7_3_8; go_simp
  refine st_val g7_3_8 rfl (wanted_free rfl) Y fun a489 e => ?_; clear Y
  have g24 := R.at_ e (by decide); replace R := R.put e; replace h3 := slot_on e h3 (by decide); replace h4 := slot_on e h4 (by decide); replace h5 := slot_on e h5 (by decide); replace h6 := slot_on e h6 (by decide); replace h8 := slot_on e h8 (by decide); clear h23; have h24 := g24; clear g24; clear e
  refine st_not g7_3_9 rfl (wanted_is (j := 8) (d := 24) rfl rfl h24 rfl) fun a491 e => ?_
  have g25 := R.at_ e (by decide); replace R := R.put e; replace h3 := slot_on e h3 (by decide); replace h4 := slot_on e h4 (by decide); replace h5 := slot_on e h5 (by decide); replace h6 := slot_on e h6 (by decide); replace h8 := slot_on e h8 (by decide); replace h24 := slot_on e h24 (by decide); have h25 := g25; clear g25; clear e
  refine st_not g7_3_10 rfl (wanted_is (j := 8) (d := 24) rfl rfl h24 rfl) fun a493 e => ?_
  have g26 := R.at_ e (by decide); replace R := R.put e; replace h3 := slot_on e h3 (by decide); replace h4 := slot_on e h4 (by decide); replace h5 := slot_on e h5 (by decide); replace h6 := slot_on e h6 (by decide); replace h8 := slot_on e h8 (by decide); replace h24 := slot_on e h24 (by decide); clear h25; have h26 := g26; clear g26; clear e
  refine st_not g7_3_11 rfl (wanted_is (j := 8) (d := 24) rfl rfl h24 rfl) fun a495 e => ?_
  have g27 := R.at_ e (by decide); replace R := R.put e; replace h3 := slot_on e h3 (by decide); replace h4 := slot_on e h4 (by decide); replace h5 := slot_on e h5 (by decide); replace h6 := slot_on e h6 (by decide); replace h8 := slot_on e h8 (by decide); replace h24 := slot_on e h24 (by decide); clear h26; have h27 := g27; clear g27; clear e
  have Y : (execOp a495.eval o7_3_12).run Try.prog w482 = .ok (.value (.bool true)) w482 := by unfold o7_3_12; go_simp
  refine st_val g7_3_12 rfl (wanted_free rfl) Y fun a497 e => ?_; clear Y
  have g28 := R.at_ e (by decide); replace R := R.put e; replace h3 := slot_on e h3 (by decide); replace h4 := slot_on e h4 (by decide); replace h5 := slot_on e h5 (by decide); replace h6 := slot_on e h6 (by decide); replace h8 := slot_on e h8 (by decide); clear h24 h27; have h28 := g28; clear g28; clear e
  refine st_end ?_
  change (c7_13).wp _ _ _ _
  refine wp_cond_true (x := c7_14) (y := Code.skip) (eval_slot h28) ?_
  refine wp_seq (x := c7_15) (y := Code.ret) ?_
  change (Code.region 4 O7_4 false).wp _ _ _ _
  refine reg_in (l := [0]) rfl ?_
  have Y : (execOp a497.eval o7_4_0).run Try.prog w482 = .ok (.value (.bool true)) w482 := by unfold o7_4_0; go_simp
  refine st_val g7_4_0 rfl (wanted_free rfl) Y fun a499 e => ?_; clear Y
  have g8 := R.at_ e (by decide); replace R := R.put e; replace h3 := slot_on e h3 (by decide); replace h4 := slot_on e h4 (by decide); replace h5 := slot_on e h5 (by decide); replace h6 := slot_on e h6 (by decide); clear h8 h28; have h8 := g8; clear g8; clear e
  refine st_end ?_
  change (Code.ret).wp _ _ _ _
  refine wp_ret ?_
  change bodyPost Try.prog Try.f7 (fun e w' => e = .returned (.bool true) ∧ Keep (fun g => g < W.heap.size) W w') .ret a499 w482
  refine ret_one rfl R h8 ?_
  exact ⟨rfl, K1⟩

set_option maxRecDepth 100000 in
set_option maxHeartbeats 4000000 in
theorem ow1_c {W : World} {a b c : Tm} {aa ab ac : Option Addr} {ca cb cc : Nat} {m : Int} {f0 : Act} {w0 : World} (R : FrS 125 f0) (h0 : f0.tmps[0]? = some (.agg #[.int .i64 a.k, .string (str a.nm), .int .i64 a.i, .slice aa a.args.length ca])) (h1 : f0.tmps[1]? = some (.agg #[.int .i64 b.k, .string (str b.nm), .int .i64 b.i, .slice ab b.args.length cb])) (h2 : f0.tmps[2]? = some (.agg #[.int .i64 c.k, .string (str c.nm), .int .i64 c.i, .slice ac c.args.length cc])) (h3 : f0.tmps[3]? = some (.int .i64 m)) (K1 : Keep (fun g => g < W.heap.size) W w0)  (HRa : Hid (a.right = true)) (HRb : Hid (b.right = true)) (HRc : Hid (c.right = false)) (HA : Hid (TmAt W.heap.size W a aa ca)) (HB : Hid (TmAt W.heap.size W b ab cb)) (HC : Hid (TmAt W.heap.size W c ac cc)) : c7_0.wp Try.prog (bodyPost Try.prog Try.f7 (fun e w' => e = .returned (.bool true) ∧ Keep (fun g => g < W.heap.size) W w')) f0 w0 := by
  refine wp_seq (x := c7_1) (y := c7_2) ?_
  change (Code.region 0 O7_0 false).wp _ _ _ _
  refine reg_in (l := [0, 1, 2, 3]) rfl ?_
  have MK1 := K1
  have Y : (execOp f0.eval o7_0_0).run Try.prog w0 = .ok (.value (.pointer (some ⟨w0.heap.size, 0, none⟩))) (w0.alloc (.cells #[.int .i64 a.k, .string (str a.nm), .int .i64 a.i, .slice aa a.args.length ca] 24)) := by unfold o7_0_0; go_simp
  have B501 := Blk.new w0 24 #[.int .i64 a.k, .string (str a.nm), .int .i64 a.i, .slice aa a.args.length ca]
  replace K1 := K1.alloc (.cells #[.int .i64 a.k, .string (str a.nm), .int .i64 a.i, .slice aa a.args.length ca] 24)
  obtain ⟨w502, hw502⟩ : ∃ x, x = w0.alloc (.cells #[.int .i64 a.k, .string (str a.nm), .int .i64 a.i, .slice aa a.args.length ca] 24) := ⟨_, rfl⟩
  rw [← hw502] at Y B501 K1
  obtain ⟨b501, hb501⟩ : ∃ x, x = w0.heap.size := ⟨_, rfl⟩
  rw [← hb501] at Y B501
  have LK1_b501 : W.heap.size ≤ b501 := by rw [hb501]; first | exact Nat.le_refl _ | exact MK1.size
  clear hw502 hb501 MK1
  refine st_val g7_0_0 rfl (wanted_free rfl) Y fun a503 e => ?_; clear Y
  have g4 := R.at_ e (by decide); replace R := R.put e; replace h1 := slot_on e h1 (by decide); replace h2 := slot_on e h2 (by decide); replace h3 := slot_on e h3 (by decide); clear h0; have h4 := g4; clear g4; clear e
  have MK1 := K1
  have Y : (execOp a503.eval o7_0_1).run Try.prog w502 = .ok (.value (.pointer (some ⟨w502.heap.size, 0, none⟩))) (w502.alloc (.cells #[.int .i64 b.k, .string (str b.nm), .int .i64 b.i, .slice ab b.args.length cb] 24)) := by unfold o7_0_1; go_simp
  have B505 := Blk.new w502 24 #[.int .i64 b.k, .string (str b.nm), .int .i64 b.i, .slice ab b.args.length cb]
  replace K1 := K1.alloc (.cells #[.int .i64 b.k, .string (str b.nm), .int .i64 b.i, .slice ab b.args.length cb] 24)
  have Nb501_b505 := Nat.ne_of_lt B501.lt; replace B501 := B501.alloc (.cells #[.int .i64 b.k, .string (str b.nm), .int .i64 b.i, .slice ab b.args.length cb] 24)
  obtain ⟨w506, hw506⟩ : ∃ x, x = w502.alloc (.cells #[.int .i64 b.k, .string (str b.nm), .int .i64 b.i, .slice ab b.args.length cb] 24) := ⟨_, rfl⟩
  rw [← hw506] at Y B505 K1 B501
  obtain ⟨b505, hb505⟩ : ∃ x, x = w502.heap.size := ⟨_, rfl⟩
  rw [← hb505] at Y B505 Nb501_b505
  have LK1_b505 : W.heap.size ≤ b505 := by rw [hb505]; first | exact Nat.le_refl _ | exact MK1.size
  clear hw506 hb505 MK1
  refine st_val g7_0_1 rfl (wanted_free rfl) Y fun a507 e => ?_; clear Y
  have g5 := R.at_ e (by decide); replace R := R.put e; replace h2 := slot_on e h2 (by decide); replace h3 := slot_on e h3 (by decide); replace h4 := slot_on e h4 (by decide); clear h1; have h5 := g5; clear g5; clear e
  have MK1 := K1
  have Y : (execOp a507.eval o7_0_2).run Try.prog w506 = .ok (.value (.pointer (some ⟨w506.heap.size, 0, none⟩))) (w506.alloc (.cells #[.int .i64 c.k, .string (str c.nm), .int .i64 c.i, .slice ac c.args.length cc] 24)) := by unfold o7_0_2; go_simp
  have B509 := Blk.new w506 24 #[.int .i64 c.k, .string (str c.nm), .int .i64 c.i, .slice ac c.args.length cc]
  replace K1 := K1.alloc (.cells #[.int .i64 c.k, .string (str c.nm), .int .i64 c.i, .slice ac c.args.length cc] 24)
  have Nb501_b509 := Nat.ne_of_lt B501.lt; replace B501 := B501.alloc (.cells #[.int .i64 c.k, .string (str c.nm), .int .i64 c.i, .slice ac c.args.length cc] 24)
  have Nb505_b509 := Nat.ne_of_lt B505.lt; replace B505 := B505.alloc (.cells #[.int .i64 c.k, .string (str c.nm), .int .i64 c.i, .slice ac c.args.length cc] 24)
  obtain ⟨w510, hw510⟩ : ∃ x, x = w506.alloc (.cells #[.int .i64 c.k, .string (str c.nm), .int .i64 c.i, .slice ac c.args.length cc] 24) := ⟨_, rfl⟩
  rw [← hw510] at Y B509 K1 B501 B505
  obtain ⟨b509, hb509⟩ : ∃ x, x = w506.heap.size := ⟨_, rfl⟩
  rw [← hb509] at Y B509 Nb501_b509 Nb505_b509
  have LK1_b509 : W.heap.size ≤ b509 := by rw [hb509]; first | exact Nat.le_refl _ | exact MK1.size
  clear hw510 hb509 MK1
  refine st_val g7_0_2 rfl (wanted_free rfl) Y fun a511 e => ?_; clear Y
  have g6 := R.at_ e (by decide); replace R := R.put e; replace h3 := slot_on e h3 (by decide); replace h4 := slot_on e h4 (by decide); replace h5 := slot_on e h5 (by decide); clear h2; have h6 := g6; clear g6; clear e
  have Y : (execOp a511.eval o7_0_3).run Try.prog w510 = .ok (.value (.bool false)) w510 := by unfold o7_0_3; go_simp
  refine st_val g7_0_3 rfl (wanted_free rfl) Y fun a513 e => ?_; clear Y
  have g8 := R.at_ e (by decide); replace R := R.put e; replace h3 := slot_on e h3 (by decide); replace h4 := slot_on e h4 (by decide); replace h5 := slot_on e h5 (by decide); replace h6 := slot_on e h6 (by decide); have h8 := g8; clear g8; clear e
  refine st_end ?_
  change (c7_2).wp _ _ _ _
  refine wp_seq (x := c7_3) (y := c7_10) ?_
  refine wp_seq (x := c7_4) (y := c7_5) ?_
  change (Code.region 1 O7_1 false).wp _ _ _ _
  refine reg_in (l := [0, 1]) rfl ?_
  have Y : (execOp a513.eval o7_1_0).run Try.prog w510 = .ok (.enter 13 #[]) w510 := by unfold o7_1_0; go_simp
  refine st_call g7_1_0 rfl (wanted_free rfl) Y ((alive_any (w := w510)).mono ?_); clear Y
  rintro e9 w515 ⟨rfl, kk⟩
  replace K1 := keep_onto K1 kk
  replace B501 := blk_on B501 kk
  replace B505 := blk_on B505 kk
  replace B509 := blk_on B509 kk
  clear kk
  refine ⟨_, rfl, fun a516 e => ?_⟩
  have g14 := R.at_ e (by decide); replace R := R.put e; replace h3 := slot_on e h3 (by decide); replace h4 := slot_on e h4 (by decide); replace h5 := slot_on e h5 (by decide); replace h6 := slot_on e h6 (by decide); replace h8 := slot_on e h8 (by decide); have h14 := g14; clear g14; clear e
  have Y : (execOp a516.eval o7_1_1).run Try.prog w515 = .ok (.value (.bool false)) w515 := by unfold o7_1_1; go_simp
  refine st_val g7_1_1 rfl (wanted_free rfl) Y fun a518 e => ?_; clear Y
  have g15 := R.at_ e (by decide); replace R := R.put e; replace h3 := slot_on e h3 (by decide); replace h4 := slot_on e h4 (by decide); replace h5 := slot_on e h5 (by decide); replace h6 := slot_on e h6 (by decide); replace h8 := slot_on e h8 (by decide); clear h14; have h15 := g15; clear g15; clear e
  refine st_end ?_
  change (c7_5).wp _ _ _ _
  refine wp_cond_false (x := c7_6) (y := Code.skip) (eval_slot h15) ?_
  refine wp_skip ?_
  change (c7_10).wp _ _ _ _
  refine wp_seq (x := c7_11) (y := c7_18) ?_
  refine wp_seq (x := c7_12) (y := c7_13) ?_
  change (Code.region 3 O7_3 false).wp _ _ _ _
  refine reg_in (l := [0, 1, 2, 3, 4, 5, 6, 7, 8, 9, 10, 11, 12]) rfl ?_
  have Y : (execOp a518.eval o7_3_0).run Try.prog w515 = .ok (.value (.agg #[.int .i64 a.k, .string (str a.nm), .int .i64 a.i, .slice aa a.args.length ca])) w515 := by have q0 : w515.cell? ⟨b501, 0, none⟩ = some (.int .i64 a.k) := B501.cell 0; have q1 : w515.cell? ⟨b501, 1, none⟩ = some (.string (str a.nm)) := B501.cell 1; have q2 : w515.cell? ⟨b501, 2, none⟩ = some (.int .i64 a.i) := B501.cell 2; have q3 : w515.cell? ⟨b501, 3, none⟩ = some (.slice aa a.args.length ca) := B501.cell 3; unfold o7_3_0; go_simp
  refine st_val g7_3_0 rfl (wanted_free rfl) Y fun a520 e => ?_; clear Y
  have g16 := R.at_ e (by decide); replace R := R.put e; replace h3 := slot_on e h3 (by decide); replace h4 := slot_on e h4 (by decide); replace h5 := slot_on e h5 (by decide); replace h6 := slot_on e h6 (by decide); replace h8 := slot_on e h8 (by decide); clear h15; have h16 := g16; clear g16; clear e
  have Y : (execOp a520.eval o7_3_1).run Try.prog w515 = .ok (.enter 15 #[.agg #[.int .i64 a.k, .string (str a.nm), .int .i64 a.i, .slice aa a.args.length ca]]) w515 := by unfold o7_3_1; go_simp
  have hck := check_any (HA.out.on K1); rw [HRa.out] at hck
  refine st_call g7_3_1 rfl (wanted_free rfl) Y ((hck).mono ?_); clear Y
  rintro e9 w522 ⟨rfl, kk⟩
  replace K1 := keep_onto K1 kk
  replace B501 := blk_on B501 kk
  replace B505 := blk_on B505 kk
  replace B509 := blk_on B509 kk
  clear kk
  clear hck
  refine ⟨_, rfl, fun a523 e => ?_⟩
  have g17 := R.at_ e (by decide); replace R := R.put e; replace h3 := slot_on e h3 (by decide); replace h4 := slot_on e h4 (by decide); replace h5 := slot_on e h5 (by decide); replace h6 := slot_on e h6 (by decide); replace h8 := slot_on e h8 (by decide); clear h16; have h17 := g17; clear g17; clear e
  have Y : (execOp a523.eval o7_3_2).run Try.prog w522 = .ok (.value (.bool false)) w522 := by unfold o7_3_2; go_simp
  refine st_val g7_3_2 rfl (wanted_free rfl) Y fun a525 e => ?_; clear Y
  have g18 := R.at_ e (by decide); replace R := R.put e; replace h3 := slot_on e h3 (by decide); replace h4 := slot_on e h4 (by decide); replace h5 := slot_on e h5 (by decide); replace h6 := slot_on e h6 (by decide); replace h8 := slot_on e h8 (by decide); clear h17; have h18 := g18; clear g18; clear e
  have Y : (execOp a525.eval o7_3_3).run Try.prog w522 = .ok (.value (.bool false)) w522 := by unfold o7_3_3; go_simp
  refine st_val g7_3_3 rfl (wanted_free rfl) Y fun a527 e => ?_; clear Y
  have g19 := R.at_ e (by decide); replace R := R.put e; replace h3 := slot_on e h3 (by decide); replace h4 := slot_on e h4 (by decide); replace h5 := slot_on e h5 (by decide); replace h6 := slot_on e h6 (by decide); replace h8 := slot_on e h8 (by decide); clear h18; have h19 := g19; clear g19; clear e
  have Y : (execOp a527.eval o7_3_4).run Try.prog w522 = .ok (.value (.agg #[.int .i64 b.k, .string (str b.nm), .int .i64 b.i, .slice ab b.args.length cb])) w522 := by have q0 : w522.cell? ⟨b505, 0, none⟩ = some (.int .i64 b.k) := B505.cell 0; have q1 : w522.cell? ⟨b505, 1, none⟩ = some (.string (str b.nm)) := B505.cell 1; have q2 : w522.cell? ⟨b505, 2, none⟩ = some (.int .i64 b.i) := B505.cell 2; have q3 : w522.cell? ⟨b505, 3, none⟩ = some (.slice ab b.args.length cb) := B505.cell 3; unfold o7_3_4; go_simp
  refine st_val g7_3_4 rfl (wanted_is (j := 3) (d := 19) rfl rfl h19 rfl) Y fun a529 e => ?_; clear Y
  have g20 := R.at_ e (by decide); replace R := R.put e; replace h3 := slot_on e h3 (by decide); replace h4 := slot_on e h4 (by decide); replace h5 := slot_on e h5 (by decide); replace h6 := slot_on e h6 (by decide); replace h8 := slot_on e h8 (by decide); replace h19 := slot_on e h19 (by decide); have h20 := g20; clear g20; clear e
  have Y : (execOp a529.eval o7_3_5).run Try.prog w522 = .ok (.enter 15 #[.agg #[.int .i64 b.k, .string (str b.nm), .int .i64 b.i, .slice ab b.args.length cb]]) w522 := by unfold o7_3_5; go_simp
  have hck := check_any (HB.out.on K1); rw [HRb.out] at hck
  refine st_call g7_3_5 rfl (wanted_is (j := 3) (d := 19) rfl rfl h19 rfl) Y ((hck).mono ?_); clear Y
  rintro e9 w531 ⟨rfl, kk⟩
  replace K1 := keep_onto K1 kk
  replace B501 := blk_on B501 kk
  replace B505 := blk_on B505 kk
  replace B509 := blk_on B509 kk
  clear kk
  clear hck
  refine ⟨_, rfl, fun a532 e => ?_⟩
  have g21 := R.at_ e (by decide); replace R := R.put e; replace h3 := slot_on e h3 (by decide); replace h4 := slot_on e h4 (by decide); replace h5 := slot_on e h5 (by decide); replace h6 := slot_on e h6 (by decide); replace h8 := slot_on e h8 (by decide); replace h19 := slot_on e h19 (by decide); clear h20; have h21 := g21; clear g21; clear e
  have Y : (execOp a532.eval o7_3_6).run Try.prog w531 = .ok (.value (.bool false)) w531 := by unfold o7_3_6; go_simp
  refine st_val g7_3_6 rfl (wanted_is (j := 3) (d := 19) rfl rfl h19 rfl) Y fun a534 e => ?_; clear Y
  have g22 := R.at_ e (by decide); replace R := R.put e; replace h3 := slot_on e h3 (by decide); replace h4 := slot_on e h4 (by decide); replace h5 := slot_on e h5 (by decide); replace h6 := slot_on e h6 (by decide); replace h8 := slot_on e h8 (by decide); replace h19 := slot_on e h19 (by decide); clear h21; have h22 := g22; clear g22; clear e
  have Y : (execOp a534.eval o7_3_7).run Try.prog w531 = .ok (.value (.bool false)) w531 := by unfold o7_3_7; go_simp
  refine st_val g7_3_7 rfl (wanted_free rfl) Y fun a536 e => ?_; clear Y
  have g23 := R.at_ e (by decide); replace R := R.put e; replace h3 := slot_on e h3 (by decide); replace h4 := slot_on e h4 (by decide); replace h5 := slot_on e h5 (by decide); replace h6 := slot_on e h6 (by decide); replace h8 := slot_on e h8 (by decide); clear h19 h22; have h23 := g23; clear g23; clear e
  have Y : (execOp a536.eval o7_3_8).run Try.prog w531 = .ok (.value (.bool false)) w531 := by unfold o7_3_8; go_simp
  refine st_val g7_3_8 rfl (wanted_free rfl) Y fun a538 e => ?_; clear Y
  have g24 := R.at_ e (by decide); replace R := R.put e; replace h3 := slot_on e h3 (by decide); replace h4 := slot_on e h4 (by decide); replace h5 := slot_on e h5 (by decide); replace h6 := slot_on e h6 (by decide); replace h8 := slot_on e h8 (by decide); clear h23; have h24 := g24; clear g24; clear e
  have Y : (execOp a538.eval o7_3_9).run Try.prog w531 = .ok (.value (.agg #[.int .i64 c.k, .string (str c.nm), .int .i64 c.i, .slice ac c.args.length cc])) w531 := by have q0 : w531.cell? ⟨b509, 0, none⟩ = some (.int .i64 c.k) := B509.cell 0; have q1 : w531.cell? ⟨b509, 1, none⟩ = some (.string (str c.nm)) := B509.cell 1; have q2 : w531.cell? ⟨b509, 2, none⟩ = some (.int .i64 c.i) := B509.cell 2; have q3 : w531.cell? ⟨b509, 3, none⟩ = some (.slice ac c.args.length cc) := B509.cell 3; unfold o7_3_9; go_simp
  refine st_val g7_3_9 rfl (wanted_is (j := 8) (d := 24) rfl rfl h24 rfl) Y fun a540 e => ?_; clear Y
  have g25 := R.at_ e (by decide); replace R := R.put e; replace h3 := slot_on e h3 (by decide); replace h4 := slot_on e h4 (by decide); replace h5 := slot_on e h5 (by decide); replace h6 := slot_on e h6 (by decide); replace h8 := slot_on e h8 (by decide); replace h24 := slot_on e h24 (by decide); have h25 := g25; clear g25; clear e
  have Y : (execOp a540.eval o7_3_10).run Try.prog w531 = .ok (.enter 15 #[.agg #[.int .i64 c.k, .string (str c.nm), .int .i64 c.i, .slice ac c.args.length cc]]) w531 := by unfold o7_3_10; go_simp
  have hck := check_any (HC.out.on K1); rw [HRc.out] at hck
  refine st_call g7_3_10 rfl (wanted_is (j := 8) (d := 24) rfl rfl h24 rfl) Y ((hck).mono ?_); clear Y
  rintro e9 w542 ⟨rfl, kk⟩
  replace K1 := keep_onto K1 kk
  replace B501 := blk_on B501 kk
  replace B505 := blk_on B505 kk
  replace B509 := blk_on B509 kk
  clear kk
  clear hck
  refine ⟨_, rfl, fun a543 e => ?_⟩
  have g26 := R.at_ e (by decide); replace R := R.put e; replace h3 := slot_on e h3 (by decide); replace h4 := slot_on e h4 (by decide); replace h5 := slot_on e h5 (by decide); replace h6 := slot_on e h6 (by decide); replace h8 := slot_on e h8 (by decide); replace h24 := slot_on e h24 (by decide); clear h25; have h26 := g26; clear g26; clear e
  have Y : (execOp a543.eval o7_3_11).run Try.prog w542 = .ok (.value (.bool true)) w542 := by unfold o7_3_11; go_simp
  refine st_val g7_3_11 rfl (wanted_is (j := 8) (d := 24) rfl rfl h24 rfl) Y fun a545 e => ?_; clear Y
  have g27 := R.at_ e (by decide); replace R := R.put e; replace h3 := slot_on e h3 (by decide); replace h4 := slot_on e h4 (by decide); replace h5 := slot_on e h5 (by decide); replace h6 := slot_on e h6 (by decide); replace h8 := slot_on e h8 (by decide); replace h24 := slot_on e h24 (by decide); clear h26; have h27 := g27; clear g27; clear e
  have Y : (execOp a545.eval o7_3_12).run Try.prog w542 = .ok (.value (.bool true)) w542 := by unfold o7_3_12; go_simp
  refine st_val g7_3_12 rfl (wanted_free rfl) Y fun a547 e => ?_; clear Y
  have g28 := R.at_ e (by decide); replace R := R.put e; replace h3 := slot_on e h3 (by decide); replace h4 := slot_on e h4 (by decide); replace h5 := slot_on e h5 (by decide); replace h6 := slot_on e h6 (by decide); replace h8 := slot_on e h8 (by decide); clear h24 h27; have h28 := g28; clear g28; clear e
  refine st_end ?_
  change (c7_13).wp _ _ _ _
  refine wp_cond_true (x := c7_14) (y := Code.skip) (eval_slot h28) ?_
  refine wp_seq (x := c7_15) (y := Code.ret) ?_
  change (Code.region 4 O7_4 false).wp _ _ _ _
  refine reg_in (l := [0]) rfl ?_
  have Y : (execOp a547.eval o7_4_0).run Try.prog w542 = .ok (.value (.bool true)) w542 := by unfold o7_4_0; go_simp
  refine st_val g7_4_0 rfl (wanted_free rfl) Y fun a549 e => ?_; clear Y
  have g8 := R.at_ e (by decide); replace R := R.put e; replace h3 := slot_on e h3 (by decide); replace h4 := slot_on e h4 (by decide); replace h5 := slot_on e h5 (by decide); replace h6 := slot_on e h6 (by decide); clear h8 h28; have h8 := g8; clear g8; clear e
  refine st_end ?_
  change (Code.ret).wp _ _ _ _
  refine wp_ret ?_
  change bodyPost Try.prog Try.f7 (fun e w' => e = .returned (.bool true) ∧ Keep (fun g => g < W.heap.size) W w') .ret a549 w542
  refine ret_one rfl R h8 ?_
  exact ⟨rfl, K1⟩

set_option maxRecDepth 100000 in
set_option maxHeartbeats 4000000 in
theorem ow1 {W : World} {a b c : Tm} {aa ab ac : Option Addr} {ca cb cc : Nat} {m : Int} {f0 : Act} {w0 : World} (R : FrS 125 f0) (h0 : f0.tmps[0]? = some (.agg #[.int .i64 a.k, .string (str a.nm), .int .i64 a.i, .slice aa a.args.length ca])) (h1 : f0.tmps[1]? = some (.agg #[.int .i64 b.k, .string (str b.nm), .int .i64 b.i, .slice ab b.args.length cb])) (h2 : f0.tmps[2]? = some (.agg #[.int .i64 c.k, .string (str c.nm), .int .i64 c.i, .slice ac c.args.length cc])) (h3 : f0.tmps[3]? = some (.int .i64 m)) (K1 : Keep (fun g => g < W.heap.size) W w0)  (HRa : Hid (a.right = true)) (HRb : Hid (b.right = true)) (HRc : Hid (c.right = true)) (HA : Hid (TmAt W.heap.size W a aa ca)) (HB : Hid (TmAt W.heap.size W b ab cb)) (HC : Hid (TmAt W.heap.size W c ac cc)) (HJ : ∀ {b1 b2 b3 : Nat} (f0 : Act) (w0 : World), FrS 125 f0 → f0.tmps[3]? = some (.int .i64 m) → f0.tmps[4]? = some (.pointer (some ⟨b1, 0, none⟩)) → f0.tmps[5]? = some (.pointer (some ⟨b2, 0, none⟩)) → f0.tmps[6]? = some (.pointer (some ⟨b3, 0, none⟩)) → Keep (fun g => g < W.heap.size) W w0 → Blk w0 b1 24 #[.int .i64 a.k, .string (str a.nm), .int .i64 a.i, .slice aa a.args.length ca] → Blk w0 b2 24 #[.int .i64 b.k, .string (str b.nm), .int .i64 b.i, .slice ab b.args.length cb] → Blk w0 b3 24 #[.int .i64 c.k, .string (str c.nm), .int .i64 c.i, .slice ac c.args.length cc] → c7_18.wp Try.prog (bodyPost Try.prog Try.f7 (fun e w' => e = .returned (.bool true) ∧ Keep (fun g => g < W.heap.size) W w')) f0 w0) : c7_0.wp Try.prog (bodyPost Try.prog Try.f7 (fun e w' => e = .returned (.bool true) ∧ Keep (fun g => g < W.heap.size) W w')) f0 w0 := by
  refine wp_seq (x := c7_1) (y := c7_2) ?_
  change (Code.region 0 O7_0 false).wp _ _ _ _
  refine reg_in (l := [0, 1, 2, 3]) rfl ?_
  have MK1 := K1
  have Y : (execOp f0.eval o7_0_0).run Try.prog w0 = .ok (.value (.pointer (some ⟨w0.heap.size, 0, none⟩))) (w0.alloc (.cells #[.int .i64 a.k, .string (str a.nm), .int .i64 a.i, .slice aa a.args.length ca] 24)) := by unfold o7_0_0; go_simp
  have B551 := Blk.new w0 24 #[.int .i64 a.k, .string (str a.nm), .int .i64 a.i, .slice aa a.args.length ca]
  replace K1 := K1.alloc (.cells #[.int .i64 a.k, .string (str a.nm), .int .i64 a.i, .slice aa a.args.length ca] 24)
  obtain ⟨w552, hw552⟩ : ∃ x, x = w0.alloc (.cells #[.int .i64 a.k, .string (str a.nm), .int .i64 a.i, .slice aa a.args.length ca] 24) := ⟨_, rfl⟩
  rw [← hw552] at Y B551 K1
  obtain ⟨b551, hb551⟩ : ∃ x, x = w0.heap.size := ⟨_, rfl⟩
  rw [← hb551] at Y B551
  have LK1_b551 : W.heap.size ≤ b551 := by rw [hb551]; first | exact Nat.le_refl _ | exact MK1.size
  clear hw552 hb551 MK1
  refine st_val g7_0_0 rfl (wanted_free rfl) Y fun a553 e => ?_; clear Y
  have g4 := R.at_ e (by decide); replace R := R.put e; replace h1 := slot_on e h1 (by decide); replace h2 := slot_on e h2 (by decide); replace h3 := slot_on e h3 (by decide); clear h0; have h4 := g4; clear g4; clear e
  have MK1 := K1
  have Y : (execOp a553.eval o7_0_1).run Try.prog w552 = .ok (.value (.pointer (some ⟨w552.heap.size, 0, none⟩))) (w552.alloc (.cells #[.int .i64 b.k, .string (str b.nm), .int .i64 b.i, .slice ab b.args.length cb] 24)) := by unfold o7_0_1; go_simp
  have B555 := Blk.new w552 24 #[.int .i64 b.k, .string (str b.nm), .int .i64 b.i, .slice ab b.args.length cb]
  replace K1 := K1.alloc (.cells #[.int .i64 b.k, .string (str b.nm), .int .i64 b.i, .slice ab b.args.length cb] 24)
  have Nb551_b555 := Nat.ne_of_lt B551.lt; replace B551 := B551.alloc (.cells #[.int .i64 b.k, .string (str b.nm), .int .i64 b.i, .slice ab b.args.length cb] 24)
  obtain ⟨w556, hw556⟩ : ∃ x, x = w552.alloc (.cells #[.int .i64 b.k, .string (str b.nm), .int .i64 b.i, .slice ab b.args.length cb] 24) := ⟨_, rfl⟩
  rw [← hw556] at Y B555 K1 B551
  obtain ⟨b555, hb555⟩ : ∃ x, x = w552.heap.size := ⟨_, rfl⟩
  rw [← hb555] at Y B555 Nb551_b555
  have LK1_b555 : W.heap.size ≤ b555 := by rw [hb555]; first | exact Nat.le_refl _ | exact MK1.size
  clear hw556 hb555 MK1
  refine st_val g7_0_1 rfl (wanted_free rfl) Y fun a557 e => ?_; clear Y
  have g5 := R.at_ e (by decide); replace R := R.put e; replace h2 := slot_on e h2 (by decide); replace h3 := slot_on e h3 (by decide); replace h4 := slot_on e h4 (by decide); clear h1; have h5 := g5; clear g5; clear e
  have MK1 := K1
  have Y : (execOp a557.eval o7_0_2).run Try.prog w556 = .ok (.value (.pointer (some ⟨w556.heap.size, 0, none⟩))) (w556.alloc (.cells #[.int .i64 c.k, .string (str c.nm), .int .i64 c.i, .slice ac c.args.length cc] 24)) := by unfold o7_0_2; go_simp
  have B559 := Blk.new w556 24 #[.int .i64 c.k, .string (str c.nm), .int .i64 c.i, .slice ac c.args.length cc]
  replace K1 := K1.alloc (.cells #[.int .i64 c.k, .string (str c.nm), .int .i64 c.i, .slice ac c.args.length cc] 24)
  have Nb551_b559 := Nat.ne_of_lt B551.lt; replace B551 := B551.alloc (.cells #[.int .i64 c.k, .string (str c.nm), .int .i64 c.i, .slice ac c.args.length cc] 24)
  have Nb555_b559 := Nat.ne_of_lt B555.lt; replace B555 := B555.alloc (.cells #[.int .i64 c.k, .string (str c.nm), .int .i64 c.i, .slice ac c.args.length cc] 24)
  obtain ⟨w560, hw560⟩ : ∃ x, x = w556.alloc (.cells #[.int .i64 c.k, .string (str c.nm), .int .i64 c.i, .slice ac c.args.length cc] 24) := ⟨_, rfl⟩
  rw [← hw560] at Y B559 K1 B551 B555
  obtain ⟨b559, hb559⟩ : ∃ x, x = w556.heap.size := ⟨_, rfl⟩
  rw [← hb559] at Y B559 Nb551_b559 Nb555_b559
  have LK1_b559 : W.heap.size ≤ b559 := by rw [hb559]; first | exact Nat.le_refl _ | exact MK1.size
  clear hw560 hb559 MK1
  refine st_val g7_0_2 rfl (wanted_free rfl) Y fun a561 e => ?_; clear Y
  have g6 := R.at_ e (by decide); replace R := R.put e; replace h3 := slot_on e h3 (by decide); replace h4 := slot_on e h4 (by decide); replace h5 := slot_on e h5 (by decide); clear h2; have h6 := g6; clear g6; clear e
  have Y : (execOp a561.eval o7_0_3).run Try.prog w560 = .ok (.value (.bool false)) w560 := by unfold o7_0_3; go_simp
  refine st_val g7_0_3 rfl (wanted_free rfl) Y fun a563 e => ?_; clear Y
  have g8 := R.at_ e (by decide); replace R := R.put e; replace h3 := slot_on e h3 (by decide); replace h4 := slot_on e h4 (by decide); replace h5 := slot_on e h5 (by decide); replace h6 := slot_on e h6 (by decide); have h8 := g8; clear g8; clear e
  refine st_end ?_
  change (c7_2).wp _ _ _ _
  refine wp_seq (x := c7_3) (y := c7_10) ?_
  refine wp_seq (x := c7_4) (y := c7_5) ?_
  change (Code.region 1 O7_1 false).wp _ _ _ _
  refine reg_in (l := [0, 1]) rfl ?_
  have Y : (execOp a563.eval o7_1_0).run Try.prog w560 = .ok (.enter 13 #[]) w560 := by unfold o7_1_0; go_simp
  refine st_call g7_1_0 rfl (wanted_free rfl) Y ((alive_any (w := w560)).mono ?_); clear Y
  rintro e9 w565 ⟨rfl, kk⟩
  replace K1 := keep_onto K1 kk
  replace B551 := blk_on B551 kk
  replace B555 := blk_on B555 kk
  replace B559 := blk_on B559 kk
  clear kk
  refine ⟨_, rfl, fun a566 e => ?_⟩
  have g14 := R.at_ e (by decide); replace R := R.put e; replace h3 := slot_on e h3 (by decide); replace h4 := slot_on e h4 (by decide); replace h5 := slot_on e h5 (by decide); replace h6 := slot_on e h6 (by decide); replace h8 := slot_on e h8 (by decide); have h14 := g14; clear g14; clear e
  have Y : (execOp a566.eval o7_1_1).run Try.prog w565 = .ok (.value (.bool false)) w565 := by unfold o7_1_1; go_simp
  refine st_val g7_1_1 rfl (wanted_free rfl) Y fun a568 e => ?_; clear Y
  have g15 := R.at_ e (by decide); replace R := R.put e; replace h3 := slot_on e h3 (by decide); replace h4 := slot_on e h4 (by decide); replace h5 := slot_on e h5 (by decide); replace h6 := slot_on e h6 (by decide); replace h8 := slot_on e h8 (by decide); clear h14; have h15 := g15; clear g15; clear e
  refine st_end ?_
  change (c7_5).wp _ _ _ _
  refine wp_cond_false (x := c7_6) (y := Code.skip) (eval_slot h15) ?_
  refine wp_skip ?_
  change (c7_10).wp _ _ _ _
  refine wp_seq (x := c7_11) (y := c7_18) ?_
  refine wp_seq (x := c7_12) (y := c7_13) ?_
  change (Code.region 3 O7_3 false).wp _ _ _ _
  refine reg_in (l := [0, 1, 2, 3, 4, 5, 6, 7, 8, 9, 10, 11, 12]) rfl ?_
  have Y : (execOp a568.eval o7_3_0).run Try.prog w565 = .ok (.value (.agg #[.int .i64 a.k, .string (str a.nm), .int .i64 a.i, .slice aa a.args.length ca])) w565 := by have q0 : w565.cell? ⟨b551, 0, none⟩ = some (.int .i64 a.k) := B551.cell 0; have q1 : w565.cell? ⟨b551, 1, none⟩ = some (.string (str a.nm)) := B551.cell 1; have q2 : w565.cell? ⟨b551, 2, none⟩ = some (.int .i64 a.i) := B551.cell 2; have q3 : w565.cell? ⟨b551, 3, none⟩ = some (.slice aa a.args.length ca) := B551.cell 3; unfold o7_3_0; go_simp
  refine st_val g7_3_0 rfl (wanted_free rfl) Y fun a570 e => ?_; clear Y
  have g16 := R.at_ e (by decide); replace R := R.put e; replace h3 := slot_on e h3 (by decide); replace h4 := slot_on e h4 (by decide); replace h5 := slot_on e h5 (by decide); replace h6 := slot_on e h6 (by decide); replace h8 := slot_on e h8 (by decide); clear h15; have h16 := g16; clear g16; clear e
  have Y : (execOp a570.eval o7_3_1).run Try.prog w565 = .ok (.enter 15 #[.agg #[.int .i64 a.k, .string (str a.nm), .int .i64 a.i, .slice aa a.args.length ca]]) w565 := by unfold o7_3_1; go_simp
  have hck := check_any (HA.out.on K1); rw [HRa.out] at hck
  refine st_call g7_3_1 rfl (wanted_free rfl) Y ((hck).mono ?_); clear Y
  rintro e9 w572 ⟨rfl, kk⟩
  replace K1 := keep_onto K1 kk
  replace B551 := blk_on B551 kk
  replace B555 := blk_on B555 kk
  replace B559 := blk_on B559 kk
  clear kk
  clear hck
  refine ⟨_, rfl, fun a573 e => ?_⟩
  have g17 := R.at_ e (by decide); replace R := R.put e; replace h3 := slot_on e h3 (by decide); replace h4 := slot_on e h4 (by decide); replace h5 := slot_on e h5 (by decide); replace h6 := slot_on e h6 (by decide); replace h8 := slot_on e h8 (by decide); clear h16; have h17 := g17; clear g17; clear e
  have Y : (execOp a573.eval o7_3_2).run Try.prog w572 = .ok (.value (.bool false)) w572 := by unfold o7_3_2; go_simp
  refine st_val g7_3_2 rfl (wanted_free rfl) Y fun a575 e => ?_; clear Y
  have g18 := R.at_ e (by decide); replace R := R.put e; replace h3 := slot_on e h3 (by decide); replace h4 := slot_on e h4 (by decide); replace h5 := slot_on e h5 (by decide); replace h6 := slot_on e h6 (by decide); replace h8 := slot_on e h8 (by decide); clear h17; have h18 := g18; clear g18; clear e
  have Y : (execOp a575.eval o7_3_3).run Try.prog w572 = .ok (.value (.bool false)) w572 := by unfold o7_3_3; go_simp
  refine st_val g7_3_3 rfl (wanted_free rfl) Y fun a577 e => ?_; clear Y
  have g19 := R.at_ e (by decide); replace R := R.put e; replace h3 := slot_on e h3 (by decide); replace h4 := slot_on e h4 (by decide); replace h5 := slot_on e h5 (by decide); replace h6 := slot_on e h6 (by decide); replace h8 := slot_on e h8 (by decide); clear h18; have h19 := g19; clear g19; clear e
  have Y : (execOp a577.eval o7_3_4).run Try.prog w572 = .ok (.value (.agg #[.int .i64 b.k, .string (str b.nm), .int .i64 b.i, .slice ab b.args.length cb])) w572 := by have q0 : w572.cell? ⟨b555, 0, none⟩ = some (.int .i64 b.k) := B555.cell 0; have q1 : w572.cell? ⟨b555, 1, none⟩ = some (.string (str b.nm)) := B555.cell 1; have q2 : w572.cell? ⟨b555, 2, none⟩ = some (.int .i64 b.i) := B555.cell 2; have q3 : w572.cell? ⟨b555, 3, none⟩ = some (.slice ab b.args.length cb) := B555.cell 3; unfold o7_3_4; go_simp
  refine st_val g7_3_4 rfl (wanted_is (j := 3) (d := 19) rfl rfl h19 rfl) Y fun a579 e => ?_; clear Y
  have g20 := R.at_ e (by decide); replace R := R.put e; replace h3 := slot_on e h3 (by decide); replace h4 := slot_on e h4 (by decide); replace h5 := slot_on e h5 (by decide); replace h6 := slot_on e h6 (by decide); replace h8 := slot_on e h8 (by decide); replace h19 := slot_on e h19 (by decide); have h20 := g20; clear g20; clear e
  have Y : (execOp a579.eval o7_3_5).run Try.prog w572 = .ok (.enter 15 #[.agg #[.int .i64 b.k, .string (str b.nm), .int .i64 b.i, .slice ab b.args.length cb]]) w572 := by unfold o7_3_5; go_simp
  have hck := check_any (HB.out.on K1); rw [HRb.out] at hck
  refine st_call g7_3_5 rfl (wanted_is (j := 3) (d := 19) rfl rfl h19 rfl) Y ((hck).mono ?_); clear Y
  rintro e9 w581 ⟨rfl, kk⟩
  replace K1 := keep_onto K1 kk
  replace B551 := blk_on B551 kk
  replace B555 := blk_on B555 kk
  replace B559 := blk_on B559 kk
  clear kk
  clear hck
  refine ⟨_, rfl, fun a582 e => ?_⟩
  have g21 := R.at_ e (by decide); replace R := R.put e; replace h3 := slot_on e h3 (by decide); replace h4 := slot_on e h4 (by decide); replace h5 := slot_on e h5 (by decide); replace h6 := slot_on e h6 (by decide); replace h8 := slot_on e h8 (by decide); replace h19 := slot_on e h19 (by decide); clear h20; have h21 := g21; clear g21; clear e
  have Y : (execOp a582.eval o7_3_6).run Try.prog w581 = .ok (.value (.bool false)) w581 := by unfold o7_3_6; go_simp
  refine st_val g7_3_6 rfl (wanted_is (j := 3) (d := 19) rfl rfl h19 rfl) Y fun a584 e => ?_; clear Y
  have g22 := R.at_ e (by decide); replace R := R.put e; replace h3 := slot_on e h3 (by decide); replace h4 := slot_on e h4 (by decide); replace h5 := slot_on e h5 (by decide); replace h6 := slot_on e h6 (by decide); replace h8 := slot_on e h8 (by decide); replace h19 := slot_on e h19 (by decide); clear h21; have h22 := g22; clear g22; clear e
  have Y : (execOp a584.eval o7_3_7).run Try.prog w581 = .ok (.value (.bool false)) w581 := by unfold o7_3_7; go_simp
  refine st_val g7_3_7 rfl (wanted_free rfl) Y fun a586 e => ?_; clear Y
  have g23 := R.at_ e (by decide); replace R := R.put e; replace h3 := slot_on e h3 (by decide); replace h4 := slot_on e h4 (by decide); replace h5 := slot_on e h5 (by decide); replace h6 := slot_on e h6 (by decide); replace h8 := slot_on e h8 (by decide); clear h19 h22; have h23 := g23; clear g23; clear e
  have Y : (execOp a586.eval o7_3_8).run Try.prog w581 = .ok (.value (.bool false)) w581 := by unfold o7_3_8; go_simp
  refine st_val g7_3_8 rfl (wanted_free rfl) Y fun a588 e => ?_; clear Y
  have g24 := R.at_ e (by decide); replace R := R.put e; replace h3 := slot_on e h3 (by decide); replace h4 := slot_on e h4 (by decide); replace h5 := slot_on e h5 (by decide); replace h6 := slot_on e h6 (by decide); replace h8 := slot_on e h8 (by decide); clear h23; have h24 := g24; clear g24; clear e
  have Y : (execOp a588.eval o7_3_9).run Try.prog w581 = .ok (.value (.agg #[.int .i64 c.k, .string (str c.nm), .int .i64 c.i, .slice ac c.args.length cc])) w581 := by have q0 : w581.cell? ⟨b559, 0, none⟩ = some (.int .i64 c.k) := B559.cell 0; have q1 : w581.cell? ⟨b559, 1, none⟩ = some (.string (str c.nm)) := B559.cell 1; have q2 : w581.cell? ⟨b559, 2, none⟩ = some (.int .i64 c.i) := B559.cell 2; have q3 : w581.cell? ⟨b559, 3, none⟩ = some (.slice ac c.args.length cc) := B559.cell 3; unfold o7_3_9; go_simp
  refine st_val g7_3_9 rfl (wanted_is (j := 8) (d := 24) rfl rfl h24 rfl) Y fun a590 e => ?_; clear Y
  have g25 := R.at_ e (by decide); replace R := R.put e; replace h3 := slot_on e h3 (by decide); replace h4 := slot_on e h4 (by decide); replace h5 := slot_on e h5 (by decide); replace h6 := slot_on e h6 (by decide); replace h8 := slot_on e h8 (by decide); replace h24 := slot_on e h24 (by decide); have h25 := g25; clear g25; clear e
  have Y : (execOp a590.eval o7_3_10).run Try.prog w581 = .ok (.enter 15 #[.agg #[.int .i64 c.k, .string (str c.nm), .int .i64 c.i, .slice ac c.args.length cc]]) w581 := by unfold o7_3_10; go_simp
  have hck := check_any (HC.out.on K1); rw [HRc.out] at hck
  refine st_call g7_3_10 rfl (wanted_is (j := 8) (d := 24) rfl rfl h24 rfl) Y ((hck).mono ?_); clear Y
  rintro e9 w592 ⟨rfl, kk⟩
  replace K1 := keep_onto K1 kk
  replace B551 := blk_on B551 kk
  replace B555 := blk_on B555 kk
  replace B559 := blk_on B559 kk
  clear kk
  clear hck
  refine ⟨_, rfl, fun a593 e => ?_⟩
  have g26 := R.at_ e (by decide); replace R := R.put e; replace h3 := slot_on e h3 (by decide); replace h4 := slot_on e h4 (by decide); replace h5 := slot_on e h5 (by decide); replace h6 := slot_on e h6 (by decide); replace h8 := slot_on e h8 (by decide); replace h24 := slot_on e h24 (by decide); clear h25; have h26 := g26; clear g26; clear e
  have Y : (execOp a593.eval o7_3_11).run Try.prog w592 = .ok (.value (.bool false)) w592 := by unfold o7_3_11; go_simp
  refine st_val g7_3_11 rfl (wanted_is (j := 8) (d := 24) rfl rfl h24 rfl) Y fun a595 e => ?_; clear Y
  have g27 := R.at_ e (by decide); replace R := R.put e; replace h3 := slot_on e h3 (by decide); replace h4 := slot_on e h4 (by decide); replace h5 := slot_on e h5 (by decide); replace h6 := slot_on e h6 (by decide); replace h8 := slot_on e h8 (by decide); replace h24 := slot_on e h24 (by decide); clear h26; have h27 := g27; clear g27; clear e
  have Y : (execOp a595.eval o7_3_12).run Try.prog w592 = .ok (.value (.bool false)) w592 := by unfold o7_3_12; go_simp
  refine st_val g7_3_12 rfl (wanted_free rfl) Y fun a597 e => ?_; clear Y
  have g28 := R.at_ e (by decide); replace R := R.put e; replace h3 := slot_on e h3 (by decide); replace h4 := slot_on e h4 (by decide); replace h5 := slot_on e h5 (by decide); replace h6 := slot_on e h6 (by decide); replace h8 := slot_on e h8 (by decide); clear h24 h27; have h28 := g28; clear g28; clear e
  refine st_end ?_
  change (c7_13).wp _ _ _ _
  refine wp_cond_false (x := c7_14) (y := Code.skip) (eval_slot h28) ?_
  refine wp_skip ?_
  exact HJ _ _ R h3 h4 h5 h6 K1 B551 B555 B559

section
variable {W : World} {a b c : Tm} {aa ab ac : Option Addr} {ca cb cc : Nat} {m : Int}
theorem order_walk (hA : TmAt W.heap.size W a aa ca) (hB : TmAt W.heap.size W b ab cb) (hC : TmAt W.heap.size W c ac cc) (hm : (ik m).wf = true) :
    Calls Try.prog 7 #[tv a aa ca, tv b ab cb, tv c ac cc, .int .i64 m] W fun e w' => e = .returned (.bool true) ∧ Keep (fun g => g < W.heap.size) W w' := by
  refine enter_sx Try.func7 body7 rfl (by show (4 : Nat) ≤ 125; decide) fun f0 R hs => ?_
  have h0 := hs 0 _ rfl
  have h1 := hs 1 _ rfl
  have h2 := hs 2 _ rfl
  have h3 := hs 3 _ rfl
  have K1 := Keep.refl (fun g => g < W.heap.size) W
  have HA := Lib.hid hA; have HB := Lib.hid hB; have HC := Lib.hid hC
  cases hra : a.right with
  | false => exact ow1_a R h0 h1 h2 h3 K1 (Lib.hid hra) HA HB HC
  | true =>
  cases hrb : b.right with
  | false => exact ow1_b R h0 h1 h2 h3 K1 (Lib.hid hra) (Lib.hid hrb) HA HB HC
  | true =>
  cases hrc : c.right with
  | false => exact ow1_c R h0 h1 h2 h3 K1 (Lib.hid hra) (Lib.hid hrb) (Lib.hid hrc) HA HB HC
  | true =>
  obtain ⟨e1, e2, e3, e4⟩ := ord_neg hra hrb
  have e5 := (ord_neg hrb hrc).1
  have e6 := (ord_neg hra hrc).1
  have htr := (T.lin a.tree).tr b.tree c.tree
  have hvv := cmp_vals a.tree b.tree
  have HREN : Hid (∀ V, Keep (fun g => g < W.heap.size) W V → 1 ≤ m → m ≤ 1152921504606846976 → Calls Try.prog 32 #[tv a aa ca, .int .i64 m] V fun e w' => ∃ ax cx, e = .returned (.tuple #[tv (a.tree.ren m).tm ax cx, .int .i64 (m + (a.tree.vars.length : Int)), .int .i64 0]) ∧ TmAt w'.heap.size w' (a.tree.ren m).tm ax cx ∧ Keep (fun g => g < V.heap.size) V w') := Lib.hid fun V hV h1 h2 => by
    have h := Rename_any (hA.on hV) hm
    rw [rnV, if_pos hra, if_pos ⟨by omega, by omega⟩] at h
    refine Calls.mono h ?_
    rintro e w' ⟨a', c', rfl, hf, hk⟩
    exact ⟨a', c', rfl, hf.at_ (Nat.zero_le _), hk⟩
  refine ow1 R h0 h1 h2 h3 K1 (Lib.hid hra) (Lib.hid hrb) (Lib.hid hrc) HA HB HC ?_
  intro b1 b2 b3 f0 w0 R h3 h4 h5 h6 K1 B1 B2 B3
  have HP : Hid (1 ≤ m → Hid (vtV a (a.tree.ren m).tm = true) ∧ Hid ((vaV a).length = a.tree.vars.length) ∧ Hid (a.tree.vars.length ≤ 2000) ∧ Hid (∃ l : List Int, vaV (a.tree.ren m).tm = l ∧ l.length = a.tree.vars.length ∧ ∀ i : Nat, i < a.tree.vars.length → l[i]? = some (m + i)) ∧ Hid ((a.tree.ren m).tm.size = a.size ∧ a.size = a.size ∧ (a.tree.ren m).tm.depth = a.depth ∧ a.depth = a.depth)) := Lib.hid fun hm1 => by
    obtain ⟨p1, p2, p3, p4, p5, p6, p7, p8⟩ := ren_plain hra hm1
    exact ⟨Lib.hid p1, Lib.hid (by rw [p2]), Lib.hid p8, Lib.hid ⟨_, p3, p4, fun i hi => by rw [List.getElem?_eq_getElem (by omega), p5 i (by omega)]⟩, Lib.hid ⟨p6, rfl, p7, rfl⟩⟩
  rcases hvv with hz | hz | hz
  · rw [hz] at e1 e2 e4 htr
    exact ow5_n R h3 h4 h5 h6 K1 B1 B2 B3 HA HREN HP HB HC (Lib.hid e1) (Lib.hid e5) (Lib.hid e6) (Lib.hid e2) (Lib.hid e3) (Lib.hid e4) (Lib.hid htr)
  · rw [hz] at e1 e2 e4 htr
    exact ow5_z R h3 h4 h5 h6 K1 B1 B2 B3 HA HREN HP HB HC (Lib.hid e1) (Lib.hid e5) (Lib.hid e6) (Lib.hid e2) (Lib.hid e3) (Lib.hid e4) (Lib.hid htr)
  · rw [hz] at e1 e2 e4 htr
    exact ow5_p R h3 h4 h5 h6 K1 B1 B2 B3 HA HREN HP HB HC (Lib.hid e1) (Lib.hid e5) (Lib.hid e6) (Lib.hid e2) (Lib.hid e3) (Lib.hid e4) (Lib.hid htr)
end
end Go.Proofs.Ytaaodgkbopficaa
