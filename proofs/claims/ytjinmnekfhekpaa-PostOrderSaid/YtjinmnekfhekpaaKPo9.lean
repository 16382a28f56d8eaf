/-
  Package post: the law of order: walked with letter frames. No condition but where the numbers lie.
-/
import Derived.Test.YtjinmnekfhekpaaKPo8
namespace Go.Proofs.Ytjinmnekfhekpaa
open Go.RowKit Go.Maps
set_option linter.unusedVariables false
set_option linter.unusedSimpArgs false
def kt (n : Int) (i : Nat) : Tm := .node 4 [107] 0 [.node 2 [] n [], .node 2 [] (i : Int) []]
def kp (n : Int) : Tm := .node 4 [107] 0 [.node 2 [] n [], .node 1 [] 9 []]
def km (ns : List Int) (i : Nat) : Tm := kt (ns.getD i 0) i
theorem kt_tree (n : Int) (i : Nat) : (kt n i).tree = .c [107] [.n n, .n i] := by
  unfold kt; rw [tree_4 rfl]; simp only [Tm.args, Tm.nm, List.map_cons, List.map_nil, tree_2 (t := .node 2 [] n []) rfl, tree_2 (t := .node 2 [] (i : Int) []) rfl, Tm.i]
theorem kp_tree (n : Int) : (kp n).tree = .c [107] [.n n, .v 9] := by
  unfold kp; rw [tree_4 rfl]; simp only [Tm.args, Tm.nm, List.map_cons, List.map_nil, tree_2 (t := .node 2 [] n []) rfl, tree_1 (t := .node 1 [] 9 []) rfl, Tm.i]
theorem kt_ren (n : Int) (i : Nat) : ((kt n i).tree.ren 1).tm = kt n i := by
  rw [kt_tree]; unfold T.ren; rw [T.sub_c]; simp only [List.map_cons, List.map_nil, T.sub_n]; rfl
theorem kp_ren (n : Int) : (kp n).tree.ren 2001 = .c [107] [.n n, .v 2001] := by
  rw [kp_tree]; unfold T.ren; rw [T.sub_c]; simp only [List.map_cons, List.map_nil, T.sub_n, T.sub_v]
  have hv : (T.c [107] [T.n n, T.v 9]).vars = [9] := by simp [T.vars, T.acc, accL]
  rw [hv]; rfl
theorem kt_right (n : Int) (i : Nat) : (kt n i).right = true := right_of.2 ⟨by simp [kt, Tm.ok, okL], by simp [kt, Tm.ns, nsL], by simp [kt, Tm.nd, ndL]⟩
theorem kp_right (n : Int) : (kp n).right = true := right_of.2 ⟨by simp [kp, Tm.ok, okL], by simp [kp, Tm.ns, nsL], by simp [kp, Tm.nd, ndL]⟩
theorem kt_fit {n want : Int} {i : Nat} : Fit (kt n i) ((kp want).tree.ren 2001).tm ↔ n = want := by
  constructor
  · rintro ⟨f, h⟩
    unfold Uni at h
    rw [T.tm_tree, kt_tree, kp_ren, T.sub_c, T.sub_c] at h
    simp only [List.map_cons, List.map_nil, T.sub_n, T.c.injEq, List.cons.injEq, T.n.injEq] at h
    exact h.2.1
  · rintro rfl
    refine ⟨fun x => if x = 2001 then .n (i : Int) else .v x, ?_⟩
    unfold Uni
    rw [T.tm_tree, kt_tree, kp_ren, T.sub_c, T.sub_c]
    simp only [List.map_cons, List.map_nil, T.sub_n, T.sub_v, if_true]
def other (ns : List Int) (want : Int) (i : Nat) : Bool := !(ns.getD i 0 == want)
def rem0 (ns : List Int) (want : Int) (i : Nat) : List Nat := (List.range i).filter (other ns want) ++ (List.range' i (ns.length - i))
def rem1 (ns : List Int) (want : Int) (i : Nat) : List Nat := (List.range' i (ns.length - i)).filter (other ns want)
def remO (ns : List Int) (want : Int) (r : Int) : List Nat := if r = 0 then List.range ns.length else if r = 1 then rem1 ns want 0 else []
section
variable {ns : List Int} {want : Int} {i : Nat}
theorem rng (h : i < ns.length) : List.range' i (ns.length - i) = i :: List.range' (i + 1) (ns.length - (i + 1)) := by
  rw [show ns.length - i = (ns.length - (i + 1)) + 1 by omega, List.range'_succ]
theorem rem0_0 : rem0 ns want 0 = List.range ns.length := by unfold rem0; simp [List.range_eq_range']
theorem rem0_all (h : ns.length ≤ i) (hi : i ≤ ns.length) : rem0 ns want i = rem1 ns want 0 := by
  have : i = ns.length := by omega
  subst this
  unfold rem0 rem1; simp [List.range_eq_range']
theorem rem1_all (h : ns.length ≤ i) : rem1 ns want i = [] := by unfold rem1; rw [show ns.length - i = 0 by omega]; rfl
theorem rem0_hit (h : i < ns.length) (he : ns.getD i 0 = want) : rem0 ns want i = (List.range i).filter (other ns want) ++ i :: List.range' (i + 1) (ns.length - (i + 1)) ∧ rem0 ns want (i + 1) = (List.range i).filter (other ns want) ++ List.range' (i + 1) (ns.length - (i + 1)) := by
  refine ⟨by unfold rem0; rw [rng h], ?_⟩
  unfold rem0
  rw [List.range_succ, List.filter_append]
  have : other ns want i = false := by unfold other; rw [he]; simp
  simp [this]
theorem rem0_miss (h : i < ns.length) (he : ¬ ns.getD i 0 = want) : rem0 ns want (i + 1) = rem0 ns want i := by
  unfold rem0
  rw [rng h, List.range_succ, List.filter_append]
  have : other ns want i = true := by unfold other; simpa using he
  simp [this]
theorem rem1_hit (h : i < ns.length) (he : ¬ ns.getD i 0 = want) : rem1 ns want i = i :: rem1 ns want (i + 1) := by
  unfold rem1
  have : other ns want i = true := by unfold other; simpa using he
  rw [rng h, List.filter_cons, if_pos this]
theorem rem1_miss (h : i < ns.length) (he : ns.getD i 0 = want) : rem1 ns want (i + 1) = rem1 ns want i := by
  unfold rem1
  have : ¬ other ns want i = true := by unfold other; rw [he]; simp
  rw [rng h, List.filter_cons, if_neg this]
theorem other_of {l : List Nat} {y : Nat} (h : y ∈ l.filter (other ns want)) : ¬ ns.getD y 0 = want := by
  have := (List.mem_filter.1 h).2
  unfold other at this; simpa using this
end
theorem nth_of {ns : List Int} {ps : List TP} {A T : List Nat} {i : Nat} (h : ps.map (·.1) = (A ++ i :: T).map (km ns)) :
    ∃ ap cp, ps[A.length]? = some (km ns i, ap, cp) ∧ (∀ (k : Nat) (x : TP), k < A.length → ps[k]? = some x → ∃ y ∈ A, x.1 = km ns y) ∧ (ps.eraseIdx A.length).map (·.1) = (A ++ T).map (km ns) := by
  have hg : ∀ k : Nat, (ps[k]?).map (·.1) = ((A ++ i :: T)[k]?).map (km ns) := fun k => by
    have := congrArg (fun l => l[k]?) h
    simp only [List.getElem?_map] at this
    exact this
  have h0 := hg A.length
  rw [List.getElem?_append_right (Nat.le_refl _), Nat.sub_self] at h0
  simp only [List.getElem?_cons_zero, Option.map_some] at h0
  obtain ⟨⟨t, ap, cp⟩, hp, hp2⟩ := Option.map_eq_some_iff.1 h0
  simp only at hp2
  subst hp2
  refine ⟨ap, cp, hp, fun k x hk hx => ?_, ?_⟩
  · have h1 := hg k
    rw [hx, List.getElem?_append_left hk, List.getElem?_eq_getElem hk] at h1
    simp only [Option.map_some, Option.some.injEq] at h1
    exact ⟨A[k], List.getElem_mem hk, h1⟩
  · rw [List.eraseIdx_eq_take_drop_succ, List.map_append, List.map_take, List.map_drop, h, List.map_append, List.map_append, List.map_cons]
    rw [List.take_append_of_le_length (by rw [List.length_map]; exact Nat.le_refl _), List.take_of_length_le (by rw [List.length_map]; exact Nat.le_refl _)]
    congr 1
    rw [List.drop_append, List.drop_of_length_le (by rw [List.length_map]; omega), List.length_map, List.nil_append, Nat.add_sub_cancel_left]
    rfl
theorem kt_at {w : World} {n : Int} {i : Nat} {ap : Option Addr} {cp : Nat} (h : TmAt w.heap.size w (kt n i) ap cp) : ∃ bA oA, ap = some ⟨bA, oA, none⟩ ∧ w.cell? ⟨bA, oA + 2, none⟩ = some (.int .i64 n) := by
  obtain ⟨bA, oA, _, _, ha, _, _, _, _, h2, _⟩ := h.arg (j := 0) (x := .node 2 [] n []) rfl
  exact ⟨bA, oA, ha, by rw [Nat.zero_mul, Nat.zero_add] at h2; exact h2⟩
theorem kt_at1 {w : World} {n : Int} {i bA oA : Nat} {cp : Nat} (h : TmAt w.heap.size w (kt n i) (some ⟨bA, oA, none⟩) cp) : w.cell? ⟨bA, oA + 6, none⟩ = some (.int .i64 (i : Int)) := by
  obtain ⟨b', o', _, _, ha, _, _, _, _, h2, _⟩ := h.arg (j := 1) (x := .node 2 [] (i : Int) []) rfl
  cases ha
  exact h2
theorem none_of {ns : List Int} {want : Int} {ps : List TP} (h : ps.map (·.1) = (rem1 ns want 0).map (km ns)) : ∀ p ∈ ps, ¬ Fit p.1 ((kp want).tree.ren 2001).tm := fun p hp hf => by
  have hm : p.1 ∈ ps.map (fun x => x.1) := List.mem_map_of_mem hp
  rw [h] at hm
  obtain ⟨y, hy, he⟩ := List.mem_map.1 hm
  rw [← he] at hf
  exact other_of hy (kt_fit.1 hf)
def o5_0_0 : Oper := ⟨some 4, Op.assign (Operand.const (Value.bool false)), 4, "law.go:159", #[], none⟩
def O5_0 : Array Oper := List.toArray (o5_0_0 :: [])
theorem g5_0_0 : O5_0[0]? = some o5_0_0 := rfl
def c5_1 : Code := Code.region 0 O5_0 false
def o5_1_0 : Oper := ⟨some 21, Op.call { callee := Callee.value (Operand.func 21), args := #[], argTypes := #[] }, 48, "law.go:160", #[], none⟩
def o5_1_1 : Oper := ⟨some 5, Op.assign (Operand.tmp 21), 48, "law.go:160", #[ed_ 0, ec_ 0, ep_ 0], none⟩
def O5_1 : Array Oper := List.toArray (o5_1_0 :: o5_1_1 :: [])
theorem g5_1_0 : O5_1[0]? = some o5_1_0 := rfl
theorem g5_1_1 : O5_1[1]? = some o5_1_1 := rfl
def c5_3 : Code := Code.region 1 O5_1 false
def o5_2_0 : Oper := ⟨some 22, Op.move (Operand.tmp 5), 48, "law.go:161", #[], none⟩
def o5_2_1 : Oper := ⟨some 23, Op.binOp Go.BinOp.eql 48 (Operand.tmp 22) (Operand.const (Value.pointer none)) 48, 4, "law.go:161", #[ed_ 0], none⟩
def o5_2_2 : Oper := ⟨some 24, Op.move (Operand.tmp 23), 4, "law.go:161", #[ed_ 1], none⟩
def o5_2_3 : Oper := ⟨some 25, Op.call { callee := Callee.value (Operand.func 22), args := #[], argTypes := #[] }, 4, "law.go:161", #[ec_ 2, eg_ 2], some (2, false)⟩
def o5_2_4 : Oper := ⟨some 26, Op.unOp Go.UnOp.not 4 (Operand.tmp 25), 4, "law.go:161", #[ed_ 3, eg_ 2], some (2, false)⟩
def o5_2_5 : Oper := ⟨some 27, Op.pick (Operand.tmp 24) (Operand.const (Value.bool true)) (Operand.tmp 26), 4, "law.go:161", #[ed_ 2, ed_ 4], none⟩
def O5_2 : Array Oper := List.toArray (o5_2_0 :: o5_2_1 :: o5_2_2 :: o5_2_3 :: o5_2_4 :: o5_2_5 :: [])
theorem g5_2_0 : O5_2[0]? = some o5_2_0 := rfl
theorem g5_2_1 : O5_2[1]? = some o5_2_1 := rfl
theorem g5_2_2 : O5_2[2]? = some o5_2_2 := rfl
theorem g5_2_3 : O5_2[3]? = some o5_2_3 := rfl
theorem g5_2_4 : O5_2[4]? = some o5_2_4 := rfl
theorem g5_2_5 : O5_2[5]? = some o5_2_5 := rfl
def c5_6 : Code := Code.region 2 O5_2 false
def o5_3_0 : Oper := ⟨some 4, Op.assign (Operand.const (Value.bool false)), 4, "law.go:162", #[], none⟩
def O5_3 : Array Oper := List.toArray (o5_3_0 :: [])
def c5_9 : Code := Code.region 3 O5_3 false
def c5_8 : Code := Code.seq c5_9 Code.ret
def c5_7 : Code := Code.cond (Operand.tmp 27) c5_8 Code.skip
def c5_5 : Code := Code.seq c5_6 c5_7
def o5_4_0 : Oper := ⟨some 29, Op.move (Operand.tmp 5), 48, "law.go:164", #[], none⟩
def o5_4_1 : Oper := ⟨some 30, Op.call { callee := Callee.value (Operand.func 23), args := #[Operand.tmp 29, Operand.const (Value.int IntKind.i64 64)], argTypes := #[48, 3] }, 50, "law.go:164", #[ed_ 0], none⟩
def o5_4_2 : Oper := ⟨some 28, Op.move (Operand.tmp 30), 50, "law.go:164", #[ed_ 1], none⟩
def o5_4_3 : Oper := ⟨some 31, Op.extract (Operand.tmp 28) 0, 3, "law.go:164", #[ed_ 2], none⟩
def o5_4_4 : Oper := ⟨some 32, Op.extract (Operand.tmp 28) 1, 31, "law.go:164", #[ed_ 2, { on := 5, ground := Go.Ground.gcOnly Go.Departure.lateStores }], none⟩
def o5_4_5 : Oper := ⟨some 6, Op.assign (Operand.tmp 31), 3, "law.go:164", #[ed_ 3, ec_ 1, ep_ 0, ep_ 1, ep_ 2, ep_ 3, { on := 4, ground := Go.Ground.textOnly Go.Departure.lateStores }], none⟩
def o5_4_6 : Oper := ⟨some 7, Op.assign (Operand.tmp 32), 31, "law.go:164", #[ed_ 4, ec_ 5, ep_ 0, ep_ 1, ep_ 2, ep_ 3, ep_ 4, ep_ 5], none⟩
def O5_4 : Array Oper := List.toArray (o5_4_0 :: o5_4_1 :: o5_4_2 :: o5_4_3 :: o5_4_4 :: o5_4_5 :: o5_4_6 :: [])
theorem g5_4_0 : O5_4[0]? = some o5_4_0 := rfl
theorem g5_4_1 : O5_4[1]? = some o5_4_1 := rfl
theorem g5_4_2 : O5_4[2]? = some o5_4_2 := rfl
theorem g5_4_3 : O5_4[3]? = some o5_4_3 := rfl
theorem g5_4_4 : O5_4[4]? = some o5_4_4 := rfl
theorem g5_4_5 : O5_4[5]? = some o5_4_5 := rfl
theorem g5_4_6 : O5_4[6]? = some o5_4_6 := rfl
def c5_13 : Code := Code.region 4 O5_4 false
def o5_5_0 : Oper := ⟨some 33, Op.move (Operand.tmp 7), 31, "law.go:165", #[], none⟩
def o5_5_1 : Oper := ⟨some 34, Op.binOp Go.BinOp.neq 31 (Operand.tmp 33) (Operand.const (Value.int IntKind.i64 0)) 31, 4, "law.go:165", #[ed_ 0], none⟩
def O5_5 : Array Oper := List.toArray (o5_5_0 :: o5_5_1 :: [])
theorem g5_5_0 : O5_5[0]? = some o5_5_0 := rfl
theorem g5_5_1 : O5_5[1]? = some o5_5_1 := rfl
def c5_16 : Code := Code.region 5 O5_5 false
def o5_6_0 : Oper := ⟨some 4, Op.assign (Operand.const (Value.bool false)), 4, "law.go:166", #[], none⟩
def O5_6 : Array Oper := List.toArray (o5_6_0 :: [])
def c5_19 : Code := Code.region 6 O5_6 false
def c5_18 : Code := Code.seq c5_19 Code.ret
def c5_17 : Code := Code.cond (Operand.tmp 34) c5_18 Code.skip
def c5_15 : Code := Code.seq c5_16 c5_17
def o5_7_0 : Oper := ⟨some 35, Op.move (Operand.tmp 0), 56, "law.go:168", #[], none⟩
def o5_7_1 : Oper := ⟨some 36, Op.call { callee := Callee.builtin Go.Builtin.len, args := #[Operand.tmp 35], argTypes := #[56] }, 3, "law.go:168", #[ed_ 0], none⟩
def o5_7_2 : Oper := ⟨some 37, Op.binOp Go.BinOp.gtr 3 (Operand.tmp 36) (Operand.const (Value.int IntKind.i64 64)) 3, 4, "law.go:168", #[ed_ 1], none⟩
def O5_7 : Array Oper := List.toArray (o5_7_0 :: o5_7_1 :: o5_7_2 :: [])
theorem g5_7_0 : O5_7[0]? = some o5_7_0 := rfl
theorem g5_7_1 : O5_7[1]? = some o5_7_1 := rfl
theorem g5_7_2 : O5_7[2]? = some o5_7_2 := rfl
def c5_24 : Code := Code.region 7 O5_7 false
def o5_8_0 : Oper := ⟨some 38, Op.move (Operand.tmp 0), 56, "law.go:169", #[], none⟩
def o5_8_1 : Oper := ⟨some 39, Op.slice 56 (Operand.tmp 38) none (some (Operand.const (Value.int IntKind.i64 64))) none, 56, "law.go:169", #[ed_ 0], none⟩
def o5_8_2 : Oper := ⟨some 0, Op.assign (Operand.tmp 39), 56, "law.go:169", #[ed_ 1, ep_ 0, ep_ 1], none⟩
def O5_8 : Array Oper := List.toArray (o5_8_0 :: o5_8_1 :: o5_8_2 :: [])
theorem g5_8_0 : O5_8[0]? = some o5_8_0 := rfl
theorem g5_8_1 : O5_8[1]? = some o5_8_1 := rfl
theorem g5_8_2 : O5_8[2]? = some o5_8_2 := rfl
def c5_26 : Code := Code.region 8 O5_8 false
def c5_25 : Code := Code.cond (Operand.tmp 37) c5_26 Code.skip
def c5_23 : Code := Code.seq c5_24 c5_25
def o5_9_0 : Oper := ⟨some 40, Op.move (Operand.tmp 0), 56, "law.go:171", #[], none⟩
def o5_9_1 : Oper := ⟨some 41, Op.call { callee := Callee.builtin Go.Builtin.len, args := #[Operand.tmp 40], argTypes := #[56] }, 3, "law.go:171", #[ed_ 0], none⟩
def o5_9_2 : Oper := ⟨some 42, Op.move (Operand.const (Value.int IntKind.i64 0)), 3, "law.go:171", #[], none⟩
def O5_9 : Array Oper := List.toArray (o5_9_0 :: o5_9_1 :: o5_9_2 :: [])
theorem g5_9_0 : O5_9[0]? = some o5_9_0 := rfl
theorem g5_9_1 : O5_9[1]? = some o5_9_1 := rfl
theorem g5_9_2 : O5_9[2]? = some o5_9_2 := rfl
def c5_30 : Code := Code.region 9 O5_9 false
def o5_10_0 : Oper := ⟨some 43, Op.binOp Go.BinOp.lss 3 (Operand.tmp 42) (Operand.tmp 41) 3, 0, "law.go:171", #[], none⟩
def O5_10 : Array Oper := List.toArray (o5_10_0 :: [])
theorem g5_10_0 : O5_10[0]? = some o5_10_0 := rfl
def c5_34 : Code := Code.region 10 O5_10 false
def c5_38 : Code := Code.exit 0
def c5_36 : Code := Code.cond (Operand.tmp 43) Code.skip c5_38
def o5_11_0 : Oper := ⟨some 44, Op.move (Operand.tmp 42), 3, "law.go:171", #[], none⟩
def o5_11_1 : Oper := ⟨some 45, Op.indexAddr 56 (Operand.tmp 40) (Operand.tmp 42), 0, "law.go:171", #[], none⟩
def o5_11_2 : Oper := ⟨some 46, Op.load 2 (Operand.tmp 45), 2, "law.go:171", #[ed_ 1], none⟩
def o5_11_3 : Oper := ⟨some 8, Op.assign (Operand.tmp 44), 3, "law.go:171", #[ed_ 0, ep_ 0, ep_ 1, ep_ 2], none⟩
def o5_11_4 : Oper := ⟨some 9, Op.assign (Operand.tmp 46), 2, "law.go:171", #[ed_ 2, ec_ 3, ep_ 0, ep_ 1, ep_ 2, ep_ 3], none⟩
def O5_11 : Array Oper := List.toArray (o5_11_0 :: o5_11_1 :: o5_11_2 :: o5_11_3 :: o5_11_4 :: [])
theorem g5_11_0 : O5_11[0]? = some o5_11_0 := rfl
theorem g5_11_1 : O5_11[1]? = some o5_11_1 := rfl
theorem g5_11_2 : O5_11[2]? = some o5_11_2 := rfl
theorem g5_11_3 : O5_11[3]? = some o5_11_3 := rfl
theorem g5_11_4 : O5_11[4]? = some o5_11_4 := rfl
def c5_42 : Code := Code.region 11 O5_11 false
def o5_12_0 : Oper := ⟨some 47, Op.move (Operand.tmp 5), 48, "law.go:172", #[], none⟩
def o5_12_1 : Oper := ⟨some 48, Op.move (Operand.tmp 6), 3, "law.go:172", #[], none⟩
def o5_12_2 : Oper := ⟨some 49, Op.move (Operand.tmp 9), 2, "law.go:172", #[], none⟩
def o5_12_3 : Oper := ⟨some 50, Op.call { callee := Callee.value (Operand.func 31), args := #[Operand.tmp 49], argTypes := #[2] }, 24, "law.go:172", #[ed_ 2], none⟩
def o5_12_4 : Oper := ⟨some 51, Op.move (Operand.tmp 8), 3, "law.go:172", #[], none⟩
def o5_12_5 : Oper := ⟨some 52, Op.call { callee := Callee.value (Operand.func 31), args := #[Operand.tmp 51], argTypes := #[2] }, 24, "law.go:172", #[ed_ 4, ec_ 3], none⟩
def o5_12_6 : Oper := ⟨some 53, Op.buildSlice 22 2 #[(0, Operand.tmp 50), (1, Operand.tmp 52)], 22, "law.go:172", #[ed_ 3, ed_ 5], none⟩
def o5_12_7 : Oper := ⟨some 54, Op.call { callee := Callee.value (Operand.func 30), args := #[Operand.const (Value.string { data := #[107] }), Operand.tmp 53], argTypes := #[9, 22] }, 24, "law.go:172", #[ed_ 6, ec_ 5], none⟩
def o5_12_8 : Oper := ⟨some 55, Op.call { callee := Callee.value (Operand.func 24), args := #[Operand.tmp 47, Operand.tmp 48, Operand.tmp 54], argTypes := #[48, 3, 24] }, 31, "law.go:172", #[ed_ 0, ed_ 1, ed_ 7, ec_ 7], none⟩
def o5_12_9 : Oper := ⟨some 56, Op.binOp Go.BinOp.neq 31 (Operand.tmp 55) (Operand.const (Value.int IntKind.i64 0)) 31, 4, "law.go:172", #[ed_ 8], none⟩
def O5_12 : Array Oper := List.toArray (o5_12_0 :: o5_12_1 :: o5_12_2 :: o5_12_3 :: o5_12_4 :: o5_12_5 :: o5_12_6 :: o5_12_7 :: o5_12_8 :: o5_12_9 :: [])
theorem g5_12_0 : O5_12[0]? = some o5_12_0 := rfl
theorem g5_12_1 : O5_12[1]? = some o5_12_1 := rfl
theorem g5_12_2 : O5_12[2]? = some o5_12_2 := rfl
theorem g5_12_3 : O5_12[3]? = some o5_12_3 := rfl
theorem g5_12_4 : O5_12[4]? = some o5_12_4 := rfl
theorem g5_12_5 : O5_12[5]? = some o5_12_5 := rfl
theorem g5_12_6 : O5_12[6]? = some o5_12_6 := rfl
theorem g5_12_7 : O5_12[7]? = some o5_12_7 := rfl
theorem g5_12_8 : O5_12[8]? = some o5_12_8 := rfl
theorem g5_12_9 : O5_12[9]? = some o5_12_9 := rfl
def c5_44 : Code := Code.region 12 O5_12 false
def o5_13_0 : Oper := ⟨some 4, Op.assign (Operand.const (Value.bool false)), 4, "law.go:173", #[], none⟩
def O5_13 : Array Oper := List.toArray (o5_13_0 :: [])
def c5_47 : Code := Code.region 13 O5_13 false
def c5_46 : Code := Code.seq c5_47 Code.ret
def c5_45 : Code := Code.cond (Operand.tmp 56) c5_46 Code.skip
def c5_43 : Code := Code.seq c5_44 c5_45
def c5_41 : Code := Code.seq c5_42 c5_43
def c5_40 : Code := Code.block 1 c5_41
def o5_14_0 : Oper := ⟨some 57, Op.binOp Go.BinOp.add 3 (Operand.tmp 42) (Operand.const (Value.int IntKind.i64 1)) 3, 3, "law.go:171", #[], none⟩
def o5_14_1 : Oper := ⟨some 42, Op.move (Operand.tmp 57), 3, "law.go:171", #[ed_ 0], none⟩
def O5_14 : Array Oper := List.toArray (o5_14_0 :: o5_14_1 :: [])
theorem g5_14_0 : O5_14[0]? = some o5_14_0 := rfl
theorem g5_14_1 : O5_14[1]? = some o5_14_1 := rfl
def c5_50 : Code := Code.region 14 O5_14 false
def c5_39 : Code := Code.seq c5_40 c5_50
def c5_35 : Code := Code.seq c5_36 c5_39
def c5_33 : Code := Code.seq c5_34 c5_35
def c5_32 : Code := Code.loop c5_33
def c5_31 : Code := Code.block 0 c5_32
def c5_29 : Code := Code.seq c5_30 c5_31
def o5_15_0 : Oper := ⟨some 10, Op.assign (Operand.const (Value.int IntKind.i64 0)), 3, "law.go:176", #[], none⟩
def O5_15 : Array Oper := List.toArray (o5_15_0 :: [])
theorem g5_15_0 : O5_15[0]? = some o5_15_0 := rfl
def c5_53 : Code := Code.region 15 O5_15 false
def o5_16_0 : Oper := ⟨some 58, Op.move (Operand.tmp 10), 3, "law.go:176", #[], none⟩
def o5_16_1 : Oper := ⟨some 59, Op.binOp Go.BinOp.lss 3 (Operand.tmp 58) (Operand.const (Value.int IntKind.i64 2)) 3, 4, "law.go:176", #[ed_ 0], none⟩
def O5_16 : Array Oper := List.toArray (o5_16_0 :: o5_16_1 :: [])
theorem g5_16_0 : O5_16[0]? = some o5_16_0 := rfl
theorem g5_16_1 : O5_16[1]? = some o5_16_1 := rfl
def c5_58 : Code := Code.region 16 O5_16 false
def c5_61 : Code := Code.exit 2
def c5_59 : Code := Code.cond (Operand.tmp 59) Code.skip c5_61
def c5_57 : Code := Code.seq c5_58 c5_59
def o5_18_0 : Oper := ⟨some 62, Op.move (Operand.tmp 0), 56, "law.go:177", #[], none⟩
def o5_18_1 : Oper := ⟨some 63, Op.call { callee := Callee.builtin Go.Builtin.len, args := #[Operand.tmp 62], argTypes := #[56] }, 3, "law.go:177", #[ed_ 0], none⟩
def o5_18_2 : Oper := ⟨some 64, Op.move (Operand.const (Value.int IntKind.i64 0)), 3, "law.go:177", #[], none⟩
def O5_18 : Array Oper := List.toArray (o5_18_0 :: o5_18_1 :: o5_18_2 :: [])
theorem g5_18_0 : O5_18[0]? = some o5_18_0 := rfl
theorem g5_18_1 : O5_18[1]? = some o5_18_1 := rfl
theorem g5_18_2 : O5_18[2]? = some o5_18_2 := rfl
def c5_66 : Code := Code.region 18 O5_18 false
def o5_19_0 : Oper := ⟨some 65, Op.binOp Go.BinOp.lss 3 (Operand.tmp 64) (Operand.tmp 63) 3, 0, "law.go:177", #[], none⟩
def O5_19 : Array Oper := List.toArray (o5_19_0 :: [])
theorem g5_19_0 : O5_19[0]? = some o5_19_0 := rfl
def c5_70 : Code := Code.region 19 O5_19 false
def c5_74 : Code := Code.exit 4
def c5_72 : Code := Code.cond (Operand.tmp 65) Code.skip c5_74
def o5_20_0 : Oper := ⟨some 66, Op.move (Operand.tmp 64), 3, "law.go:177", #[], none⟩
def o5_20_1 : Oper := ⟨some 67, Op.indexAddr 56 (Operand.tmp 62) (Operand.tmp 64), 0, "law.go:177", #[], none⟩
def o5_20_2 : Oper := ⟨some 68, Op.load 2 (Operand.tmp 67), 2, "law.go:177", #[ed_ 1], none⟩
def o5_20_3 : Oper := ⟨some 11, Op.assign (Operand.tmp 66), 3, "law.go:177", #[ed_ 0, ep_ 0, ep_ 1, ep_ 2], none⟩
def o5_20_4 : Oper := ⟨some 12, Op.assign (Operand.tmp 68), 2, "law.go:177", #[ed_ 2, ec_ 3, ep_ 0, ep_ 1, ep_ 2, ep_ 3], none⟩
def O5_20 : Array Oper := List.toArray (o5_20_0 :: o5_20_1 :: o5_20_2 :: o5_20_3 :: o5_20_4 :: [])
theorem g5_20_0 : O5_20[0]? = some o5_20_0 := rfl
theorem g5_20_1 : O5_20[1]? = some o5_20_1 := rfl
theorem g5_20_2 : O5_20[2]? = some o5_20_2 := rfl
theorem g5_20_3 : O5_20[3]? = some o5_20_3 := rfl
theorem g5_20_4 : O5_20[4]? = some o5_20_4 := rfl
def c5_78 : Code := Code.region 20 O5_20 false
def o5_21_0 : Oper := ⟨some 69, Op.move (Operand.tmp 12), 2, "law.go:178", #[], none⟩
def o5_21_1 : Oper := ⟨some 70, Op.move (Operand.tmp 1), 2, "law.go:178", #[], none⟩
def o5_21_2 : Oper := ⟨some 71, Op.binOp Go.BinOp.eql 2 (Operand.tmp 69) (Operand.tmp 70) 2, 4, "law.go:178", #[ed_ 0, ed_ 1], none⟩
def o5_21_3 : Oper := ⟨some 72, Op.move (Operand.tmp 10), 3, "law.go:178", #[], none⟩
def o5_21_4 : Oper := ⟨some 73, Op.binOp Go.BinOp.eql 3 (Operand.tmp 72) (Operand.const (Value.int IntKind.i64 0)) 3, 4, "law.go:178", #[ed_ 3], none⟩
def o5_21_5 : Oper := ⟨some 74, Op.binOp Go.BinOp.neq 4 (Operand.tmp 71) (Operand.tmp 73) 4, 4, "law.go:178", #[ed_ 2, ed_ 4], none⟩
def O5_21 : Array Oper := List.toArray (o5_21_0 :: o5_21_1 :: o5_21_2 :: o5_21_3 :: o5_21_4 :: o5_21_5 :: [])
theorem g5_21_0 : O5_21[0]? = some o5_21_0 := rfl
theorem g5_21_1 : O5_21[1]? = some o5_21_1 := rfl
theorem g5_21_2 : O5_21[2]? = some o5_21_2 := rfl
theorem g5_21_3 : O5_21[3]? = some o5_21_3 := rfl
theorem g5_21_4 : O5_21[4]? = some o5_21_4 := rfl
theorem g5_21_5 : O5_21[5]? = some o5_21_5 := rfl
def c5_81 : Code := Code.region 21 O5_21 false
def c5_83 : Code := Code.exit 5
def c5_82 : Code := Code.cond (Operand.tmp 74) c5_83 Code.skip
def c5_80 : Code := Code.seq c5_81 c5_82
def o5_22_0 : Oper := ⟨some 75, Op.move (Operand.tmp 1), 2, "law.go:181", #[], none⟩
def o5_22_1 : Oper := ⟨some 76, Op.call { callee := Callee.value (Operand.func 31), args := #[Operand.tmp 75], argTypes := #[2] }, 24, "law.go:181", #[ed_ 0], none⟩
def o5_22_2 : Oper := ⟨some 77, Op.call { callee := Callee.value (Operand.func 26), args := #[Operand.const (Value.int IntKind.i64 9)], argTypes := #[2] }, 24, "law.go:181", #[ec_ 1], none⟩
def o5_22_3 : Oper := ⟨some 78, Op.buildSlice 22 2 #[(0, Operand.tmp 76), (1, Operand.tmp 77)], 22, "law.go:181", #[ed_ 1, ed_ 2], none⟩
def o5_22_4 : Oper := ⟨some 79, Op.call { callee := Callee.value (Operand.func 30), args := #[Operand.const (Value.string { data := #[107] }), Operand.tmp 78], argTypes := #[9, 22] }, 24, "law.go:181", #[ed_ 3, ec_ 2], none⟩
def o5_22_5 : Oper := ⟨some 13, Op.alloc 24, 0, "law.go:181", #[], none⟩
def o5_22_6 : Oper := ⟨none, Op.store 24 (Operand.tmp 13) (Operand.tmp 79), 0, "law.go:181", #[ed_ 5, ed_ 4, ec_ 4, ep_ 0, ep_ 1, ep_ 2, ep_ 3, ep_ 4, ep_ 5], none⟩
def O5_22 : Array Oper := List.toArray (o5_22_0 :: o5_22_1 :: o5_22_2 :: o5_22_3 :: o5_22_4 :: o5_22_5 :: o5_22_6 :: [])
theorem g5_22_0 : O5_22[0]? = some o5_22_0 := rfl
theorem g5_22_1 : O5_22[1]? = some o5_22_1 := rfl
theorem g5_22_2 : O5_22[2]? = some o5_22_2 := rfl
theorem g5_22_3 : O5_22[3]? = some o5_22_3 := rfl
theorem g5_22_4 : O5_22[4]? = some o5_22_4 := rfl
theorem g5_22_5 : O5_22[5]? = some o5_22_5 := rfl
theorem g5_22_6 : O5_22[6]? = some o5_22_6 := rfl
def c5_86 : Code := Code.region 22 O5_22 false
def o5_23_0 : Oper := ⟨some 80, Op.move (Operand.tmp 10), 3, "law.go:182", #[], none⟩
def o5_23_1 : Oper := ⟨some 81, Op.binOp Go.BinOp.eql 3 (Operand.tmp 80) (Operand.const (Value.int IntKind.i64 1)) 3, 4, "law.go:182", #[ed_ 0], none⟩
def O5_23 : Array Oper := List.toArray (o5_23_0 :: o5_23_1 :: [])
theorem g5_23_0 : O5_23[0]? = some o5_23_0 := rfl
theorem g5_23_1 : O5_23[1]? = some o5_23_1 := rfl
def c5_89 : Code := Code.region 23 O5_23 false
def o5_24_0 : Oper := ⟨some 82, Op.call { callee := Callee.value (Operand.func 26), args := #[Operand.const (Value.int IntKind.i64 3)], argTypes := #[2] }, 24, "law.go:183", #[], none⟩
def o5_24_1 : Oper := ⟨some 14, Op.alloc 24, 0, "law.go:183", #[], none⟩
def o5_24_2 : Oper := ⟨none, Op.store 24 (Operand.tmp 14) (Operand.tmp 82), 0, "law.go:183", #[ed_ 1, ed_ 0, ec_ 0, ep_ 0, ep_ 1], none⟩
def O5_24 : Array Oper := List.toArray (o5_24_0 :: o5_24_1 :: o5_24_2 :: [])
theorem g5_24_0 : O5_24[0]? = some o5_24_0 := rfl
theorem g5_24_1 : O5_24[1]? = some o5_24_1 := rfl
theorem g5_24_2 : O5_24[2]? = some o5_24_2 := rfl
def c5_92 : Code := Code.region 24 O5_24 false
def o5_25_0 : Oper := ⟨some 83, Op.load 24 (Operand.tmp 14), 24, "law.go:184", #[], none⟩
def o5_25_1 : Oper := ⟨none, Op.store 24 (Operand.tmp 13) (Operand.tmp 83), 0, "law.go:184", #[ed_ 0, ep_ 0], none⟩
def O5_25 : Array Oper := List.toArray (o5_25_0 :: o5_25_1 :: [])
theorem g5_25_0 : O5_25[0]? = some o5_25_0 := rfl
theorem g5_25_1 : O5_25[1]? = some o5_25_1 := rfl
def c5_93 : Code := Code.region 25 O5_25 false
def c5_91 : Code := Code.seq c5_92 c5_93
def c5_90 : Code := Code.cond (Operand.tmp 81) c5_91 Code.skip
def c5_88 : Code := Code.seq c5_89 c5_90
def o5_26_0 : Oper := ⟨some 85, Op.move (Operand.tmp 5), 48, "law.go:186", #[], none⟩
def o5_26_1 : Oper := ⟨some 86, Op.move (Operand.tmp 6), 3, "law.go:186", #[], none⟩
def o5_26_2 : Oper := ⟨some 87, Op.load 24 (Operand.tmp 13), 24, "law.go:186", #[], none⟩
def o5_26_3 : Oper := ⟨some 88, Op.call { callee := Callee.value (Operand.func 27), args := #[Operand.tmp 85, Operand.tmp 86, Operand.tmp 87], argTypes := #[48, 3, 24] }, 32, "law.go:186", #[ed_ 0, ed_ 1, ed_ 2], none⟩
def o5_26_4 : Oper := ⟨some 84, Op.move (Operand.tmp 88), 32, "law.go:186", #[ed_ 3], none⟩
def o5_26_5 : Oper := ⟨some 89, Op.extract (Operand.tmp 84) 0, 24, "law.go:186", #[ed_ 4], none⟩
def o5_26_6 : Oper := ⟨some 90, Op.extract (Operand.tmp 84) 1, 31, "law.go:186", #[ed_ 4, { on := 8, ground := Go.Ground.gcOnly Go.Departure.lateStores }], none⟩
def o5_26_7 : Oper := ⟨some 15, Op.alloc 24, 0, "law.go:186", #[], none⟩
def o5_26_8 : Oper := ⟨none, Op.store 24 (Operand.tmp 15) (Operand.tmp 89), 0, "law.go:186", #[ed_ 7, ed_ 5, ec_ 3, ep_ 0, ep_ 1, ep_ 2, ep_ 3, ep_ 4, ep_ 5, { on := 6, ground := Go.Ground.textOnly Go.Departure.lateStores }, ep_ 7], none⟩
def o5_26_9 : Oper := ⟨some 16, Op.assign (Operand.tmp 90), 31, "law.go:186", #[ed_ 6, ec_ 8, ep_ 0, ep_ 1, ep_ 2, ep_ 3, ep_ 4, ep_ 5, ep_ 6, ep_ 7, ep_ 8], none⟩
def O5_26 : Array Oper := List.toArray (o5_26_0 :: o5_26_1 :: o5_26_2 :: o5_26_3 :: o5_26_4 :: o5_26_5 :: o5_26_6 :: o5_26_7 :: o5_26_8 :: o5_26_9 :: [])
theorem g5_26_0 : O5_26[0]? = some o5_26_0 := rfl
theorem g5_26_1 : O5_26[1]? = some o5_26_1 := rfl
theorem g5_26_2 : O5_26[2]? = some o5_26_2 := rfl
theorem g5_26_3 : O5_26[3]? = some o5_26_3 := rfl
theorem g5_26_4 : O5_26[4]? = some o5_26_4 := rfl
theorem g5_26_5 : O5_26[5]? = some o5_26_5 := rfl
theorem g5_26_6 : O5_26[6]? = some o5_26_6 := rfl
theorem g5_26_7 : O5_26[7]? = some o5_26_7 := rfl
theorem g5_26_8 : O5_26[8]? = some o5_26_8 := rfl
theorem g5_26_9 : O5_26[9]? = some o5_26_9 := rfl
def c5_96 : Code := Code.region 26 O5_26 false
def o5_27_0 : Oper := ⟨some 91, Op.move (Operand.tmp 16), 31, "law.go:187", #[], none⟩
def o5_27_1 : Oper := ⟨some 92, Op.binOp Go.BinOp.neq 31 (Operand.tmp 91) (Operand.const (Value.int IntKind.i64 0)) 31, 4, "law.go:187", #[ed_ 0], none⟩
def o5_27_2 : Oper := ⟨some 93, Op.move (Operand.tmp 92), 4, "law.go:187", #[ed_ 1], none⟩
def o5_27_3 : Oper := ⟨some 94, Op.fieldAddr 24 (Operand.tmp 15) 3, 0, "law.go:187", #[eg_ 2], some (2, false)⟩
def o5_27_4 : Oper := ⟨some 95, Op.load 22 (Operand.tmp 94), 22, "law.go:187", #[ed_ 3, eg_ 2], some (2, false)⟩
def o5_27_5 : Oper := ⟨some 96, Op.call { callee := Callee.builtin Go.Builtin.len, args := #[Operand.tmp 95], argTypes := #[22] }, 3, "law.go:187", #[ed_ 4, eg_ 2], some (2, false)⟩
def o5_27_6 : Oper := ⟨some 97, Op.binOp Go.BinOp.neq 3 (Operand.tmp 96) (Operand.const (Value.int IntKind.i64 2)) 3, 4, "law.go:187", #[ed_ 5, eg_ 2], some (2, false)⟩
def o5_27_7 : Oper := ⟨some 98, Op.pick (Operand.tmp 93) (Operand.const (Value.bool true)) (Operand.tmp 97), 4, "law.go:187", #[ed_ 2, ed_ 6], none⟩
def o5_27_8 : Oper := ⟨some 99, Op.move (Operand.tmp 98), 4, "law.go:187", #[ed_ 7, ec_ 2], none⟩
def o5_27_9 : Oper := ⟨some 100, Op.fieldAddr 24 (Operand.tmp 15) 3, 0, "law.go:187", #[eg_ 8], some (8, false)⟩
def o5_27_10 : Oper := ⟨some 101, Op.load 22 (Operand.tmp 100), 22, "law.go:187", #[ed_ 9, eg_ 8], some (8, false)⟩
def o5_27_11 : Oper := ⟨some 102, Op.indexAddr 22 (Operand.tmp 101) (Operand.const (Value.int IntKind.i64 0)), 0, "law.go:187", #[ed_ 10, eg_ 8], some (8, false)⟩
def o5_27_12 : Oper := ⟨some 103, Op.fieldAddr 24 (Operand.tmp 102) 2, 0, "law.go:187", #[ed_ 11, eg_ 8], some (8, false)⟩
def o5_27_13 : Oper := ⟨some 104, Op.load 2 (Operand.tmp 103), 2, "law.go:187", #[ed_ 12, eg_ 8], some (8, false)⟩
def o5_27_14 : Oper := ⟨some 105, Op.move (Operand.tmp 12), 2, "law.go:187", #[eg_ 8], some (8, false)⟩
def o5_27_15 : Oper := ⟨some 106, Op.binOp Go.BinOp.neq 2 (Operand.tmp 104) (Operand.tmp 105) 2, 4, "law.go:187", #[ed_ 13, ed_ 14, eg_ 8], some (8, false)⟩
def o5_27_16 : Oper := ⟨some 107, Op.pick (Operand.tmp 99) (Operand.const (Value.bool true)) (Operand.tmp 106), 4, "law.go:187", #[ed_ 8, ed_ 15], none⟩
def o5_27_17 : Oper := ⟨some 108, Op.move (Operand.tmp 107), 4, "law.go:187", #[ed_ 16, ec_ 8], none⟩
def o5_27_18 : Oper := ⟨some 109, Op.fieldAddr 24 (Operand.tmp 15) 3, 0, "law.go:187", #[eg_ 17], some (17, false)⟩
def o5_27_19 : Oper := ⟨some 110, Op.load 22 (Operand.tmp 109), 22, "law.go:187", #[ed_ 18, eg_ 17], some (17, false)⟩
def o5_27_20 : Oper := ⟨some 111, Op.indexAddr 22 (Operand.tmp 110) (Operand.const (Value.int IntKind.i64 1)), 0, "law.go:187", #[ed_ 19, eg_ 17], some (17, false)⟩
def o5_27_21 : Oper := ⟨some 112, Op.fieldAddr 24 (Operand.tmp 111) 2, 0, "law.go:187", #[ed_ 20, eg_ 17], some (17, false)⟩
def o5_27_22 : Oper := ⟨some 113, Op.load 2 (Operand.tmp 112), 2, "law.go:187", #[ed_ 21, eg_ 17], some (17, false)⟩
def o5_27_23 : Oper := ⟨some 114, Op.move (Operand.tmp 11), 3, "law.go:187", #[eg_ 17], some (17, false)⟩
def o5_27_24 : Oper := ⟨some 115, Op.binOp Go.BinOp.neq 2 (Operand.tmp 113) (Operand.tmp 114) 2, 4, "law.go:187", #[ed_ 22, ed_ 23, eg_ 17], some (17, false)⟩
def o5_27_25 : Oper := ⟨some 116, Op.pick (Operand.tmp 108) (Operand.const (Value.bool true)) (Operand.tmp 115), 4, "law.go:187", #[ed_ 17, ed_ 24], none⟩
def O5_27 : Array Oper := List.toArray (o5_27_0 :: o5_27_1 :: o5_27_2 :: o5_27_3 :: o5_27_4 :: o5_27_5 :: o5_27_6 :: o5_27_7 :: o5_27_8 :: o5_27_9 :: o5_27_10 :: o5_27_11 :: o5_27_12 :: o5_27_13 :: o5_27_14 :: o5_27_15 :: o5_27_16 :: o5_27_17 :: o5_27_18 :: o5_27_19 :: o5_27_20 :: o5_27_21 :: o5_27_22 :: o5_27_23 :: o5_27_24 :: o5_27_25 :: [])
theorem g5_27_0 : O5_27[0]? = some o5_27_0 := rfl
theorem g5_27_1 : O5_27[1]? = some o5_27_1 := rfl
theorem g5_27_2 : O5_27[2]? = some o5_27_2 := rfl
theorem g5_27_3 : O5_27[3]? = some o5_27_3 := rfl
theorem g5_27_4 : O5_27[4]? = some o5_27_4 := rfl
theorem g5_27_5 : O5_27[5]? = some o5_27_5 := rfl
theorem g5_27_6 : O5_27[6]? = some o5_27_6 := rfl
theorem g5_27_7 : O5_27[7]? = some o5_27_7 := rfl
theorem g5_27_8 : O5_27[8]? = some o5_27_8 := rfl
theorem g5_27_9 : O5_27[9]? = some o5_27_9 := rfl
theorem g5_27_10 : O5_27[10]? = some o5_27_10 := rfl
theorem g5_27_11 : O5_27[11]? = some o5_27_11 := rfl
theorem g5_27_12 : O5_27[12]? = some o5_27_12 := rfl
theorem g5_27_13 : O5_27[13]? = some o5_27_13 := rfl
theorem g5_27_14 : O5_27[14]? = some o5_27_14 := rfl
theorem g5_27_15 : O5_27[15]? = some o5_27_15 := rfl
theorem g5_27_16 : O5_27[16]? = some o5_27_16 := rfl
theorem g5_27_17 : O5_27[17]? = some o5_27_17 := rfl
theorem g5_27_18 : O5_27[18]? = some o5_27_18 := rfl
theorem g5_27_19 : O5_27[19]? = some o5_27_19 := rfl
theorem g5_27_20 : O5_27[20]? = some o5_27_20 := rfl
theorem g5_27_21 : O5_27[21]? = some o5_27_21 := rfl
theorem g5_27_22 : O5_27[22]? = some o5_27_22 := rfl
theorem g5_27_23 : O5_27[23]? = some o5_27_23 := rfl
theorem g5_27_24 : O5_27[24]? = some o5_27_24 := rfl
theorem g5_27_25 : O5_27[25]? = some o5_27_25 := rfl
def c5_98 : Code := Code.region 27 O5_27 false
def o5_28_0 : Oper := ⟨some 4, Op.assign (Operand.const (Value.bool false)), 4, "law.go:188", #[], none⟩
def O5_28 : Array Oper := List.toArray (o5_28_0 :: [])
def c5_101 : Code := Code.region 28 O5_28 false
def c5_100 : Code := Code.seq c5_101 Code.ret
def c5_99 : Code := Code.cond (Operand.tmp 116) c5_100 Code.skip
def c5_97 : Code := Code.seq c5_98 c5_99
def c5_95 : Code := Code.seq c5_96 c5_97
def c5_87 : Code := Code.seq c5_88 c5_95
def c5_85 : Code := Code.seq c5_86 c5_87
def c5_79 : Code := Code.seq c5_80 c5_85
def c5_77 : Code := Code.seq c5_78 c5_79
def c5_76 : Code := Code.block 5 c5_77
def o5_29_0 : Oper := ⟨some 117, Op.binOp Go.BinOp.add 3 (Operand.tmp 64) (Operand.const (Value.int IntKind.i64 1)) 3, 3, "law.go:177", #[], none⟩
def o5_29_1 : Oper := ⟨some 64, Op.move (Operand.tmp 117), 3, "law.go:177", #[ed_ 0], none⟩
def O5_29 : Array Oper := List.toArray (o5_29_0 :: o5_29_1 :: [])
theorem g5_29_0 : O5_29[0]? = some o5_29_0 := rfl
theorem g5_29_1 : O5_29[1]? = some o5_29_1 := rfl
def c5_104 : Code := Code.region 29 O5_29 false
def c5_75 : Code := Code.seq c5_76 c5_104
def c5_71 : Code := Code.seq c5_72 c5_75
def c5_69 : Code := Code.seq c5_70 c5_71
def c5_68 : Code := Code.loop c5_69
def c5_67 : Code := Code.block 4 c5_68
def c5_65 : Code := Code.seq c5_66 c5_67
def o5_30_0 : Oper := ⟨some 118, Op.move (Operand.tmp 10), 3, "law.go:191", #[], none⟩
def o5_30_1 : Oper := ⟨some 119, Op.binOp Go.BinOp.eql 3 (Operand.tmp 118) (Operand.const (Value.int IntKind.i64 0)) 3, 4, "law.go:191", #[ed_ 0], none⟩
def O5_30 : Array Oper := List.toArray (o5_30_0 :: o5_30_1 :: [])
theorem g5_30_0 : O5_30[0]? = some o5_30_0 := rfl
theorem g5_30_1 : O5_30[1]? = some o5_30_1 := rfl
def c5_106 : Code := Code.region 30 O5_30 false
def o5_31_0 : Oper := ⟨some 121, Op.move (Operand.tmp 5), 48, "law.go:192", #[], none⟩
def o5_31_1 : Oper := ⟨some 122, Op.move (Operand.tmp 6), 3, "law.go:192", #[], none⟩
def o5_31_2 : Oper := ⟨some 123, Op.move (Operand.tmp 1), 2, "law.go:192", #[], none⟩
def o5_31_3 : Oper := ⟨some 124, Op.call { callee := Callee.value (Operand.func 31), args := #[Operand.tmp 123], argTypes := #[2] }, 24, "law.go:192", #[ed_ 2], none⟩
def o5_31_4 : Oper := ⟨some 125, Op.call { callee := Callee.value (Operand.func 26), args := #[Operand.const (Value.int IntKind.i64 9)], argTypes := #[2] }, 24, "law.go:192", #[ec_ 3], none⟩
def o5_31_5 : Oper := ⟨some 126, Op.buildSlice 22 2 #[(0, Operand.tmp 124), (1, Operand.tmp 125)], 22, "law.go:192", #[ed_ 3, ed_ 4], none⟩
def o5_31_6 : Oper := ⟨some 127, Op.call { callee := Callee.value (Operand.func 30), args := #[Operand.const (Value.string { data := #[107] }), Operand.tmp 126], argTypes := #[9, 22] }, 24, "law.go:192", #[ed_ 5, ec_ 4], none⟩
def o5_31_7 : Oper := ⟨some 128, Op.call { callee := Callee.value (Operand.func 27), args := #[Operand.tmp 121, Operand.tmp 122, Operand.tmp 127], argTypes := #[48, 3, 24] }, 32, "law.go:192", #[ed_ 0, ed_ 1, ed_ 6, ec_ 6], none⟩
def o5_31_8 : Oper := ⟨some 120, Op.move (Operand.tmp 128), 32, "law.go:192", #[ed_ 7], none⟩
def o5_31_9 : Oper := ⟨some 129, Op.extract (Operand.tmp 120) 0, 24, "law.go:192", #[ed_ 8], none⟩
def o5_31_10 : Oper := ⟨some 130, Op.extract (Operand.tmp 120) 1, 31, "law.go:192", #[ed_ 8, { on := 12, ground := Go.Ground.gcOnly Go.Departure.lateStores }], none⟩
def o5_31_11 : Oper := ⟨some 17, Op.alloc 24, 0, "law.go:192", #[], none⟩
def o5_31_12 : Oper := ⟨none, Op.store 24 (Operand.tmp 17) (Operand.tmp 129), 0, "law.go:192", #[ed_ 11, ed_ 9, ec_ 7, ep_ 0, ep_ 1, ep_ 2, ep_ 3, ep_ 4, ep_ 5, ep_ 6, ep_ 7, ep_ 8, ep_ 9, { on := 10, ground := Go.Ground.textOnly Go.Departure.lateStores }, ep_ 11], none⟩
def o5_31_13 : Oper := ⟨some 18, Op.assign (Operand.tmp 130), 31, "law.go:192", #[ed_ 10, ec_ 12, ep_ 0, ep_ 1, ep_ 2, ep_ 3, ep_ 4, ep_ 5, ep_ 6, ep_ 7, ep_ 8, ep_ 9, ep_ 10, ep_ 11, ep_ 12], none⟩
def O5_31 : Array Oper := List.toArray (o5_31_0 :: o5_31_1 :: o5_31_2 :: o5_31_3 :: o5_31_4 :: o5_31_5 :: o5_31_6 :: o5_31_7 :: o5_31_8 :: o5_31_9 :: o5_31_10 :: o5_31_11 :: o5_31_12 :: o5_31_13 :: [])
theorem g5_31_0 : O5_31[0]? = some o5_31_0 := rfl
theorem g5_31_1 : O5_31[1]? = some o5_31_1 := rfl
theorem g5_31_2 : O5_31[2]? = some o5_31_2 := rfl
theorem g5_31_3 : O5_31[3]? = some o5_31_3 := rfl
theorem g5_31_4 : O5_31[4]? = some o5_31_4 := rfl
theorem g5_31_5 : O5_31[5]? = some o5_31_5 := rfl
theorem g5_31_6 : O5_31[6]? = some o5_31_6 := rfl
theorem g5_31_7 : O5_31[7]? = some o5_31_7 := rfl
theorem g5_31_8 : O5_31[8]? = some o5_31_8 := rfl
theorem g5_31_9 : O5_31[9]? = some o5_31_9 := rfl
theorem g5_31_10 : O5_31[10]? = some o5_31_10 := rfl
theorem g5_31_11 : O5_31[11]? = some o5_31_11 := rfl
theorem g5_31_12 : O5_31[12]? = some o5_31_12 := rfl
theorem g5_31_13 : O5_31[13]? = some o5_31_13 := rfl
def c5_109 : Code := Code.region 31 O5_31 false
def o5_32_0 : Oper := ⟨some 131, Op.move (Operand.tmp 18), 31, "law.go:193", #[], none⟩
def o5_32_1 : Oper := ⟨some 132, Op.binOp Go.BinOp.neq 31 (Operand.tmp 131) (Operand.const (Value.int IntKind.i64 141)) 31, 4, "law.go:193", #[ed_ 0], none⟩
def O5_32 : Array Oper := List.toArray (o5_32_0 :: o5_32_1 :: [])
theorem g5_32_0 : O5_32[0]? = some o5_32_0 := rfl
theorem g5_32_1 : O5_32[1]? = some o5_32_1 := rfl
def c5_111 : Code := Code.region 32 O5_32 false
def o5_33_0 : Oper := ⟨some 4, Op.assign (Operand.const (Value.bool false)), 4, "law.go:194", #[], none⟩
def O5_33 : Array Oper := List.toArray (o5_33_0 :: [])
def c5_114 : Code := Code.region 33 O5_33 false
def c5_113 : Code := Code.seq c5_114 Code.ret
def c5_112 : Code := Code.cond (Operand.tmp 132) c5_113 Code.skip
def c5_110 : Code := Code.seq c5_111 c5_112
def c5_108 : Code := Code.seq c5_109 c5_110
def c5_107 : Code := Code.cond (Operand.tmp 119) c5_108 Code.skip
def c5_105 : Code := Code.seq c5_106 c5_107
def c5_64 : Code := Code.seq c5_65 c5_105
def c5_63 : Code := Code.block 3 c5_64
def o5_17_0 : Oper := ⟨some 60, Op.move (Operand.tmp 10), 3, "law.go:176", #[], none⟩
def o5_17_1 : Oper := ⟨some 61, Op.binOp Go.BinOp.add 3 (Operand.tmp 60) (Operand.const (Value.int IntKind.i64 1)) 3, 3, "law.go:176", #[ed_ 0], none⟩
def o5_17_2 : Oper := ⟨some 10, Op.assign (Operand.tmp 61), 3, "law.go:176", #[ed_ 1, ep_ 0, ep_ 1], none⟩
def O5_17 : Array Oper := List.toArray (o5_17_0 :: o5_17_1 :: o5_17_2 :: [])
theorem g5_17_0 : O5_17[0]? = some o5_17_0 := rfl
theorem g5_17_1 : O5_17[1]? = some o5_17_1 := rfl
theorem g5_17_2 : O5_17[2]? = some o5_17_2 := rfl
def c5_118 : Code := Code.region 17 O5_17 false
def c5_62 : Code := Code.seq c5_63 c5_118
def c5_56 : Code := Code.seq c5_57 c5_62
def c5_55 : Code := Code.loop c5_56
def c5_54 : Code := Code.block 2 c5_55
def c5_52 : Code := Code.seq c5_53 c5_54
def o5_34_0 : Oper := ⟨some 134, Op.move (Operand.tmp 5), 48, "law.go:198", #[], none⟩
def o5_34_1 : Oper := ⟨some 135, Op.move (Operand.tmp 6), 3, "law.go:198", #[], none⟩
def o5_34_2 : Oper := ⟨some 136, Op.call { callee := Callee.value (Operand.func 29), args := #[Operand.tmp 134, Operand.tmp 135], argTypes := #[48, 3] }, 50, "law.go:198", #[ed_ 0, ed_ 1], none⟩
def o5_34_3 : Oper := ⟨some 133, Op.move (Operand.tmp 136), 50, "law.go:198", #[ed_ 2], none⟩
def o5_34_4 : Oper := ⟨some 137, Op.extract (Operand.tmp 133) 0, 3, "law.go:198", #[ed_ 3], none⟩
def o5_34_5 : Oper := ⟨some 138, Op.extract (Operand.tmp 133) 1, 31, "law.go:198", #[ed_ 3, { on := 6, ground := Go.Ground.gcOnly Go.Departure.lateStores }], none⟩
def o5_34_6 : Oper := ⟨some 19, Op.assign (Operand.tmp 137), 3, "law.go:198", #[ed_ 4, ec_ 2, ep_ 0, ep_ 1, ep_ 2, ep_ 3, ep_ 4, { on := 5, ground := Go.Ground.textOnly Go.Departure.lateStores }], none⟩
def o5_34_7 : Oper := ⟨some 20, Op.assign (Operand.tmp 138), 31, "law.go:198", #[ed_ 5, ec_ 6, ep_ 0, ep_ 1, ep_ 2, ep_ 3, ep_ 4, ep_ 5, ep_ 6], none⟩
def O5_34 : Array Oper := List.toArray (o5_34_0 :: o5_34_1 :: o5_34_2 :: o5_34_3 :: o5_34_4 :: o5_34_5 :: o5_34_6 :: o5_34_7 :: [])
theorem g5_34_0 : O5_34[0]? = some o5_34_0 := rfl
theorem g5_34_1 : O5_34[1]? = some o5_34_1 := rfl
theorem g5_34_2 : O5_34[2]? = some o5_34_2 := rfl
theorem g5_34_3 : O5_34[3]? = some o5_34_3 := rfl
theorem g5_34_4 : O5_34[4]? = some o5_34_4 := rfl
theorem g5_34_5 : O5_34[5]? = some o5_34_5 := rfl
theorem g5_34_6 : O5_34[6]? = some o5_34_6 := rfl
theorem g5_34_7 : O5_34[7]? = some o5_34_7 := rfl
def c5_120 : Code := Code.region 34 O5_34 false
def o5_35_0 : Oper := ⟨some 139, Op.move (Operand.tmp 19), 3, "law.go:199", #[], none⟩
def o5_35_1 : Oper := ⟨some 140, Op.binOp Go.BinOp.eql 3 (Operand.tmp 139) (Operand.const (Value.int IntKind.i64 0)) 3, 4, "law.go:199", #[ed_ 0], none⟩
def o5_35_2 : Oper := ⟨some 141, Op.move (Operand.tmp 140), 4, "law.go:199", #[ed_ 1], none⟩
def o5_35_3 : Oper := ⟨some 142, Op.move (Operand.tmp 20), 31, "law.go:199", #[eg_ 2], some (2, true)⟩
def o5_35_4 : Oper := ⟨some 143, Op.binOp Go.BinOp.eql 31 (Operand.tmp 142) (Operand.const (Value.int IntKind.i64 0)) 31, 4, "law.go:199", #[ed_ 3, eg_ 2], some (2, true)⟩
def o5_35_5 : Oper := ⟨some 144, Op.pick (Operand.tmp 141) (Operand.tmp 143) (Operand.const (Value.bool false)), 4, "law.go:199", #[ed_ 2, ed_ 4], none⟩
def o5_35_6 : Oper := ⟨some 4, Op.assign (Operand.tmp 144), 4, "law.go:199", #[ed_ 5, ec_ 2, ep_ 0, ep_ 1, ep_ 2, ep_ 3, ep_ 4, ep_ 5], none⟩
def O5_35 : Array Oper := List.toArray (o5_35_0 :: o5_35_1 :: o5_35_2 :: o5_35_3 :: o5_35_4 :: o5_35_5 :: o5_35_6 :: [])
theorem g5_35_0 : O5_35[0]? = some o5_35_0 := rfl
theorem g5_35_1 : O5_35[1]? = some o5_35_1 := rfl
theorem g5_35_2 : O5_35[2]? = some o5_35_2 := rfl
theorem g5_35_3 : O5_35[3]? = some o5_35_3 := rfl
theorem g5_35_4 : O5_35[4]? = some o5_35_4 := rfl
theorem g5_35_5 : O5_35[5]? = some o5_35_5 := rfl
theorem g5_35_6 : O5_35[6]? = some o5_35_6 := rfl
def c5_122 : Code := Code.region 35 O5_35 false
def c5_121 : Code := Code.seq c5_122 Code.ret
def c5_119 : Code := Code.seq c5_120 c5_121
def c5_51 : Code := Code.seq c5_52 c5_119
def c5_28 : Code := Code.seq c5_29 c5_51
def c5_22 : Code := Code.seq c5_23 c5_28
def c5_14 : Code := Code.seq c5_15 c5_22
def c5_12 : Code := Code.seq c5_13 c5_14
def c5_4 : Code := Code.seq c5_5 c5_12
def c5_2 : Code := Code.seq c5_3 c5_4
def c5_0 : Code := Code.seq c5_1 c5_2
theorem en5_29 : Enters Try.prog 29 := enters_of Try.func29 (by kernel_rfl) rfl
theorem en5_31 : Enters Try.prog 31 := enters_of Try.func31 (by kernel_rfl) rfl
theorem body5 : Try.f5.body = some c5_0 := by kernel_rfl
theorem nil_of {ns : List Int} {want r : Int} {ps : List TP} (h : ps.map (·.1) = (remO ns want r).map (km ns)) (hr : 2 ≤ r) : ps = [] := by
  have h2 : remO ns want r = [] := by unfold remO; rw [if_neg (by omega), if_neg (by omega)]
  rw [h2] at h
  exact List.map_eq_nil_iff.1 h
set_option maxRecDepth 100000 in
set_option maxHeartbeats 4000000 in
theorem order_tail {W : World} {BB pa mb gq nc : Nat} {Rq : Nat → Prop} {vq : Value} {na : Option Addr} {ns : List Int} {want : Int} {f0 : Act} {w0 : World} (R : FrS 145 f0) (h0 : f0.tmps[0]? = some (.slice na ns.length nc)) (h1 : f0.tmps[1]? = some (.int .i64 want)) (h5 : f0.tmps[5]? = some (.pointer (some ⟨pa, 0, none⟩))) (h6 : f0.tmps[6]? = some (.int .i64 1)) (K1 : Keep (fun g => g < W.heap.size) W w0)  (HNS : Hid (LongsAt W na ns)) (HLEN : Hid (ns.length ≤ 64)) (HWF : Hid (∀ x ∈ ns, (ik x).wf = true)) (HWW : Hid ((ik want).wf = true)) (HWB : W.heap.size ≤ BB) (HPO : Hid (OneQ BB Rq w0 pa mb 64 [] gq vq)) : c5_28.wp Try.prog (bodyPost Try.prog Try.f5 (fun e w' => e = .returned (.bool true) ∧ Keep (fun g => g < W.heap.size) W w')) f0 w0 := by
  have KP := Keep.refl (fun g => g < w0.heap.size) w0
  refine wp_seq (x := c5_29) (y := c5_51) ?_
  refine wp_seq (x := c5_30) (y := c5_31) ?_
  change (Code.region 9 O5_9 false).wp _ _ _ _
  refine reg_in (l := [0, 1, 2]) rfl ?_
  have F : FE_ _ [] f0 f0 := ⟨R, Ag_.refl _⟩; clear R
  refine sv_ g5_9_0 (ym_ rfl (F.of h0)) fun a101 e => ?_
  have h40 := pt_ F e; replace F := pu_ F e; clear e
  have Y : (execOp a101.eval o5_9_1).run Try.prog w0 = .ok (.value (.int .i64 ns.length)) w0 := by unfold o5_9_1; go_simp
  refine sv_ g5_9_1 Y fun a102 e => ?_; clear Y
  have h41 := pt_ F e; replace F := pu_ F e; replace h40 := so_ e h40; clear e
  have Y : (execOp a102.eval o5_9_2).run Try.prog w0 = .ok (.value (.int .i64 0)) w0 := by unfold o5_9_2; go_simp
  refine sv_ g5_9_2 Y fun a103 e => ?_; clear Y
  have h42 := pt_ F e; replace F := pu_ F e; replace h40 := so_ e h40; replace h41 := so_ e h41; clear e
  refine st_end ?_
  replace h0 := F.of h0; replace h1 := F.of h1; replace h5 := F.of h5; replace h6 := F.of h6; have R := F.r; clear F
  change (c5_31).wp _ _ _ _
  refine wp_block (id := 0) (c := c5_32) ?_
  have HPR := Lib.hid (HPO.out.on KP); clear HPO KP; have HPO := HPR; clear HPR
  refine wp_loop_ghost (c := c5_33) (fun n fX wX => ∃ j : Nat, ∃ Rq : Nat → Prop, ∃ vq : Value, ∃ ps : List TP, n = ns.length - j ∧ FrS 145 fX ∧ fX.tmps[0]? = some (.slice na ns.length nc) ∧ fX.tmps[1]? = some (.int .i64 want) ∧ fX.tmps[5]? = some (.pointer (some ⟨pa, 0, none⟩)) ∧ fX.tmps[6]? = some (.int .i64 1) ∧ fX.tmps[40]? = some (.slice na ns.length nc) ∧ fX.tmps[41]? = some (.int .i64 ns.length) ∧ fX.tmps[42]? = some (.int .i64 (j : Int)) ∧ Keep (fun g => g < W.heap.size) W wX ∧ j ≤ ns.length ∧ Hid (OneQ BB Rq wX pa mb 64 ps gq vq) ∧ Hid (ps.map (·.1) = (List.range j).map (km ns))) (ns.length - 0) ⟨0, _, _, [], rfl, R, h0, h1, h5, h6, h40, h41, h42, K1, Nat.zero_le _, HPO, (Lib.hid rfl)⟩ ?_
  clear R h0 h1 h5 h6 h40 h41 h42 K1
  rintro n106 a104 w105 ⟨j, Rq, vq, ps, rfl, R, h0, h1, h5, h6, h40, h41, h42, K1, hj, HPO, HPS⟩
  have KP := Keep.refl (fun g => g < w105.heap.size) w105
  refine wp_seq (x := c5_34) (y := c5_35) ?_
  change (Code.region 10 O5_10 false).wp _ _ _ _
  refine reg_in (l := [0]) rfl ?_
  have F : FE_ _ [] a104 a104 := ⟨R, Ag_.refl _⟩; clear R
  obtain ⟨b107, hb107⟩ : ∃ x, (decide ((j : Int) < (ns.length : Int))) = x := ⟨_, rfl⟩
  have Y : (execOp a104.eval o5_10_0).run Try.prog w105 = .ok (.value (.bool b107)) w105 := by have r41 := F.of h41; have r42 := F.of h42; rw [← hb107]; unfold o5_10_0; go_simp
  refine sv_ g5_10_0 Y fun a108 e => ?_; clear Y
  have h43 := pt_ F e; replace F := pu_ F e; clear e
  refine st_end ?_
  replace h0 := F.of h0; replace h1 := F.of h1; replace h5 := F.of h5; replace h6 := F.of h6; replace h40 := F.of h40; replace h41 := F.of h41; replace h42 := F.of h42; have R := F.r; clear F
  change (c5_35).wp _ _ _ _
  refine wp_seq (x := c5_36) (y := c5_39) ?_
  cases b107 with
  | false =>
    have fb107 := hb107; clear hb107
    simp only [decide_eq_true_eq, decide_eq_false_iff_not, bne_iff_ne, bne_eq_false_iff_eq, beq_iff_eq, beq_eq_false_iff_ne, ne_eq, Bool.not_eq_true', Bool.not_eq_false', Bool.not_eq_eq_eq_not, Bool.not_true, Bool.not_false] at fb107
    refine wp_cond_false (x := Code.skip) (y := c5_38) (eval_slot h43) ?_
    refine wp_exit ?_
    change (c5_51).wp _ _ _ _
    refine wp_seq (x := c5_52) (y := c5_119) ?_
    refine wp_seq (x := c5_53) (y := c5_54) ?_
    change (Code.region 15 O5_15 false).wp _ _ _ _
    refine reg_in (l := [0]) rfl ?_
    have F : FE_ _ [] a108 a108 := ⟨R, Ag_.refl _⟩; clear R
    have Y : (execOp a108.eval o5_15_0).run Try.prog w105 = .ok (.value (.int .i64 0)) w105 := by unfold o5_15_0; go_simp
    refine sv_ g5_15_0 Y fun a109 e => ?_; clear Y
    have h10 := pt_ F e; replace F := pu_ F e; clear e
    refine st_end ?_
    replace h0 := F.of h0; replace h1 := F.of h1; replace h5 := F.of h5; replace h6 := F.of h6; replace h40 := F.of h40; replace h41 := F.of h41; replace h42 := F.of h42; replace h43 := F.of h43; have R := F.r; clear F
    change (c5_54).wp _ _ _ _
    refine wp_block (id := 2) (c := c5_55) ?_
    have HPR := Lib.hid (HPO.out.on KP); clear HPO KP; have HPO := HPR; clear HPR
    refine wp_loop_ghost (c := c5_56) (fun n fX wX => ∃ r : Int, ∃ Rq : Nat → Prop, ∃ vq : Value, ∃ ps : List TP, n = (2 - r).toNat ∧ FrS 145 fX ∧ fX.tmps[0]? = some (.slice na ns.length nc) ∧ fX.tmps[1]? = some (.int .i64 want) ∧ fX.tmps[5]? = some (.pointer (some ⟨pa, 0, none⟩)) ∧ fX.tmps[6]? = some (.int .i64 1) ∧ fX.tmps[10]? = some (.int .i64 r) ∧ fX.tmps[40]? = some (.slice na ns.length nc) ∧ fX.tmps[41]? = some (.int .i64 ns.length) ∧ fX.tmps[42]? = some (.int .i64 (j : Int)) ∧ fX.tmps[43]? = some (.bool false) ∧ Keep (fun g => g < W.heap.size) W wX ∧ 0 ≤ r ∧ r ≤ 2 ∧ Hid (OneQ BB Rq wX pa mb 64 ps gq vq) ∧ Hid (ps.map (·.1) = (remO ns want r).map (km ns))) (((2 : Int) - 0).toNat) ⟨0, _, _, _, rfl, R, h0, h1, h5, h6, h10, h40, h41, h42, h43, K1, (by decide), (by decide), HPO, (Lib.hid (by rw [HPS.out]; unfold remO; rw [if_pos rfl]; congr 2; omega))⟩ ?_
    clear R h0 h1 h5 h6 h10 h40 h41 h42 h43 K1
    rintro n112 a110 w111 ⟨r, Rq, vq, ps, rfl, R, h0, h1, h5, h6, h10, h40, h41, h42, h43, K1, hr0, hr2, HPO, HPS⟩
    have KP := Keep.refl (fun g => g < w111.heap.size) w111
    refine wp_seq (x := c5_57) (y := c5_62) ?_
    refine wp_seq (x := c5_58) (y := c5_59) ?_
    change (Code.region 16 O5_16 false).wp _ _ _ _
    refine reg_in (l := [0, 1]) rfl ?_
    have F : FE_ _ [] a110 a110 := ⟨R, Ag_.refl _⟩; clear R
    refine sv_ g5_16_0 (ym_ rfl (F.of h10)) fun a113 e => ?_
    have h58 := pt_ F e; replace F := pu_ F e; clear e
    obtain ⟨b114, hb114⟩ : ∃ x, (decide ((r : Int) < 2)) = x := ⟨_, rfl⟩
    have Y : (execOp a113.eval o5_16_1).run Try.prog w111 = .ok (.value (.bool b114)) w111 := by rw [← hb114]; unfold o5_16_1; go_simp
    refine sv_ g5_16_1 Y fun a115 e => ?_; clear Y
    have h59 := pt_ F e; replace F := pu_ F e; replace h58 := so_ e h58; clear e
    refine st_end ?_
    replace h0 := F.of h0; replace h1 := F.of h1; replace h5 := F.of h5; replace h6 := F.of h6; replace h10 := F.of h10; replace h40 := F.of h40; replace h41 := F.of h41; replace h42 := F.of h42; replace h43 := F.of h43; have R := F.r; clear F
    change (c5_59).wp _ _ _ _
    cases b114 with
    | false =>
      have fb114 := hb114; clear hb114
      simp only [decide_eq_true_eq, decide_eq_false_iff_not, bne_iff_ne, bne_eq_false_iff_eq, beq_iff_eq, beq_eq_false_iff_ne, ne_eq, Bool.not_eq_true', Bool.not_eq_false', Bool.not_eq_eq_eq_not, Bool.not_true, Bool.not_false] at fb114
      refine wp_cond_false (x := Code.skip) (y := c5_61) (eval_slot h59) ?_
      refine wp_exit ?_
      change (c5_119).wp _ _ _ _
      refine wp_seq (x := c5_120) (y := c5_121) ?_
      change (Code.region 34 O5_34 false).wp _ _ _ _
      refine reg_in (l := [0, 1, 2, 3, 4, 5, 6, 7]) rfl ?_
      have F : FE_ _ [] a115 a115 := ⟨R, Ag_.refl _⟩; clear R
      refine sv_ g5_34_0 (ym_ rfl (F.of h5)) fun a116 e => ?_
      have h134 := pt_ F e; replace F := pu_ F e; clear e
      refine sv_ g5_34_1 (ym_ rfl (F.of h6)) fun a117 e => ?_
      have h135 := pt_ F e; replace F := pu_ F e; replace h134 := so_ e h134; clear e
      have hnil : ps = [] := nil_of HPS.out (by omega)
      have hcall : Calls Try.prog 29 #[.pointer (some ⟨pa, 0, none⟩), .int .i64 1] w111 (fun e w' => e = .returned (.tuple #[.int .i64 0, .int .i64 0]) ∧ Keep (fun g => g < w111.heap.size) w111 w') := by have h := len1 (HPO.out.on KP); rw [hnil] at h; exact h
      refine st_call g5_34_2 rfl (wanted_free rfl) (yc2_ en5_29 rfl h134 h135) ((hcall).mono ?_)
      rintro e9 w118 ⟨rfl, kk⟩
      replace K1 := keep_onto K1 kk
      replace KP := keep_onto KP kk
      clear hcall hnil
      clear kk
      refine ⟨_, rfl, fun a119 e => ?_⟩
      clear h134 h135; have h136 := pt_ F e; replace F := pu_ F e; clear e
      refine sv_ g5_34_3 (ym_ rfl h136) fun a120 e => ?_
      clear h136; have h133 := pt_ F e; replace F := pu_ F e; clear e
      refine sv_ g5_34_4 (ye20_ rfl h133) fun a121 e => ?_
      have h137 := pt_ F e; replace F := pu_ F e; replace h133 := so_ e h133; clear e
      refine sv_ g5_34_5 (ye21_ rfl h133) fun a122 e => ?_
      clear h133; have h138 := pt_ F e; replace F := pu_ F e; replace h137 := so_ e h137; clear e
      refine sv_ g5_34_6 (ya_ rfl h137) fun a123 e => ?_
      clear h137; have h19 := pt_ F e; replace F := pu_ F e; replace h138 := so_ e h138; clear e
      refine sv_ g5_34_7 (ya_ rfl h138) fun a124 e => ?_
      clear h138; have h20 := pt_ F e; replace F := pu_ F e; replace h19 := so_ e h19; clear e
      refine st_end ?_
      replace h0 := F.of h0; replace h1 := F.of h1; replace h5 := F.of h5; replace h6 := F.of h6; replace h10 := F.of h10; replace h40 := F.of h40; replace h41 := F.of h41; replace h42 := F.of h42; replace h43 := F.of h43; replace h58 := F.of h58; replace h59 := F.of h59; have R := F.r; clear F
      change (c5_121).wp _ _ _ _
      refine wp_seq (x := c5_122) (y := Code.ret) ?_
      change (Code.region 35 O5_35 false).wp _ _ _ _
      refine reg_in (l := [0, 1, 2, 3, 4, 5, 6]) rfl ?_
      have F : FE_ _ [] a124 a124 := ⟨R, Ag_.refl _⟩; clear R
      refine sv_ g5_35_0 (ym_ rfl (F.of h19)) fun a125 e => ?_
      have h139 := pt_ F e; replace F := pu_ F e; clear e
      have Y : (execOp a125.eval o5_35_1).run Try.prog w118 = .ok (.value (.bool true)) w118 := by unfold o5_35_1; go_simp
      refine sv_ g5_35_1 Y fun a126 e => ?_; clear Y
      clear h139; have h140 := pt_ F e; replace F := pu_ F e; clear e
      refine sv_ g5_35_2 (ym_ rfl h140) fun a127 e => ?_
      clear h140; have h141 := pt_ F e; replace F := pu_ F e; clear e
      refine st_val g5_35_3 rfl (wanted_is (j := 2) (d := 141) rfl rfl h141 rfl) (ym_ rfl (F.of h20)) fun a128 e => ?_
      have h142 := pt_ F e; replace F := pu_ F e; replace h141 := so_ e h141; clear e
      have Y : (execOp a128.eval o5_35_4).run Try.prog w118 = .ok (.value (.bool true)) w118 := by unfold o5_35_4; go_simp
      refine st_val g5_35_4 rfl (wanted_is (j := 2) (d := 141) rfl rfl h141 rfl) Y fun a129 e => ?_; clear Y
      clear h142; have h143 := pt_ F e; replace F := pu_ F e; replace h141 := so_ e h141; clear e
      have Y : (execOp a129.eval o5_35_5).run Try.prog w118 = .ok (.value (.bool true)) w118 := by unfold o5_35_5; go_simp
      refine sv_ g5_35_5 Y fun a130 e => ?_; clear Y
      clear h141 h143; have h144 := pt_ F e; replace F := pu_ F e; clear e
      refine sv_ g5_35_6 (ya_ rfl h144) fun a131 e => ?_
      clear h144; have h4 := pt_ F e; replace F := pu_ F e; clear e
      refine st_end ?_
      replace h0 := F.of h0; replace h1 := F.of h1; replace h5 := F.of h5; replace h6 := F.of h6; replace h10 := F.of h10; clear h19; clear h20; replace h40 := F.of h40; replace h41 := F.of h41; replace h42 := F.of h42; replace h43 := F.of h43; replace h58 := F.of h58; replace h59 := F.of h59; have R := F.r; clear F
      change (Code.ret).wp _ _ _ _
      refine wp_ret ?_
      change bodyPost Try.prog Try.f5 (fun e w' => e = .returned (.bool true) ∧ Keep (fun g => g < W.heap.size) W w') .ret a131 w118
      refine ret_one rfl R h4 ?_
      exact ⟨rfl, K1⟩
    | true =>
      have fb114 := hb114; clear hb114
      simp only [decide_eq_true_eq, decide_eq_false_iff_not, bne_iff_ne, bne_eq_false_iff_eq, beq_iff_eq, beq_eq_false_iff_ne, ne_eq, Bool.not_eq_true', Bool.not_eq_false', Bool.not_eq_eq_eq_not, Bool.not_true, Bool.not_false] at fb114
      refine wp_cond_true (x := Code.skip) (y := c5_61) (eval_slot h59) ?_
      refine wp_skip ?_
      change (c5_62).wp _ _ _ _
      refine wp_seq (x := c5_63) (y := c5_118) ?_
      refine wp_block (id := 3) (c := c5_64) ?_
      refine wp_seq (x := c5_65) (y := c5_105) ?_
      refine wp_seq (x := c5_66) (y := c5_67) ?_
      change (Code.region 18 O5_18 false).wp _ _ _ _
      rcases (show r = 0 ∨ r = 1 by omega) with rfl | rfl
      ·
        refine reg_in (l := [0, 1, 2]) rfl ?_
        have F : FE_ _ [] a115 a115 := ⟨R, Ag_.refl _⟩; clear R
        refine sv_ g5_18_0 (ym_ rfl (F.of h0)) fun a132 e => ?_
        have h62 := pt_ F e; replace F := pu_ F e; clear e
        have Y : (execOp a132.eval o5_18_1).run Try.prog w111 = .ok (.value (.int .i64 ns.length)) w111 := by unfold o5_18_1; go_simp
        refine sv_ g5_18_1 Y fun a133 e => ?_; clear Y
        have h63 := pt_ F e; replace F := pu_ F e; replace h62 := so_ e h62; clear e
        have Y : (execOp a133.eval o5_18_2).run Try.prog w111 = .ok (.value (.int .i64 0)) w111 := by unfold o5_18_2; go_simp
        refine sv_ g5_18_2 Y fun a134 e => ?_; clear Y
        have h64 := pt_ F e; replace F := pu_ F e; replace h62 := so_ e h62; replace h63 := so_ e h63; clear e
        refine st_end ?_
        replace h0 := F.of h0; replace h1 := F.of h1; replace h5 := F.of h5; replace h6 := F.of h6; replace h10 := F.of h10; replace h40 := F.of h40; replace h41 := F.of h41; replace h42 := F.of h42; replace h43 := F.of h43; replace h58 := F.of h58; replace h59 := F.of h59; have R := F.r; clear F
        change (c5_67).wp _ _ _ _
        refine wp_block (id := 4) (c := c5_68) ?_
        have HPR := Lib.hid (HPO.out.on KP); clear HPO KP; have HPO := HPR; clear HPR
        refine wp_loop_ghost (c := c5_69) (fun n fX wX => ∃ i : Nat, ∃ vq : Value, ∃ ps : List TP, n = ns.length - i ∧ FrS 145 fX ∧ fX.tmps[0]? = some (.slice na ns.length nc) ∧ fX.tmps[1]? = some (.int .i64 want) ∧ fX.tmps[5]? = some (.pointer (some ⟨pa, 0, none⟩)) ∧ fX.tmps[6]? = some (.int .i64 1) ∧ fX.tmps[10]? = some (.int .i64 0) ∧ fX.tmps[40]? = some (.slice na ns.length nc) ∧ fX.tmps[41]? = some (.int .i64 ns.length) ∧ fX.tmps[42]? = some (.int .i64 (j : Int)) ∧ fX.tmps[43]? = some (.bool false) ∧ fX.tmps[58]? = some (.int .i64 0) ∧ fX.tmps[59]? = some (.bool true) ∧ fX.tmps[62]? = some (.slice na ns.length nc) ∧ fX.tmps[63]? = some (.int .i64 ns.length) ∧ fX.tmps[64]? = some (.int .i64 (i : Int)) ∧ Keep (fun g => g < W.heap.size) W wX ∧ i ≤ ns.length ∧ Hid (OneQ BB Rq wX pa mb 64 ps gq vq) ∧ Hid (ps.map (·.1) = (rem0 ns want i).map (km ns))) (ns.length - 0) ⟨0, _, _, rfl, R, h0, h1, h5, h6, h10, h40, h41, h42, h43, h58, h59, h62, h63, h64, K1, Nat.zero_le _, HPO, (Lib.hid (by rw [HPS.out, rem0_0]; rfl))⟩ ?_
        clear R h0 h1 h5 h6 h10 h40 h41 h42 h43 h58 h59 h62 h63 h64 K1
        rintro n137 a135 w136 ⟨i, vq, ps, rfl, R, h0, h1, h5, h6, h10, h40, h41, h42, h43, h58, h59, h62, h63, h64, K1, hi, HPO, HPS⟩
        have KP := Keep.refl (fun g => g < w136.heap.size) w136
        refine wp_seq (x := c5_70) (y := c5_71) ?_
        change (Code.region 19 O5_19 false).wp _ _ _ _
        refine reg_in (l := [0]) rfl ?_
        have F : FE_ _ [] a135 a135 := ⟨R, Ag_.refl _⟩; clear R
        obtain ⟨b138, hb138⟩ : ∃ x, (decide ((i : Int) < (ns.length : Int))) = x := ⟨_, rfl⟩
        have Y : (execOp a135.eval o5_19_0).run Try.prog w136 = .ok (.value (.bool b138)) w136 := by have r63 := F.of h63; have r64 := F.of h64; rw [← hb138]; unfold o5_19_0; go_simp
        refine sv_ g5_19_0 Y fun a139 e => ?_; clear Y
        have h65 := pt_ F e; replace F := pu_ F e; clear e
        refine st_end ?_
        replace h0 := F.of h0; replace h1 := F.of h1; replace h5 := F.of h5; replace h6 := F.of h6; replace h10 := F.of h10; replace h40 := F.of h40; replace h41 := F.of h41; replace h42 := F.of h42; replace h43 := F.of h43; replace h58 := F.of h58; replace h59 := F.of h59; replace h62 := F.of h62; replace h63 := F.of h63; replace h64 := F.of h64; have R := F.r; clear F
        change (c5_71).wp _ _ _ _
        refine wp_seq (x := c5_72) (y := c5_75) ?_
        cases b138 with
        | false =>
          have fb138 := hb138; clear hb138
          simp only [decide_eq_true_eq, decide_eq_false_iff_not, bne_iff_ne, bne_eq_false_iff_eq, beq_iff_eq, beq_eq_false_iff_ne, ne_eq, Bool.not_eq_true', Bool.not_eq_false', Bool.not_eq_eq_eq_not, Bool.not_true, Bool.not_false] at fb138
          refine wp_cond_false (x := Code.skip) (y := c5_74) (eval_slot h65) ?_
          refine wp_exit ?_
          change (c5_105).wp _ _ _ _
          refine wp_seq (x := c5_106) (y := c5_107) ?_
          change (Code.region 30 O5_30 false).wp _ _ _ _
          refine reg_in (l := [0, 1]) rfl ?_
          have F : FE_ _ [] a139 a139 := ⟨R, Ag_.refl _⟩; clear R
          refine sv_ g5_30_0 (ym_ rfl (F.of h10)) fun a140 e => ?_
          have h118 := pt_ F e; replace F := pu_ F e; clear e
          have Y : (execOp a140.eval o5_30_1).run Try.prog w136 = .ok (.value (.bool true)) w136 := by unfold o5_30_1; go_simp
          refine sv_ g5_30_1 Y fun a141 e => ?_; clear Y
          have h119 := pt_ F e; replace F := pu_ F e; replace h118 := so_ e h118; clear e
          refine st_end ?_
          replace h0 := F.of h0; replace h1 := F.of h1; replace h5 := F.of h5; replace h6 := F.of h6; replace h10 := F.of h10; replace h40 := F.of h40; replace h41 := F.of h41; replace h42 := F.of h42; replace h43 := F.of h43; replace h58 := F.of h58; replace h59 := F.of h59; replace h62 := F.of h62; replace h63 := F.of h63; replace h64 := F.of h64; replace h65 := F.of h65; have R := F.r; clear F
          change (c5_107).wp _ _ _ _
          refine wp_cond_true (x := c5_108) (y := Code.skip) (eval_slot h119) ?_
          refine wp_seq (x := c5_109) (y := c5_110) ?_
          change (Code.region 31 O5_31 false).wp _ _ _ _
          refine reg_in (l := [0, 1, 2, 3, 4, 5, 6, 7, 8, 9, 10, 11, 12, 13]) rfl ?_
          have F : FE_ _ [] a141 a141 := ⟨R, Ag_.refl _⟩; clear R
          refine sv_ g5_31_0 (ym_ rfl (F.of h5)) fun a142 e => ?_
          have h121 := pt_ F e; replace F := pu_ F e; clear e
          refine sv_ g5_31_1 (ym_ rfl (F.of h6)) fun a143 e => ?_
          have h122 := pt_ F e; replace F := pu_ F e; replace h121 := so_ e h121; clear e
          refine sv_ g5_31_2 (ym_ rfl (F.of h1)) fun a144 e => ?_
          have h123 := pt_ F e; replace F := pu_ F e; replace h121 := so_ e h121; replace h122 := so_ e h122; clear e
          have hc : Calls Try.prog 31 #[.int .i64 want] w136 (fun e w' => e = .returned (.agg #[.int .i64 2, .string (⟨#[]⟩), .int .i64 want, .slice none 0 0]) ∧ Keep (fun g => g < w136.heap.size) w136 w') := refN_any w136 want
          refine st_call g5_31_3 rfl (wanted_free rfl) (yc1_ en5_31 rfl h123) ((hc).mono ?_)
          rintro e9 w145 ⟨rfl, kk⟩
          replace K1 := keep_onto K1 kk
          replace KP := keep_onto KP kk
          clear hc
          clear kk
          refine ⟨_, rfl, fun a146 e => ?_⟩
          have h124 := pt_ F e; replace F := pu_ F e; replace h121 := so_ e h121; replace h122 := so_ e h122; replace h123 := so_ e h123; clear e
          have Y : (execOp a146.eval o5_31_4).run Try.prog w145 = .ok (.enter 26 #[.int .i64 9]) w145 := by unfold o5_31_4; go_simp
          have hc : Calls Try.prog 26 #[.int .i64 9] w145 (fun e w' => e = .returned (.agg #[.int .i64 1, .string (⟨#[]⟩), .int .i64 9, .slice none 0 0]) ∧ Keep (fun g => g < w145.heap.size) w145 w') := refV_any w145 9
          refine st_call g5_31_4 rfl (wanted_free rfl) Y ((hc).mono ?_); clear Y
          rintro e9 w147 ⟨rfl, kk⟩
          replace K1 := keep_onto K1 kk
          replace KP := keep_onto KP kk
          clear hc
          clear kk
          refine ⟨_, rfl, fun a148 e => ?_⟩
          have h125 := pt_ F e; replace F := pu_ F e; replace h121 := so_ e h121; replace h122 := so_ e h122; replace h123 := so_ e h123; replace h124 := so_ e h124; clear e
          have Y : (execOp a148.eval o5_31_5).run Try.prog w147 = .ok (.value (.slice (some ⟨w147.heap.size, 0, none⟩) 2 2)) (w147.alloc (.cells #[.int .i64 2, .string (⟨#[]⟩), .int .i64 want, .slice none 0 0, .int .i64 1, .string (⟨#[]⟩), .int .i64 9, .slice none 0 0] 24)) := by unfold o5_31_5; go_simp
          have B149 := Blk.new w147 24 #[.int .i64 2, .string (⟨#[]⟩), .int .i64 want, .slice none 0 0, .int .i64 1, .string (⟨#[]⟩), .int .i64 9, .slice none 0 0]
          obtain ⟨w150, hw⟩ : ∃ x, x = w147.alloc (.cells #[.int .i64 2, .string (⟨#[]⟩), .int .i64 want, .slice none 0 0, .int .i64 1, .string (⟨#[]⟩), .int .i64 9, .slice none 0 0] 24) := ⟨_, rfl⟩; rw [← hw] at Y B149
          obtain ⟨b149, hb⟩ : ∃ x, x = w147.heap.size := ⟨_, rfl⟩; rw [← hb] at Y B149
          have LK1_b149 := lk_ hb K1; replace K1 := ka_ hw K1; have LKP_b149 := lk_ hb KP; replace KP := ka_ hw KP; clear hw hb
          refine sv_ g5_31_5 Y fun a151 e => ?_; clear Y
          have h126 := pt_ F e; replace F := pu_ F e; replace h121 := so_ e h121; replace h122 := so_ e h122; replace h123 := so_ e h123; replace h124 := so_ e h124; replace h125 := so_ e h125; clear e
          have Y : (execOp a151.eval o5_31_6).run Try.prog w150 = .ok (.enter 30 #[.string (⟨#[107]⟩), .slice (some ⟨b149, 0, none⟩) 2 2]) w150 := by unfold o5_31_6; go_simp
          have hc : Calls Try.prog 30 #[.string (⟨#[107]⟩), .slice (some ⟨b149, 0, none⟩) 2 2] w150 (fun e w' => e = .returned (.agg #[.int .i64 4, .string (⟨#[107]⟩), .int .i64 0, .slice (some ⟨b149, 0, none⟩) 2 2]) ∧ Keep (fun g => g < w150.heap.size) w150 w') := refC_any w150 [107] [.node 2 [] want [], .node 1 [] 9 []] (some ⟨b149, 0, none⟩) 2
          refine st_call g5_31_6 rfl (wanted_free rfl) Y ((hc).mono ?_); clear Y
          rintro e9 w152 ⟨rfl, kk⟩
          replace K1 := keep_onto K1 kk
          replace KP := keep_onto KP kk
          replace B149 := blk_on B149 kk
          clear hc
          clear kk
          refine ⟨_, rfl, fun a153 e => ?_⟩
          have h127 := pt_ F e; replace F := pu_ F e; replace h121 := so_ e h121; replace h122 := so_ e h122; replace h123 := so_ e h123; replace h124 := so_ e h124; replace h125 := so_ e h125; replace h126 := so_ e h126; clear e
          have Y : (execOp a153.eval o5_31_7).run Try.prog w152 = .ok (.enter 27 #[.pointer (some ⟨pa, 0, none⟩), .int .i64 1, .agg #[.int .i64 4, .string (⟨#[107]⟩), .int .i64 0, .slice (some ⟨b149, 0, none⟩) 2 2]]) w152 := by unfold o5_31_7; go_simp
          have hall := none_of (HPS.out.trans (by rw [rem0_all (by omega) (by omega)]))
          have hcall : Calls Try.prog 27 #[.pointer (some ⟨pa, 0, none⟩), .int .i64 1, .agg #[.int .i64 4, .string (⟨#[107]⟩), .int .i64 0, .slice (some ⟨b149, 0, none⟩) 2 2]] w152 (fun e w' => e = .returned (.tuple #[.agg #[.int .i64 0, .string ⟨#[]⟩, .int .i64 0, .slice none 0 0], .int .i64 141]) ∧ Keep (fun g => g < w152.heap.size) w152 w') := get1_no (t := kp want) (HPO.out.on KP) (tm_2 B149 rfl rfl (tm_N HWW.out) (tm_V (by decide)) (by decide)) (kp_right want) hall
          refine st_call g5_31_7 rfl (wanted_free rfl) Y ((hcall).mono ?_); clear Y
          rintro e9 w154 ⟨rfl, kk⟩
          replace K1 := keep_onto K1 kk
          replace KP := keep_onto KP kk
          replace B149 := blk_on B149 kk
          clear hcall hall
          clear kk
          refine ⟨_, rfl, fun a155 e => ?_⟩
          have h128 := pt_ F e; replace F := pu_ F e; replace h121 := so_ e h121; replace h122 := so_ e h122; replace h123 := so_ e h123; replace h124 := so_ e h124; replace h125 := so_ e h125; replace h126 := so_ e h126; replace h127 := so_ e h127; clear e
          refine sv_ g5_31_8 (ym_ rfl h128) fun a156 e => ?_
          have h120 := pt_ F e; replace F := pu_ F e; replace h121 := so_ e h121; replace h122 := so_ e h122; replace h123 := so_ e h123; replace h124 := so_ e h124; replace h125 := so_ e h125; replace h126 := so_ e h126; replace h127 := so_ e h127; replace h128 := so_ e h128; clear e
          refine sv_ g5_31_9 (ye20_ rfl h120) fun a157 e => ?_
          have h129 := pt_ F e; replace F := pu_ F e; replace h120 := so_ e h120; replace h121 := so_ e h121; replace h122 := so_ e h122; replace h123 := so_ e h123; replace h124 := so_ e h124; replace h125 := so_ e h125; replace h126 := so_ e h126; replace h127 := so_ e h127; replace h128 := so_ e h128; clear e
          refine sv_ g5_31_10 (ye21_ rfl h120) fun a158 e => ?_
          have h130 := pt_ F e; replace F := pu_ F e; replace h120 := so_ e h120; replace h121 := so_ e h121; replace h122 := so_ e h122; replace h123 := so_ e h123; replace h124 := so_ e h124; replace h125 := so_ e h125; replace h126 := so_ e h126; replace h127 := so_ e h127; replace h128 := so_ e h128; replace h129 := so_ e h129; clear e
          have Y : (execOp a158.eval o5_31_11).run Try.prog w154 = .ok (.value (.pointer (some ⟨w154.heap.size, 0, none⟩))) (w154.alloc (.cells #[.int .i64 0, .string (⟨#[]⟩), .int .i64 0, .slice none 0 0] 24)) := by unfold o5_31_11; go_simp
          have B159 := Blk.new w154 24 #[.int .i64 0, .string (⟨#[]⟩), .int .i64 0, .slice none 0 0]
          obtain ⟨w160, hw⟩ : ∃ x, x = w154.alloc (.cells #[.int .i64 0, .string (⟨#[]⟩), .int .i64 0, .slice none 0 0] 24) := ⟨_, rfl⟩; rw [← hw] at Y B159
          obtain ⟨b159, hb⟩ : ∃ x, x = w154.heap.size := ⟨_, rfl⟩; rw [← hb] at Y B159
          have Nb149_b159 := nb_ hb B149; replace B149 := ba_ hw B149; have LK1_b159 := lk_ hb K1; replace K1 := ka_ hw K1; have LKP_b159 := lk_ hb KP; replace KP := ka_ hw KP; clear hw hb
          refine sv_ g5_31_11 Y fun a161 e => ?_; clear Y
          have h17 := pt_ F e; replace F := pu_ F e; replace h120 := so_ e h120; replace h121 := so_ e h121; replace h122 := so_ e h122; replace h123 := so_ e h123; replace h124 := so_ e h124; replace h125 := so_ e h125; replace h126 := so_ e h126; replace h127 := so_ e h127; replace h128 := so_ e h128; replace h129 := so_ e h129; replace h130 := so_ e h130; clear e
          obtain ⟨w162, Y, hk, hB⟩ := ys4_ (o := o5_31_12) rfl h17 h129 B159
          replace K1 := kx_ hk K1 (Nat.not_lt.2 LK1_b159); replace KP := kx_ hk KP (Nat.not_lt.2 LKP_b159); replace B149 := bx_ hk B149 Nb149_b159; clear B159; have B159 := hB; clear hB hk
          refine st_skip g5_31_12 rfl (wanted_free rfl) Y ?_; clear Y
          refine sv_ g5_31_13 (ya_ rfl h130) fun a163 e => ?_
          have h18 := pt_ F e; replace F := pu_ F e; replace h17 := so_ e h17; replace h120 := so_ e h120; replace h121 := so_ e h121; replace h122 := so_ e h122; replace h123 := so_ e h123; replace h124 := so_ e h124; replace h125 := so_ e h125; replace h126 := so_ e h126; replace h127 := so_ e h127; replace h128 := so_ e h128; replace h129 := so_ e h129; replace h130 := so_ e h130; clear e
          refine st_end ?_
          replace h0 := F.of h0; replace h1 := F.of h1; replace h5 := F.of h5; replace h6 := F.of h6; replace h10 := F.of h10; replace h40 := F.of h40; replace h41 := F.of h41; replace h42 := F.of h42; replace h43 := F.of h43; replace h58 := F.of h58; replace h59 := F.of h59; replace h62 := F.of h62; replace h63 := F.of h63; replace h64 := F.of h64; replace h65 := F.of h65; replace h118 := F.of h118; replace h119 := F.of h119; have R := F.r; clear F
          change (c5_110).wp _ _ _ _
          refine wp_seq (x := c5_111) (y := c5_112) ?_
          change (Code.region 32 O5_32 false).wp _ _ _ _
          refine reg_in (l := [0, 1]) rfl ?_
          have F : FE_ _ [] a163 a163 := ⟨R, Ag_.refl _⟩; clear R
          refine sv_ g5_32_0 (ym_ rfl (F.of h18)) fun a164 e => ?_
          have h131 := pt_ F e; replace F := pu_ F e; clear e
          have Y : (execOp a164.eval o5_32_1).run Try.prog w162 = .ok (.value (.bool false)) w162 := by unfold o5_32_1; go_simp
          refine sv_ g5_32_1 Y fun a165 e => ?_; clear Y
          have h132 := pt_ F e; replace F := pu_ F e; replace h131 := so_ e h131; clear e
          refine st_end ?_
          replace h0 := F.of h0; replace h1 := F.of h1; replace h5 := F.of h5; replace h6 := F.of h6; replace h10 := F.of h10; replace h17 := F.of h17; replace h18 := F.of h18; replace h40 := F.of h40; replace h41 := F.of h41; replace h42 := F.of h42; replace h43 := F.of h43; replace h58 := F.of h58; replace h59 := F.of h59; replace h62 := F.of h62; replace h63 := F.of h63; replace h64 := F.of h64; replace h65 := F.of h65; replace h118 := F.of h118; replace h119 := F.of h119; replace h120 := F.of h120; replace h121 := F.of h121; replace h122 := F.of h122; replace h123 := F.of h123; replace h124 := F.of h124; replace h125 := F.of h125; replace h126 := F.of h126; replace h127 := F.of h127; replace h128 := F.of h128; replace h129 := F.of h129; replace h130 := F.of h130; have R := F.r; clear F
          change (c5_112).wp _ _ _ _
          refine wp_cond_false (x := c5_113) (y := Code.skip) (eval_slot h132) ?_
          refine wp_skip ?_
          change (c5_118).wp _ _ _ _
          change (Code.region 17 O5_17 false).wp _ _ _ _
          refine reg_in (l := [0, 1, 2]) rfl ?_
          have F : FE_ _ [] a165 a165 := ⟨R, Ag_.refl _⟩; clear R
          refine sv_ g5_17_0 (ym_ rfl (F.of h10)) fun a166 e => ?_
          have h60 := pt_ F e; replace F := pu_ F e; clear e
          have Y : (execOp a166.eval o5_17_1).run Try.prog w162 = .ok (.value (.int .i64 1)) w162 := by have hwr : IntKind.i64.wrap (1) = 1 := (by decide); unfold o5_17_1; go_simp
          refine sv_ g5_17_1 Y fun a167 e => ?_; clear Y
          have h61 := pt_ F e; replace F := pu_ F e; replace h60 := so_ e h60; clear e
          refine sv_ g5_17_2 (ya_ rfl h61) fun a168 e => ?_
          clear h10; have h10 := pt_ F e; replace F := pu_ F e; replace h60 := so_ e h60; replace h61 := so_ e h61; clear e
          refine st_end ?_
          replace h0 := F.of h0; replace h1 := F.of h1; replace h5 := F.of h5; replace h6 := F.of h6; replace h17 := F.of h17; replace h18 := F.of h18; replace h40 := F.of h40; replace h41 := F.of h41; replace h42 := F.of h42; replace h43 := F.of h43; replace h58 := F.of h58; replace h59 := F.of h59; replace h62 := F.of h62; replace h63 := F.of h63; replace h64 := F.of h64; replace h65 := F.of h65; replace h118 := F.of h118; replace h119 := F.of h119; replace h120 := F.of h120; replace h121 := F.of h121; replace h122 := F.of h122; replace h123 := F.of h123; replace h124 := F.of h124; replace h125 := F.of h125; replace h126 := F.of h126; replace h127 := F.of h127; replace h128 := F.of h128; replace h129 := F.of h129; replace h130 := F.of h130; replace h131 := F.of h131; replace h132 := F.of h132; have R := F.r; clear F
          have HPR := Lib.hid (HPO.out.on KP); clear HPO KP; have HPO := HPR; clear HPR
          clear B149
          clear B159
          exact ⟨_, by omega, 1, _, _, _, rfl, R, h0, h1, h5, h6, h10, h40, h41, h42, h43, K1, (by decide), (by decide), HPO, (Lib.hid (by rw [HPS.out, rem0_all (by omega) (by omega)]; rfl))⟩
        | true =>
          have fb138 := hb138; clear hb138
          simp only [decide_eq_true_eq, decide_eq_false_iff_not, bne_iff_ne, bne_eq_false_iff_eq, beq_iff_eq, beq_eq_false_iff_ne, ne_eq, Bool.not_eq_true', Bool.not_eq_false', Bool.not_eq_eq_eq_not, Bool.not_true, Bool.not_false] at fb138
          refine wp_cond_true (x := Code.skip) (y := c5_74) (eval_slot h65) ?_
          refine wp_skip ?_
          change (c5_75).wp _ _ _ _
          refine wp_seq (x := c5_76) (y := c5_104) ?_
          refine wp_block (id := 5) (c := c5_77) ?_
          refine wp_seq (x := c5_78) (y := c5_79) ?_
          change (Code.region 20 O5_20 false).wp _ _ _ _
          refine reg_in (l := [0, 1, 2, 3, 4]) rfl ?_
          have F : FE_ _ [] a139 a139 := ⟨R, Ag_.refl _⟩; clear R
          refine sv_ g5_20_0 (ym_ rfl (F.of h64)) fun a169 e => ?_
          have h66 := pt_ F e; replace F := pu_ F e; clear e
          obtain ⟨bN, oN, hna, hbn, hcl⟩ := HNS.out i (by omega)
          obtain ⟨nj, hnj⟩ : ∃ q, ns.getD i 0 = q := ⟨_, rfl⟩; rw [hnj] at hcl; have HNJ := Lib.hid hnj; clear hnj
          have HKM : Hid (km ns i = kt nj i) := Lib.hid (by unfold km; rw [HNJ.out])
          have HWJ : (ik nj).wf = true := by rw [← HNJ.out, List.getD_eq_getElem?_getD, List.getElem?_eq_getElem (show i < ns.length by omega)]; exact HWF.out _ (List.getElem_mem _)
          have hltA : (i : Int) < (ns.length : Int) := by omega
          have HNA := Lib.hid hna; clear hna; have HCL := Lib.hid hcl; clear hcl
          have Y : (execOp a169.eval o5_20_1).run Try.prog w136 = .ok (.value (.pointer (some ⟨bN, oN + i, none⟩))) w136 := by have r62 := F.of h62; have r64 := F.of h64; have hA := HNA.out; unfold o5_20_1; go_simp
          refine sv_ g5_20_1 Y fun a170 e => ?_; clear Y
          have h67 := pt_ F e; replace F := pu_ F e; replace h66 := so_ e h66; clear e
          have Y : (execOp a170.eval o5_20_2).run Try.prog w136 = .ok (.value (.int .i64 nj)) w136 := by have c0 := cell_on HCL.out K1; unfold o5_20_2; go_simp
          refine sv_ g5_20_2 Y fun a171 e => ?_; clear Y
          have h68 := pt_ F e; replace F := pu_ F e; replace h66 := so_ e h66; replace h67 := so_ e h67; clear e
          refine sv_ g5_20_3 (ya_ rfl h66) fun a172 e => ?_
          have h11 := pt_ F e; replace F := pu_ F e; replace h66 := so_ e h66; replace h67 := so_ e h67; replace h68 := so_ e h68; clear e
          refine sv_ g5_20_4 (ya_ rfl h68) fun a173 e => ?_
          have h12 := pt_ F e; replace F := pu_ F e; replace h11 := so_ e h11; replace h66 := so_ e h66; replace h67 := so_ e h67; replace h68 := so_ e h68; clear e
          refine st_end ?_
          replace h0 := F.of h0; replace h1 := F.of h1; replace h5 := F.of h5; replace h6 := F.of h6; replace h10 := F.of h10; replace h40 := F.of h40; replace h41 := F.of h41; replace h42 := F.of h42; replace h43 := F.of h43; replace h58 := F.of h58; replace h59 := F.of h59; replace h62 := F.of h62; replace h63 := F.of h63; replace h64 := F.of h64; replace h65 := F.of h65; have R := F.r; clear F
          change (c5_79).wp _ _ _ _
          refine wp_seq (x := c5_80) (y := c5_85) ?_
          refine wp_seq (x := c5_81) (y := c5_82) ?_
          change (Code.region 21 O5_21 false).wp _ _ _ _
          refine reg_in (l := [0, 1, 2, 3, 4, 5]) rfl ?_
          have F : FE_ _ [] a173 a173 := ⟨R, Ag_.refl _⟩; clear R
          refine sv_ g5_21_0 (ym_ rfl (F.of h12)) fun a174 e => ?_
          have h69 := pt_ F e; replace F := pu_ F e; clear e
          refine sv_ g5_21_1 (ym_ rfl (F.of h1)) fun a175 e => ?_
          have h70 := pt_ F e; replace F := pu_ F e; replace h69 := so_ e h69; clear e
          obtain ⟨b176, hb176⟩ : ∃ x, (((nj : Int) == (want : Int))) = x := ⟨_, rfl⟩
          have Y : (execOp a175.eval o5_21_2).run Try.prog w136 = .ok (.value (.bool b176)) w136 := by rw [← hb176]; unfold o5_21_2; go_simp
          refine sv_ g5_21_2 Y fun a177 e => ?_; clear Y
          have h71 := pt_ F e; replace F := pu_ F e; replace h69 := so_ e h69; replace h70 := so_ e h70; clear e
          refine sv_ g5_21_3 (ym_ rfl (F.of h10)) fun a178 e => ?_
          have h72 := pt_ F e; replace F := pu_ F e; replace h69 := so_ e h69; replace h70 := so_ e h70; replace h71 := so_ e h71; clear e
          have Y : (execOp a178.eval o5_21_4).run Try.prog w136 = .ok (.value (.bool true)) w136 := by unfold o5_21_4; go_simp
          refine sv_ g5_21_4 Y fun a179 e => ?_; clear Y
          have h73 := pt_ F e; replace F := pu_ F e; replace h69 := so_ e h69; replace h70 := so_ e h70; replace h71 := so_ e h71; replace h72 := so_ e h72; clear e
          cases b176 with
          | false =>
            have HEQ : Hid (¬ nj = want) := Lib.hid (by simpa using hb176); clear hb176
            have Y : (execOp a179.eval o5_21_5).run Try.prog w136 = .ok (.value (.bool true)) w136 := by unfold o5_21_5; go_simp
            refine sv_ g5_21_5 Y fun a180 e => ?_; clear Y
            have h74 := pt_ F e; replace F := pu_ F e; replace h69 := so_ e h69; replace h70 := so_ e h70; replace h71 := so_ e h71; replace h72 := so_ e h72; replace h73 := so_ e h73; clear e
            refine st_end ?_
            replace h0 := F.of h0; replace h1 := F.of h1; replace h5 := F.of h5; replace h6 := F.of h6; replace h10 := F.of h10; replace h11 := F.of h11; replace h12 := F.of h12; replace h40 := F.of h40; replace h41 := F.of h41; replace h42 := F.of h42; replace h43 := F.of h43; replace h58 := F.of h58; replace h59 := F.of h59; replace h62 := F.of h62; replace h63 := F.of h63; replace h64 := F.of h64; replace h65 := F.of h65; replace h66 := F.of h66; replace h67 := F.of h67; replace h68 := F.of h68; have R := F.r; clear F
            change (c5_82).wp _ _ _ _
            refine wp_cond_true (x := c5_83) (y := Code.skip) (eval_slot h74) ?_
            refine wp_exit ?_
            change (c5_104).wp _ _ _ _
            change (Code.region 29 O5_29 false).wp _ _ _ _
            refine reg_in (l := [0, 1]) rfl ?_
            have F : FE_ _ [] a180 a180 := ⟨R, Ag_.refl _⟩; clear R
            have Y : (execOp a180.eval o5_29_0).run Try.prog w136 = .ok (.value (.int .i64 ((i : Int) + 1))) w136 := by have r64 := F.of h64; have hwj : IntKind.i64.wrap ((i : Int) + 1) = (i : Int) + 1 := (by rw [IntKind.wrap_i64]; have := HLEN.out; omega); unfold o5_29_0; go_simp
            refine sv_ g5_29_0 Y fun a181 e => ?_; clear Y
            have h117 := pt_ F e; replace F := pu_ F e; clear e
            refine sv_ g5_29_1 (ym_ rfl h117) fun a182 e => ?_
            clear h64; have h64 := pt_ F e; replace F := pu_ F e; replace h117 := so_ e h117; clear e
            refine st_end ?_
            replace h0 := F.of h0; replace h1 := F.of h1; replace h5 := F.of h5; replace h6 := F.of h6; replace h10 := F.of h10; replace h11 := F.of h11; replace h12 := F.of h12; replace h40 := F.of h40; replace h41 := F.of h41; replace h42 := F.of h42; replace h43 := F.of h43; replace h58 := F.of h58; replace h59 := F.of h59; replace h62 := F.of h62; replace h63 := F.of h63; replace h65 := F.of h65; replace h66 := F.of h66; replace h67 := F.of h67; replace h68 := F.of h68; replace h69 := F.of h69; replace h70 := F.of h70; replace h71 := F.of h71; replace h72 := F.of h72; replace h73 := F.of h73; replace h74 := F.of h74; have R := F.r; clear F
            have HPR := Lib.hid (HPO.out.on KP); clear HPO KP; have HPO := HPR; clear HPR
            exact ⟨_, by omega, i + 1, _, _, rfl, R, h0, h1, h5, h6, h10, h40, h41, h42, h43, h58, h59, h62, h63, h64, K1, (by omega), HPO, (Lib.hid (by rw [HPS.out, rem0_miss (by omega) (by rw [HNJ.out]; exact HEQ.out)]))⟩
          | true =>
            have HEQ : Hid (nj = want) := Lib.hid (by simpa using hb176); clear hb176
            have Y : (execOp a179.eval o5_21_5).run Try.prog w136 = .ok (.value (.bool false)) w136 := by unfold o5_21_5; go_simp
            refine sv_ g5_21_5 Y fun a183 e => ?_; clear Y
            have h74 := pt_ F e; replace F := pu_ F e; replace h69 := so_ e h69; replace h70 := so_ e h70; replace h71 := so_ e h71; replace h72 := so_ e h72; replace h73 := so_ e h73; clear e
            refine st_end ?_
            replace h0 := F.of h0; replace h1 := F.of h1; replace h5 := F.of h5; replace h6 := F.of h6; replace h10 := F.of h10; replace h11 := F.of h11; replace h12 := F.of h12; replace h40 := F.of h40; replace h41 := F.of h41; replace h42 := F.of h42; replace h43 := F.of h43; replace h58 := F.of h58; replace h59 := F.of h59; replace h62 := F.of h62; replace h63 := F.of h63; replace h64 := F.of h64; replace h65 := F.of h65; replace h66 := F.of h66; replace h67 := F.of h67; replace h68 := F.of h68; have R := F.r; clear F
            change (c5_82).wp _ _ _ _
            refine wp_cond_false (x := c5_83) (y := Code.skip) (eval_slot h74) ?_
            refine wp_skip ?_
            change (c5_85).wp _ _ _ _
            refine wp_seq (x := c5_86) (y := c5_87) ?_
            change (Code.region 22 O5_22 false).wp _ _ _ _
            refine reg_in (l := [0, 1, 2, 3, 4, 5, 6]) rfl ?_
            have F : FE_ _ [] a183 a183 := ⟨R, Ag_.refl _⟩; clear R
            refine sv_ g5_22_0 (ym_ rfl (F.of h1)) fun a184 e => ?_
            have h75 := pt_ F e; replace F := pu_ F e; clear e
            have hc : Calls Try.prog 31 #[.int .i64 want] w136 (fun e w' => e = .returned (.agg #[.int .i64 2, .string (⟨#[]⟩), .int .i64 want, .slice none 0 0]) ∧ Keep (fun g => g < w136.heap.size) w136 w') := refN_any w136 want
            refine st_call g5_22_1 rfl (wanted_free rfl) (yc1_ en5_31 rfl h75) ((hc).mono ?_)
            rintro e9 w185 ⟨rfl, kk⟩
            replace K1 := keep_onto K1 kk
            replace KP := keep_onto KP kk
            clear hc
            clear kk
            refine ⟨_, rfl, fun a186 e => ?_⟩
            have h76 := pt_ F e; replace F := pu_ F e; replace h75 := so_ e h75; clear e
            have Y : (execOp a186.eval o5_22_2).run Try.prog w185 = .ok (.enter 26 #[.int .i64 9]) w185 := by unfold o5_22_2; go_simp
            have hc : Calls Try.prog 26 #[.int .i64 9] w185 (fun e w' => e = .returned (.agg #[.int .i64 1, .string (⟨#[]⟩), .int .i64 9, .slice none 0 0]) ∧ Keep (fun g => g < w185.heap.size) w185 w') := refV_any w185 9
            refine st_call g5_22_2 rfl (wanted_free rfl) Y ((hc).mono ?_); clear Y
            rintro e9 w187 ⟨rfl, kk⟩
            replace K1 := keep_onto K1 kk
            replace KP := keep_onto KP kk
            clear hc
            clear kk
            refine ⟨_, rfl, fun a188 e => ?_⟩
            have h77 := pt_ F e; replace F := pu_ F e; replace h75 := so_ e h75; replace h76 := so_ e h76; clear e
            have Y : (execOp a188.eval o5_22_3).run Try.prog w187 = .ok (.value (.slice (some ⟨w187.heap.size, 0, none⟩) 2 2)) (w187.alloc (.cells #[.int .i64 2, .string (⟨#[]⟩), .int .i64 want, .slice none 0 0, .int .i64 1, .string (⟨#[]⟩), .int .i64 9, .slice none 0 0] 24)) := by unfold o5_22_3; go_simp
            have B189 := Blk.new w187 24 #[.int .i64 2, .string (⟨#[]⟩), .int .i64 want, .slice none 0 0, .int .i64 1, .string (⟨#[]⟩), .int .i64 9, .slice none 0 0]
            obtain ⟨w190, hw⟩ : ∃ x, x = w187.alloc (.cells #[.int .i64 2, .string (⟨#[]⟩), .int .i64 want, .slice none 0 0, .int .i64 1, .string (⟨#[]⟩), .int .i64 9, .slice none 0 0] 24) := ⟨_, rfl⟩; rw [← hw] at Y B189
            obtain ⟨b189, hb⟩ : ∃ x, x = w187.heap.size := ⟨_, rfl⟩; rw [← hb] at Y B189
            have LK1_b189 := lk_ hb K1; replace K1 := ka_ hw K1; have LKP_b189 := lk_ hb KP; replace KP := ka_ hw KP; clear hw hb
            refine sv_ g5_22_3 Y fun a191 e => ?_; clear Y
            have h78 := pt_ F e; replace F := pu_ F e; replace h75 := so_ e h75; replace h76 := so_ e h76; replace h77 := so_ e h77; clear e
            have Y : (execOp a191.eval o5_22_4).run Try.prog w190 = .ok (.enter 30 #[.string (⟨#[107]⟩), .slice (some ⟨b189, 0, none⟩) 2 2]) w190 := by unfold o5_22_4; go_simp
            have hc : Calls Try.prog 30 #[.string (⟨#[107]⟩), .slice (some ⟨b189, 0, none⟩) 2 2] w190 (fun e w' => e = .returned (.agg #[.int .i64 4, .string (⟨#[107]⟩), .int .i64 0, .slice (some ⟨b189, 0, none⟩) 2 2]) ∧ Keep (fun g => g < w190.heap.size) w190 w') := refC_any w190 [107] [.node 2 [] want [], .node 1 [] 9 []] (some ⟨b189, 0, none⟩) 2
            refine st_call g5_22_4 rfl (wanted_free rfl) Y ((hc).mono ?_); clear Y
            rintro e9 w192 ⟨rfl, kk⟩
            replace K1 := keep_onto K1 kk
            replace KP := keep_onto KP kk
            replace B189 := blk_on B189 kk
            clear hc
            clear kk
            refine ⟨_, rfl, fun a193 e => ?_⟩
            have h79 := pt_ F e; replace F := pu_ F e; replace h75 := so_ e h75; replace h76 := so_ e h76; replace h77 := so_ e h77; replace h78 := so_ e h78; clear e
            have Y : (execOp a193.eval o5_22_5).run Try.prog w192 = .ok (.value (.pointer (some ⟨w192.heap.size, 0, none⟩))) (w192.alloc (.cells #[.int .i64 0, .string (⟨#[]⟩), .int .i64 0, .slice none 0 0] 24)) := by unfold o5_22_5; go_simp
            have B194 := Blk.new w192 24 #[.int .i64 0, .string (⟨#[]⟩), .int .i64 0, .slice none 0 0]
            obtain ⟨w195, hw⟩ : ∃ x, x = w192.alloc (.cells #[.int .i64 0, .string (⟨#[]⟩), .int .i64 0, .slice none 0 0] 24) := ⟨_, rfl⟩; rw [← hw] at Y B194
            obtain ⟨b194, hb⟩ : ∃ x, x = w192.heap.size := ⟨_, rfl⟩; rw [← hb] at Y B194
            have Nb189_b194 := nb_ hb B189; replace B189 := ba_ hw B189; have LK1_b194 := lk_ hb K1; replace K1 := ka_ hw K1; have LKP_b194 := lk_ hb KP; replace KP := ka_ hw KP; clear hw hb
            refine sv_ g5_22_5 Y fun a196 e => ?_; clear Y
            have h13 := pt_ F e; replace F := pu_ F e; replace h75 := so_ e h75; replace h76 := so_ e h76; replace h77 := so_ e h77; replace h78 := so_ e h78; replace h79 := so_ e h79; clear e
            obtain ⟨w197, Y, hk, hB⟩ := ys4_ (o := o5_22_6) rfl h13 h79 B194
            replace K1 := kx_ hk K1 (Nat.not_lt.2 LK1_b194); replace KP := kx_ hk KP (Nat.not_lt.2 LKP_b194); replace B189 := bx_ hk B189 Nb189_b194; clear B194; have B194 := hB; clear hB hk
            refine st_skip g5_22_6 rfl (wanted_free rfl) Y ?_; clear Y
            refine st_end ?_
            replace h0 := F.of h0; replace h1 := F.of h1; replace h5 := F.of h5; replace h6 := F.of h6; replace h10 := F.of h10; replace h11 := F.of h11; replace h12 := F.of h12; replace h40 := F.of h40; replace h41 := F.of h41; replace h42 := F.of h42; replace h43 := F.of h43; replace h58 := F.of h58; replace h59 := F.of h59; replace h62 := F.of h62; replace h63 := F.of h63; replace h64 := F.of h64; replace h65 := F.of h65; replace h66 := F.of h66; replace h67 := F.of h67; replace h68 := F.of h68; replace h69 := F.of h69; replace h70 := F.of h70; replace h71 := F.of h71; replace h72 := F.of h72; replace h73 := F.of h73; replace h74 := F.of h74; have R := F.r; clear F
            change (c5_87).wp _ _ _ _
            refine wp_seq (x := c5_88) (y := c5_95) ?_
            refine wp_seq (x := c5_89) (y := c5_90) ?_
            change (Code.region 23 O5_23 false).wp _ _ _ _
            refine reg_in (l := [0, 1]) rfl ?_
            have F : FE_ _ [] a196 a196 := ⟨R, Ag_.refl _⟩; clear R
            refine sv_ g5_23_0 (ym_ rfl (F.of h10)) fun a198 e => ?_
            have h80 := pt_ F e; replace F := pu_ F e; clear e
            have Y : (execOp a198.eval o5_23_1).run Try.prog w197 = .ok (.value (.bool false)) w197 := by unfold o5_23_1; go_simp
            refine sv_ g5_23_1 Y fun a199 e => ?_; clear Y
            have h81 := pt_ F e; replace F := pu_ F e; replace h80 := so_ e h80; clear e
            refine st_end ?_
            replace h0 := F.of h0; replace h1 := F.of h1; replace h5 := F.of h5; replace h6 := F.of h6; replace h10 := F.of h10; replace h11 := F.of h11; replace h12 := F.of h12; replace h13 := F.of h13; replace h40 := F.of h40; replace h41 := F.of h41; replace h42 := F.of h42; replace h43 := F.of h43; replace h58 := F.of h58; replace h59 := F.of h59; replace h62 := F.of h62; replace h63 := F.of h63; replace h64 := F.of h64; replace h65 := F.of h65; replace h66 := F.of h66; replace h67 := F.of h67; replace h68 := F.of h68; replace h69 := F.of h69; replace h70 := F.of h70; replace h71 := F.of h71; replace h72 := F.of h72; replace h73 := F.of h73; replace h74 := F.of h74; replace h75 := F.of h75; replace h76 := F.of h76; replace h77 := F.of h77; replace h78 := F.of h78; replace h79 := F.of h79; have R := F.r; clear F
            change (c5_90).wp _ _ _ _
            refine wp_cond_false (x := c5_91) (y := Code.skip) (eval_slot h81) ?_
            refine wp_skip ?_
            change (c5_95).wp _ _ _ _
            refine wp_seq (x := c5_96) (y := c5_97) ?_
            change (Code.region 26 O5_26 false).wp _ _ _ _
            refine reg_in (l := [0, 1, 2, 3, 4, 5, 6, 7, 8, 9]) rfl ?_
            have F : FE_ _ [] a199 a199 := ⟨R, Ag_.refl _⟩; clear R
            refine sv_ g5_26_0 (ym_ rfl (F.of h5)) fun a200 e => ?_
            have h85 := pt_ F e; replace F := pu_ F e; clear e
            refine sv_ g5_26_1 (ym_ rfl (F.of h6)) fun a201 e => ?_
            have h86 := pt_ F e; replace F := pu_ F e; replace h85 := so_ e h85; clear e
            refine sv_ g5_26_2 (yl4_ rfl (F.of h13) B194) fun a202 e => ?_
            have h87 := pt_ F e; replace F := pu_ F e; replace h85 := so_ e h85; replace h86 := so_ e h86; clear e
            have Y : (execOp a202.eval o5_26_3).run Try.prog w197 = .ok (.enter 27 #[.pointer (some ⟨pa, 0, none⟩), .int .i64 1, .agg #[.int .i64 4, .string (⟨#[107]⟩), .int .i64 0, .slice (some ⟨b189, 0, none⟩) 2 2]]) w197 := by unfold o5_26_3; go_simp
            obtain ⟨he1, he2⟩ := rem0_hit (want := want) (show i < ns.length by omega) (by rw [HNJ.out]; exact HEQ.out)
            have hps := HPS.out; rw [he1] at hps; obtain ⟨ap, cp, hp, hno, hps2⟩ := nth_of hps; rw [← he2] at hps2; rw [HKM.out] at hp
            have hcall : Calls Try.prog 27 #[.pointer (some ⟨pa, 0, none⟩), .int .i64 1, .agg #[.int .i64 4, .string (⟨#[107]⟩), .int .i64 0, .slice (some ⟨b189, 0, none⟩) 2 2]] w197 (fun e w' => ∃ v' : Value, e = .returned (.tuple #[.agg #[.int .i64 4, .string ⟨#[107]⟩, .int .i64 0, .slice ap 2 cp], .int .i64 0]) ∧ OneQ BB Rq w' pa mb 64 (ps.eraseIdx ((List.range i).filter (other ns want)).length) gq v' ∧ Fr 0 Rq w' BB w'.heap.size (kt nj i) ap cp ∧ Keep (fun b => b < BB) w197 w') := Calls.mono (get1_yes (t := kp want) (j := ((List.range i).filter (other ns want)).length) (p := (kt nj i, ap, cp)) (HPO.out.on KP) (tm_2 B189 rfl rfl (tm_N HWW.out) (tm_V (by decide)) (by decide)) (kp_right want) hp (kt_fit.2 HEQ.out) (fun k x hk hx hf => by obtain ⟨y, hy, he⟩ := hno k x hk hx; rw [he] at hf; exact other_of hy (kt_fit.1 hf))) fun e w' h => by obtain ⟨v', h1, h2, h3, -, h4, -⟩ := h; exact ⟨v', h1, h2, h3, h4⟩
            clear hp hno he1 he2 hps
            have HPN := Lib.hid hps2; clear hps2
            refine st_call g5_26_3 rfl (wanted_free rfl) Y ((hcall).mono ?_); clear Y
            rintro e9 w203 ⟨vq2, rfl, hpo, hfr, kb⟩
            clear B189
            clear B194
            replace K1 := K1.trans (kb.less fun g hg => Nat.lt_of_lt_of_le hg HWB)
            clear KP
            clear hcall kb; have kk := trivial
            clear kk
            clear HPO; have HPO := Lib.hid hpo; clear hpo; have HFR := Lib.hid hfr; clear hfr
            have KP := Keep.refl (fun g => g < w203.heap.size) w203
            obtain ⟨bA, oA, hA, hc0⟩ := kt_at (HFR.out.at_ (Nat.zero_le _)); subst hA; have hc1 := kt_at1 (HFR.out.at_ (Nat.zero_le _)); have HC0 := Lib.hid hc0; have HC1 := Lib.hid hc1; clear hc0 hc1 HFR
            have KG := Keep.refl (fun g => g < w203.heap.size) w203
            refine ⟨_, rfl, fun a204 e => ?_⟩
            have h88 := pt_ F e; replace F := pu_ F e; replace h85 := so_ e h85; replace h86 := so_ e h86; replace h87 := so_ e h87; clear e
            refine sv_ g5_26_4 (ym_ rfl h88) fun a205 e => ?_
            have h84 := pt_ F e; replace F := pu_ F e; replace h85 := so_ e h85; replace h86 := so_ e h86; replace h87 := so_ e h87; replace h88 := so_ e h88; clear e
            refine sv_ g5_26_5 (ye20_ rfl h84) fun a206 e => ?_
            have h89 := pt_ F e; replace F := pu_ F e; replace h84 := so_ e h84; replace h85 := so_ e h85; replace h86 := so_ e h86; replace h87 := so_ e h87; replace h88 := so_ e h88; clear e
            refine sv_ g5_26_6 (ye21_ rfl h84) fun a207 e => ?_
            have h90 := pt_ F e; replace F := pu_ F e; replace h84 := so_ e h84; replace h85 := so_ e h85; replace h86 := so_ e h86; replace h87 := so_ e h87; replace h88 := so_ e h88; replace h89 := so_ e h89; clear e
            have Y : (execOp a207.eval o5_26_7).run Try.prog w203 = .ok (.value (.pointer (some ⟨w203.heap.size, 0, none⟩))) (w203.alloc (.cells #[.int .i64 0, .string (⟨#[]⟩), .int .i64 0, .slice none 0 0] 24)) := by unfold o5_26_7; go_simp
            have B208 := Blk.new w203 24 #[.int .i64 0, .string (⟨#[]⟩), .int .i64 0, .slice none 0 0]
            obtain ⟨w209, hw⟩ : ∃ x, x = w203.alloc (.cells #[.int .i64 0, .string (⟨#[]⟩), .int .i64 0, .slice none 0 0] 24) := ⟨_, rfl⟩; rw [← hw] at Y B208
            obtain ⟨b208, hb⟩ : ∃ x, x = w203.heap.size := ⟨_, rfl⟩; rw [← hb] at Y B208
            have LK1_b208 := lk_ hb K1; replace K1 := ka_ hw K1; have LKP_b208 := lk_ hb KP; replace KP := ka_ hw KP; have LKG_b208 := lk_ hb KG; replace KG := ka_ hw KG; clear hw hb
            refine sv_ g5_26_7 Y fun a210 e => ?_; clear Y
            have h15 := pt_ F e; replace F := pu_ F e; replace h84 := so_ e h84; replace h85 := so_ e h85; replace h86 := so_ e h86; replace h87 := so_ e h87; replace h88 := so_ e h88; replace h89 := so_ e h89; replace h90 := so_ e h90; clear e
            obtain ⟨w211, Y, hk, hB⟩ := ys4_ (o := o5_26_8) rfl h15 h89 B208
            replace K1 := kx_ hk K1 (Nat.not_lt.2 LK1_b208); replace KP := kx_ hk KP (Nat.not_lt.2 LKP_b208); replace KG := kx_ hk KG (Nat.not_lt.2 LKG_b208); clear B208; have B208 := hB; clear hB hk
            refine st_skip g5_26_8 rfl (wanted_free rfl) Y ?_; clear Y
            refine sv_ g5_26_9 (ya_ rfl h90) fun a212 e => ?_
            have h16 := pt_ F e; replace F := pu_ F e; replace h15 := so_ e h15; replace h84 := so_ e h84; replace h85 := so_ e h85; replace h86 := so_ e h86; replace h87 := so_ e h87; replace h88 := so_ e h88; replace h89 := so_ e h89; replace h90 := so_ e h90; clear e
            refine st_end ?_
            replace h0 := F.of h0; replace h1 := F.of h1; replace h5 := F.of h5; replace h6 := F.of h6; replace h10 := F.of h10; replace h11 := F.of h11; replace h12 := F.of h12; replace h13 := F.of h13; replace h40 := F.of h40; replace h41 := F.of h41; replace h42 := F.of h42; replace h43 := F.of h43; replace h58 := F.of h58; replace h59 := F.of h59; replace h62 := F.of h62; replace h63 := F.of h63; replace h64 := F.of h64; replace h65 := F.of h65; replace h66 := F.of h66; replace h67 := F.of h67; replace h68 := F.of h68; replace h69 := F.of h69; replace h70 := F.of h70; replace h71 := F.of h71; replace h72 := F.of h72; replace h73 := F.of h73; replace h74 := F.of h74; replace h75 := F.of h75; replace h76 := F.of h76; replace h77 := F.of h77; replace h78 := F.of h78; replace h79 := F.of h79; replace h80 := F.of h80; replace h81 := F.of h81; have R := F.r; clear F
            change (c5_97).wp _ _ _ _
            refine wp_seq (x := c5_98) (y := c5_99) ?_
            change (Code.region 27 O5_27 false).wp _ _ _ _
            refine reg_in (l := [0, 1, 2, 3, 4, 5, 6, 7, 8, 9, 10, 11, 12, 13, 14, 15, 16, 17, 18, 19, 20, 21, 22, 23, 24, 25]) rfl ?_
            have F : FE_ _ [] a212 a212 := ⟨R, Ag_.refl _⟩; clear R
            refine sv_ g5_27_0 (ym_ rfl (F.of h16)) fun a213 e => ?_
            have h91 := pt_ F e; replace F := pu_ F e; clear e
            have Y : (execOp a213.eval o5_27_1).run Try.prog w211 = .ok (.value (.bool false)) w211 := by unfold o5_27_1; go_simp
            refine sv_ g5_27_1 Y fun a214 e => ?_; clear Y
            have h92 := pt_ F e; replace F := pu_ F e; replace h91 := so_ e h91; clear e
            refine sv_ g5_27_2 (ym_ rfl h92) fun a215 e => ?_
            have h93 := pt_ F e; replace F := pu_ F e; replace h91 := so_ e h91; replace h92 := so_ e h92; clear e
            refine st_val g5_27_3 rfl (wanted_is (j := 2) (d := 93) rfl rfl h93 rfl) (yf3_ rfl (F.of h15)) fun a216 e => ?_
            have h94 := pt_ F e; replace F := pu_ F e; replace h91 := so_ e h91; replace h92 := so_ e h92; replace h93 := so_ e h93; clear e
            refine st_val g5_27_4 rfl (wanted_is (j := 2) (d := 93) rfl rfl h93 rfl) (yk3_ rfl h94 B208) fun a217 e => ?_
            have h95 := pt_ F e; replace F := pu_ F e; replace h91 := so_ e h91; replace h92 := so_ e h92; replace h93 := so_ e h93; replace h94 := so_ e h94; clear e
            have Y : (execOp a217.eval o5_27_5).run Try.prog w211 = .ok (.value (.int .i64 2)) w211 := by unfold o5_27_5; go_simp
            refine st_val g5_27_5 rfl (wanted_is (j := 2) (d := 93) rfl rfl h93 rfl) Y fun a218 e => ?_; clear Y
            have h96 := pt_ F e; replace F := pu_ F e; replace h91 := so_ e h91; replace h92 := so_ e h92; replace h93 := so_ e h93; replace h94 := so_ e h94; replace h95 := so_ e h95; clear e
            have Y : (execOp a218.eval o5_27_6).run Try.prog w211 = .ok (.value (.bool false)) w211 := by unfold o5_27_6; go_simp
            refine st_val g5_27_6 rfl (wanted_is (j := 2) (d := 93) rfl rfl h93 rfl) Y fun a219 e => ?_; clear Y
            have h97 := pt_ F e; replace F := pu_ F e; replace h91 := so_ e h91; replace h92 := so_ e h92; replace h93 := so_ e h93; replace h94 := so_ e h94; replace h95 := so_ e h95; replace h96 := so_ e h96; clear e
            have Y : (execOp a219.eval o5_27_7).run Try.prog w211 = .ok (.value (.bool false)) w211 := by unfold o5_27_7; go_simp
            refine sv_ g5_27_7 Y fun a220 e => ?_; clear Y
            have h98 := pt_ F e; replace F := pu_ F e; replace h91 := so_ e h91; replace h92 := so_ e h92; replace h93 := so_ e h93; replace h94 := so_ e h94; replace h95 := so_ e h95; replace h96 := so_ e h96; replace h97 := so_ e h97; clear e
            refine sv_ g5_27_8 (ym_ rfl h98) fun a221 e => ?_
            have h99 := pt_ F e; replace F := pu_ F e; replace h91 := so_ e h91; replace h92 := so_ e h92; replace h93 := so_ e h93; replace h94 := so_ e h94; replace h95 := so_ e h95; replace h96 := so_ e h96; replace h97 := so_ e h97; replace h98 := so_ e h98; clear e
            refine st_val g5_27_9 rfl (wanted_is (j := 8) (d := 99) rfl rfl h99 rfl) (yf3_ rfl (F.of h15)) fun a222 e => ?_
            have h100 := pt_ F e; replace F := pu_ F e; replace h91 := so_ e h91; replace h92 := so_ e h92; replace h93 := so_ e h93; replace h94 := so_ e h94; replace h95 := so_ e h95; replace h96 := so_ e h96; replace h97 := so_ e h97; replace h98 := so_ e h98; replace h99 := so_ e h99; clear e
            refine st_val g5_27_10 rfl (wanted_is (j := 8) (d := 99) rfl rfl h99 rfl) (yk3_ rfl h100 B208) fun a223 e => ?_
            have h101 := pt_ F e; replace F := pu_ F e; replace h91 := so_ e h91; replace h92 := so_ e h92; replace h93 := so_ e h93; replace h94 := so_ e h94; replace h95 := so_ e h95; replace h96 := so_ e h96; replace h97 := so_ e h97; replace h98 := so_ e h98; replace h99 := so_ e h99; replace h100 := so_ e h100; clear e
            have Y : (execOp a223.eval o5_27_11).run Try.prog w211 = .ok (.value (.pointer (some ⟨bA, oA, none⟩))) w211 := by unfold o5_27_11; go_simp
            refine st_val g5_27_11 rfl (wanted_is (j := 8) (d := 99) rfl rfl h99 rfl) Y fun a224 e => ?_; clear Y
            have h102 := pt_ F e; replace F := pu_ F e; replace h91 := so_ e h91; replace h92 := so_ e h92; replace h93 := so_ e h93; replace h94 := so_ e h94; replace h95 := so_ e h95; replace h96 := so_ e h96; replace h97 := so_ e h97; replace h98 := so_ e h98; replace h99 := so_ e h99; replace h100 := so_ e h100; replace h101 := so_ e h101; clear e
            have Y : (execOp a224.eval o5_27_12).run Try.prog w211 = .ok (.value (.pointer (some ⟨bA, oA + 2, none⟩))) w211 := by unfold o5_27_12; go_simp
            refine st_val g5_27_12 rfl (wanted_is (j := 8) (d := 99) rfl rfl h99 rfl) Y fun a225 e => ?_; clear Y
            have h103 := pt_ F e; replace F := pu_ F e; replace h91 := so_ e h91; replace h92 := so_ e h92; replace h93 := so_ e h93; replace h94 := so_ e h94; replace h95 := so_ e h95; replace h96 := so_ e h96; replace h97 := so_ e h97; replace h98 := so_ e h98; replace h99 := so_ e h99; replace h100 := so_ e h100; replace h101 := so_ e h101; replace h102 := so_ e h102; clear e
            have Y : (execOp a225.eval o5_27_13).run Try.prog w211 = .ok (.value (.int .i64 nj)) w211 := by have c0 := cell_on HC0.out KG; unfold o5_27_13; go_simp
            refine st_val g5_27_13 rfl (wanted_is (j := 8) (d := 99) rfl rfl h99 rfl) Y fun a226 e => ?_; clear Y
            have h104 := pt_ F e; replace F := pu_ F e; replace h91 := so_ e h91; replace h92 := so_ e h92; replace h93 := so_ e h93; replace h94 := so_ e h94; replace h95 := so_ e h95; replace h96 := so_ e h96; replace h97 := so_ e h97; replace h98 := so_ e h98; replace h99 := so_ e h99; replace h100 := so_ e h100; replace h101 := so_ e h101; replace h102 := so_ e h102; replace h103 := so_ e h103; clear e
            refine st_val g5_27_14 rfl (wanted_is (j := 8) (d := 99) rfl rfl h99 rfl) (ym_ rfl (F.of h12)) fun a227 e => ?_
            have h105 := pt_ F e; replace F := pu_ F e; replace h91 := so_ e h91; replace h92 := so_ e h92; replace h93 := so_ e h93; replace h94 := so_ e h94; replace h95 := so_ e h95; replace h96 := so_ e h96; replace h97 := so_ e h97; replace h98 := so_ e h98; replace h99 := so_ e h99; replace h100 := so_ e h100; replace h101 := so_ e h101; replace h102 := so_ e h102; replace h103 := so_ e h103; replace h104 := so_ e h104; clear e
            have Y : (execOp a227.eval o5_27_15).run Try.prog w211 = .ok (.value (.bool false)) w211 := by unfold o5_27_15; go_simp
            refine st_val g5_27_15 rfl (wanted_is (j := 8) (d := 99) rfl rfl h99 rfl) Y fun a228 e => ?_; clear Y
            have h106 := pt_ F e; replace F := pu_ F e; replace h91 := so_ e h91; replace h92 := so_ e h92; replace h93 := so_ e h93; replace h94 := so_ e h94; replace h95 := so_ e h95; replace h96 := so_ e h96; replace h97 := so_ e h97; replace h98 := so_ e h98; replace h99 := so_ e h99; replace h100 := so_ e h100; replace h101 := so_ e h101; replace h102 := so_ e h102; replace h103 := so_ e h103; replace h104 := so_ e h104; replace h105 := so_ e h105; clear e
            have Y : (execOp a228.eval o5_27_16).run Try.prog w211 = .ok (.value (.bool false)) w211 := by unfold o5_27_16; go_simp
            refine sv_ g5_27_16 Y fun a229 e => ?_; clear Y
            have h107 := pt_ F e; replace F := pu_ F e; replace h91 := so_ e h91; replace h92 := so_ e h92; replace h93 := so_ e h93; replace h94 := so_ e h94; replace h95 := so_ e h95; replace h96 := so_ e h96; replace h97 := so_ e h97; replace h98 := so_ e h98; replace h99 := so_ e h99; replace h100 := so_ e h100; replace h101 := so_ e h101; replace h102 := so_ e h102; replace h103 := so_ e h103; replace h104 := so_ e h104; replace h105 := so_ e h105; replace h106 := so_ e h106; clear e
            refine sv_ g5_27_17 (ym_ rfl h107) fun a230 e => ?_
            have h108 := pt_ F e; replace F := pu_ F e; replace h91 := so_ e h91; replace h92 := so_ e h92; replace h93 := so_ e h93; replace h94 := so_ e h94; replace h95 := so_ e h95; replace h96 := so_ e h96; replace h97 := so_ e h97; replace h98 := so_ e h98; replace h99 := so_ e h99; replace h100 := so_ e h100; replace h101 := so_ e h101; replace h102 := so_ e h102; replace h103 := so_ e h103; replace h104 := so_ e h104; replace h105 := so_ e h105; replace h106 := so_ e h106; replace h107 := so_ e h107; clear e
            refine st_val g5_27_18 rfl (wanted_is (j := 17) (d := 108) rfl rfl h108 rfl) (yf3_ rfl (F.of h15)) fun a231 e => ?_
            have h109 := pt_ F e; replace F := pu_ F e; replace h91 := so_ e h91; replace h92 := so_ e h92; replace h93 := so_ e h93; replace h94 := so_ e h94; replace h95 := so_ e h95; replace h96 := so_ e h96; replace h97 := so_ e h97; replace h98 := so_ e h98; replace h99 := so_ e h99; replace h100 := so_ e h100; replace h101 := so_ e h101; replace h102 := so_ e h102; replace h103 := so_ e h103; replace h104 := so_ e h104; replace h105 := so_ e h105; replace h106 := so_ e h106; replace h107 := so_ e h107; replace h108 := so_ e h108; clear e
            refine st_val g5_27_19 rfl (wanted_is (j := 17) (d := 108) rfl rfl h108 rfl) (yk3_ rfl h109 B208) fun a232 e => ?_
            have h110 := pt_ F e; replace F := pu_ F e; replace h91 := so_ e h91; replace h92 := so_ e h92; replace h93 := so_ e h93; replace h94 := so_ e h94; replace h95 := so_ e h95; replace h96 := so_ e h96; replace h97 := so_ e h97; replace h98 := so_ e h98; replace h99 := so_ e h99; replace h100 := so_ e h100; replace h101 := so_ e h101; replace h102 := so_ e h102; replace h103 := so_ e h103; replace h104 := so_ e h104; replace h105 := so_ e h105; replace h106 := so_ e h106; replace h107 := so_ e h107; replace h108 := so_ e h108; replace h109 := so_ e h109; clear e
            have Y : (execOp a232.eval o5_27_20).run Try.prog w211 = .ok (.value (.pointer (some ⟨bA, oA + 4, none⟩))) w211 := by unfold o5_27_20; go_simp
            refine st_val g5_27_20 rfl (wanted_is (j := 17) (d := 108) rfl rfl h108 rfl) Y fun a233 e => ?_; clear Y
            have h111 := pt_ F e; replace F := pu_ F e; replace h91 := so_ e h91; replace h92 := so_ e h92; replace h93 := so_ e h93; replace h94 := so_ e h94; replace h95 := so_ e h95; replace h96 := so_ e h96; replace h97 := so_ e h97; replace h98 := so_ e h98; replace h99 := so_ e h99; replace h100 := so_ e h100; replace h101 := so_ e h101; replace h102 := so_ e h102; replace h103 := so_ e h103; replace h104 := so_ e h104; replace h105 := so_ e h105; replace h106 := so_ e h106; replace h107 := so_ e h107; replace h108 := so_ e h108; replace h109 := so_ e h109; replace h110 := so_ e h110; clear e
            have Y : (execOp a233.eval o5_27_21).run Try.prog w211 = .ok (.value (.pointer (some ⟨bA, oA + 6, none⟩))) w211 := by unfold o5_27_21; go_simp
            refine st_val g5_27_21 rfl (wanted_is (j := 17) (d := 108) rfl rfl h108 rfl) Y fun a234 e => ?_; clear Y
            have h112 := pt_ F e; replace F := pu_ F e; replace h91 := so_ e h91; replace h92 := so_ e h92; replace h93 := so_ e h93; replace h94 := so_ e h94; replace h95 := so_ e h95; replace h96 := so_ e h96; replace h97 := so_ e h97; replace h98 := so_ e h98; replace h99 := so_ e h99; replace h100 := so_ e h100; replace h101 := so_ e h101; replace h102 := so_ e h102; replace h103 := so_ e h103; replace h104 := so_ e h104; replace h105 := so_ e h105; replace h106 := so_ e h106; replace h107 := so_ e h107; replace h108 := so_ e h108; replace h109 := so_ e h109; replace h110 := so_ e h110; replace h111 := so_ e h111; clear e
            have Y : (execOp a234.eval o5_27_22).run Try.prog w211 = .ok (.value (.int .i64 (i : Int))) w211 := by have c0 := cell_on HC1.out KG; unfold o5_27_22; go_simp
            refine st_val g5_27_22 rfl (wanted_is (j := 17) (d := 108) rfl rfl h108 rfl) Y fun a235 e => ?_; clear Y
            have h113 := pt_ F e; replace F := pu_ F e; replace h91 := so_ e h91; replace h92 := so_ e h92; replace h93 := so_ e h93; replace h94 := so_ e h94; replace h95 := so_ e h95; replace h96 := so_ e h96; replace h97 := so_ e h97; replace h98 := so_ e h98; replace h99 := so_ e h99; replace h100 := so_ e h100; replace h101 := so_ e h101; replace h102 := so_ e h102; replace h103 := so_ e h103; replace h104 := so_ e h104; replace h105 := so_ e h105; replace h106 := so_ e h106; replace h107 := so_ e h107; replace h108 := so_ e h108; replace h109 := so_ e h109; replace h110 := so_ e h110; replace h111 := so_ e h111; replace h112 := so_ e h112; clear e
            refine st_val g5_27_23 rfl (wanted_is (j := 17) (d := 108) rfl rfl h108 rfl) (ym_ rfl (F.of h11)) fun a236 e => ?_
            have h114 := pt_ F e; replace F := pu_ F e; replace h91 := so_ e h91; replace h92 := so_ e h92; replace h93 := so_ e h93; replace h94 := so_ e h94; replace h95 := so_ e h95; replace h96 := so_ e h96; replace h97 := so_ e h97; replace h98 := so_ e h98; replace h99 := so_ e h99; replace h100 := so_ e h100; replace h101 := so_ e h101; replace h102 := so_ e h102; replace h103 := so_ e h103; replace h104 := so_ e h104; replace h105 := so_ e h105; replace h106 := so_ e h106; replace h107 := so_ e h107; replace h108 := so_ e h108; replace h109 := so_ e h109; replace h110 := so_ e h110; replace h111 := so_ e h111; replace h112 := so_ e h112; replace h113 := so_ e h113; clear e
            have Y : (execOp a236.eval o5_27_24).run Try.prog w211 = .ok (.value (.bool false)) w211 := by unfold o5_27_24; go_simp
            refine st_val g5_27_24 rfl (wanted_is (j := 17) (d := 108) rfl rfl h108 rfl) Y fun a237 e => ?_; clear Y
            have h115 := pt_ F e; replace F := pu_ F e; replace h91 := so_ e h91; replace h92 := so_ e h92; replace h93 := so_ e h93; replace h94 := so_ e h94; replace h95 := so_ e h95; replace h96 := so_ e h96; replace h97 := so_ e h97; replace h98 := so_ e h98; replace h99 := so_ e h99; replace h100 := so_ e h100; replace h101 := so_ e h101; replace h102 := so_ e h102; replace h103 := so_ e h103; replace h104 := so_ e h104; replace h105 := so_ e h105; replace h106 := so_ e h106; replace h107 := so_ e h107; replace h108 := so_ e h108; replace h109 := so_ e h109; replace h110 := so_ e h110; replace h111 := so_ e h111; replace h112 := so_ e h112; replace h113 := so_ e h113; replace h114 := so_ e h114; clear e
            have Y : (execOp a237.eval o5_27_25).run Try.prog w211 = .ok (.value (.bool false)) w211 := by unfold o5_27_25; go_simp
            refine sv_ g5_27_25 Y fun a238 e => ?_; clear Y
            have h116 := pt_ F e; replace F := pu_ F e; replace h91 := so_ e h91; replace h92 := so_ e h92; replace h93 := so_ e h93; replace h94 := so_ e h94; replace h95 := so_ e h95; replace h96 := so_ e h96; replace h97 := so_ e h97; replace h98 := so_ e h98; replace h99 := so_ e h99; replace h100 := so_ e h100; replace h101 := so_ e h101; replace h102 := so_ e h102; replace h103 := so_ e h103; replace h104 := so_ e h104; replace h105 := so_ e h105; replace h106 := so_ e h106; replace h107 := so_ e h107; replace h108 := so_ e h108; replace h109 := so_ e h109; replace h110 := so_ e h110; replace h111 := so_ e h111; replace h112 := so_ e h112; replace h113 := so_ e h113; replace h114 := so_ e h114; replace h115 := so_ e h115; clear e
            refine st_end ?_
            replace h0 := F.of h0; replace h1 := F.of h1; replace h5 := F.of h5; replace h6 := F.of h6; replace h10 := F.of h10; replace h11 := F.of h11; replace h12 := F.of h12; replace h13 := F.of h13; replace h15 := F.of h15; replace h16 := F.of h16; replace h40 := F.of h40; replace h41 := F.of h41; replace h42 := F.of h42; replace h43 := F.of h43; replace h58 := F.of h58; replace h59 := F.of h59; replace h62 := F.of h62; replace h63 := F.of h63; replace h64 := F.of h64; replace h65 := F.of h65; replace h66 := F.of h66; replace h67 := F.of h67; replace h68 := F.of h68; replace h69 := F.of h69; replace h70 := F.of h70; replace h71 := F.of h71; replace h72 := F.of h72; replace h73 := F.of h73; replace h74 := F.of h74; replace h75 := F.of h75; replace h76 := F.of h76; replace h77 := F.of h77; replace h78 := F.of h78; replace h79 := F.of h79; replace h80 := F.of h80; replace h81 := F.of h81; replace h84 := F.of h84; replace h85 := F.of h85; replace h86 := F.of h86; replace h87 := F.of h87; replace h88 := F.of h88; replace h89 := F.of h89; replace h90 := F.of h90; have R := F.r; clear F
            change (c5_99).wp _ _ _ _
            refine wp_cond_false (x := c5_100) (y := Code.skip) (eval_slot h116) ?_
            refine wp_skip ?_
            change (c5_104).wp _ _ _ _
            change (Code.region 29 O5_29 false).wp _ _ _ _
            refine reg_in (l := [0, 1]) rfl ?_
            have F : FE_ _ [] a238 a238 := ⟨R, Ag_.refl _⟩; clear R
            have Y : (execOp a238.eval o5_29_0).run Try.prog w211 = .ok (.value (.int .i64 ((i : Int) + 1))) w211 := by have r64 := F.of h64; have hwj : IntKind.i64.wrap ((i : Int) + 1) = (i : Int) + 1 := (by rw [IntKind.wrap_i64]; have := HLEN.out; omega); unfold o5_29_0; go_simp
            refine sv_ g5_29_0 Y fun a239 e => ?_; clear Y
            have h117 := pt_ F e; replace F := pu_ F e; clear e
            refine sv_ g5_29_1 (ym_ rfl h117) fun a240 e => ?_
            clear h64; have h64 := pt_ F e; replace F := pu_ F e; replace h117 := so_ e h117; clear e
            refine st_end ?_
            replace h0 := F.of h0; replace h1 := F.of h1; replace h5 := F.of h5; replace h6 := F.of h6; replace h10 := F.of h10; replace h11 := F.of h11; replace h12 := F.of h12; replace h13 := F.of h13; replace h15 := F.of h15; replace h16 := F.of h16; replace h40 := F.of h40; replace h41 := F.of h41; replace h42 := F.of h42; replace h43 := F.of h43; replace h58 := F.of h58; replace h59 := F.of h59; replace h62 := F.of h62; replace h63 := F.of h63; replace h65 := F.of h65; replace h66 := F.of h66; replace h67 := F.of h67; replace h68 := F.of h68; replace h69 := F.of h69; replace h70 := F.of h70; replace h71 := F.of h71; replace h72 := F.of h72; replace h73 := F.of h73; replace h74 := F.of h74; replace h75 := F.of h75; replace h76 := F.of h76; replace h77 := F.of h77; replace h78 := F.of h78; replace h79 := F.of h79; replace h80 := F.of h80; replace h81 := F.of h81; replace h84 := F.of h84; replace h85 := F.of h85; replace h86 := F.of h86; replace h87 := F.of h87; replace h88 := F.of h88; replace h89 := F.of h89; replace h90 := F.of h90; replace h91 := F.of h91; replace h92 := F.of h92; replace h93 := F.of h93; replace h94 := F.of h94; replace h95 := F.of h95; replace h96 := F.of h96; replace h97 := F.of h97; replace h98 := F.of h98; replace h99 := F.of h99; replace h100 := F.of h100; replace h101 := F.of h101; replace h102 := F.of h102; replace h103 := F.of h103; replace h104 := F.of h104; replace h105 := F.of h105; replace h106 := F.of h106; replace h107 := F.of h107; replace h108 := F.of h108; replace h109 := F.of h109; replace h110 := F.of h110; replace h111 := F.of h111; replace h112 := F.of h112; replace h113 := F.of h113; replace h114 := F.of h114; replace h115 := F.of h115; replace h116 := F.of h116; have R := F.r; clear F
            have HPR := Lib.hid (HPO.out.on KP); clear HPO KP; have HPO := HPR; clear HPR
            clear B208
            exact ⟨_, by omega, i + 1, _, _, rfl, R, h0, h1, h5, h6, h10, h40, h41, h42, h43, h58, h59, h62, h63, h64, K1, (by omega), HPO, (Lib.hid HPN.out)⟩
      ·
        refine reg_in (l := [0, 1, 2]) rfl ?_
        have F : FE_ _ [] a115 a115 := ⟨R, Ag_.refl _⟩; clear R
        refine sv_ g5_18_0 (ym_ rfl (F.of h0)) fun a241 e => ?_
        have h62 := pt_ F e; replace F := pu_ F e; clear e
        have Y : (execOp a241.eval o5_18_1).run Try.prog w111 = .ok (.value (.int .i64 ns.length)) w111 := by unfold o5_18_1; go_simp
        refine sv_ g5_18_1 Y fun a242 e => ?_; clear Y
        have h63 := pt_ F e; replace F := pu_ F e; replace h62 := so_ e h62; clear e
        have Y : (execOp a242.eval o5_18_2).run Try.prog w111 = .ok (.value (.int .i64 0)) w111 := by unfold o5_18_2; go_simp
        refine sv_ g5_18_2 Y fun a243 e => ?_; clear Y
        have h64 := pt_ F e; replace F := pu_ F e; replace h62 := so_ e h62; replace h63 := so_ e h63; clear e
        refine st_end ?_
        replace h0 := F.of h0; replace h1 := F.of h1; replace h5 := F.of h5; replace h6 := F.of h6; replace h10 := F.of h10; replace h40 := F.of h40; replace h41 := F.of h41; replace h42 := F.of h42; replace h43 := F.of h43; replace h58 := F.of h58; replace h59 := F.of h59; have R := F.r; clear F
        change (c5_67).wp _ _ _ _
        refine wp_block (id := 4) (c := c5_68) ?_
        have HPR := Lib.hid (HPO.out.on KP); clear HPO KP; have HPO := HPR; clear HPR
        refine wp_loop_ghost (c := c5_69) (fun n fX wX => ∃ i : Nat, ∃ vq : Value, ∃ ps : List TP, n = ns.length - i ∧ FrS 145 fX ∧ fX.tmps[0]? = some (.slice na ns.length nc) ∧ fX.tmps[1]? = some (.int .i64 want) ∧ fX.tmps[5]? = some (.pointer (some ⟨pa, 0, none⟩)) ∧ fX.tmps[6]? = some (.int .i64 1) ∧ fX.tmps[10]? = some (.int .i64 1) ∧ fX.tmps[40]? = some (.slice na ns.length nc) ∧ fX.tmps[41]? = some (.int .i64 ns.length) ∧ fX.tmps[42]? = some (.int .i64 (j : Int)) ∧ fX.tmps[43]? = some (.bool false) ∧ fX.tmps[58]? = some (.int .i64 1) ∧ fX.tmps[59]? = some (.bool true) ∧ fX.tmps[62]? = some (.slice na ns.length nc) ∧ fX.tmps[63]? = some (.int .i64 ns.length) ∧ fX.tmps[64]? = some (.int .i64 (i : Int)) ∧ Keep (fun g => g < W.heap.size) W wX ∧ i ≤ ns.length ∧ Hid (OneQ BB Rq wX pa mb 64 ps gq vq) ∧ Hid (ps.map (·.1) = (rem1 ns want i).map (km ns))) (ns.length - 0) ⟨0, _, _, rfl, R, h0, h1, h5, h6, h10, h40, h41, h42, h43, h58, h59, h62, h63, h64, K1, Nat.zero_le _, HPO, (Lib.hid (by rw [HPS.out]; rfl))⟩ ?_
        clear R h0 h1 h5 h6 h10 h40 h41 h42 h43 h58 h59 h62 h63 h64 K1
        rintro n246 a244 w245 ⟨i, vq, ps, rfl, R, h0, h1, h5, h6, h10, h40, h41, h42, h43, h58, h59, h62, h63, h64, K1, hi, HPO, HPS⟩
        have KP := Keep.refl (fun g => g < w245.heap.size) w245
        refine wp_seq (x := c5_70) (y := c5_71) ?_
        change (Code.region 19 O5_19 false).wp _ _ _ _
        refine reg_in (l := [0]) rfl ?_
        have F : FE_ _ [] a244 a244 := ⟨R, Ag_.refl _⟩; clear R
        obtain ⟨b247, hb247⟩ : ∃ x, (decide ((i : Int) < (ns.length : Int))) = x := ⟨_, rfl⟩
        have Y : (execOp a244.eval o5_19_0).run Try.prog w245 = .ok (.value (.bool b247)) w245 := by have r63 := F.of h63; have r64 := F.of h64; rw [← hb247]; unfold o5_19_0; go_simp
        refine sv_ g5_19_0 Y fun a248 e => ?_; clear Y
        have h65 := pt_ F e; replace F := pu_ F e; clear e
        refine st_end ?_
        replace h0 := F.of h0; replace h1 := F.of h1; replace h5 := F.of h5; replace h6 := F.of h6; replace h10 := F.of h10; replace h40 := F.of h40; replace h41 := F.of h41; replace h42 := F.of h42; replace h43 := F.of h43; replace h58 := F.of h58; replace h59 := F.of h59; replace h62 := F.of h62; replace h63 := F.of h63; replace h64 := F.of h64; have R := F.r; clear F
        change (c5_71).wp _ _ _ _
        refine wp_seq (x := c5_72) (y := c5_75) ?_
        cases b247 with
        | false =>
          have fb247 := hb247; clear hb247
          simp only [decide_eq_true_eq, decide_eq_false_iff_not, bne_iff_ne, bne_eq_false_iff_eq, beq_iff_eq, beq_eq_false_iff_ne, ne_eq, Bool.not_eq_true', Bool.not_eq_false', Bool.not_eq_eq_eq_not, Bool.not_true, Bool.not_false] at fb247
          refine wp_cond_false (x := Code.skip) (y := c5_74) (eval_slot h65) ?_
          refine wp_exit ?_
          change (c5_105).wp _ _ _ _
          refine wp_seq (x := c5_106) (y := c5_107) ?_
          change (Code.region 30 O5_30 false).wp _ _ _ _
          refine reg_in (l := [0, 1]) rfl ?_
          have F : FE_ _ [] a248 a248 := ⟨R, Ag_.refl _⟩; clear R
          refine sv_ g5_30_0 (ym_ rfl (F.of h10)) fun a249 e => ?_
          have h118 := pt_ F e; replace F := pu_ F e; clear e
          have Y : (execOp a249.eval o5_30_1).run Try.prog w245 = .ok (.value (.bool false)) w245 := by unfold o5_30_1; go_simp
          refine sv_ g5_30_1 Y fun a250 e => ?_; clear Y
          have h119 := pt_ F e; replace F := pu_ F e; replace h118 := so_ e h118; clear e
          refine st_end ?_
          replace h0 := F.of h0; replace h1 := F.of h1; replace h5 := F.of h5; replace h6 := F.of h6; replace h10 := F.of h10; replace h40 := F.of h40; replace h41 := F.of h41; replace h42 := F.of h42; replace h43 := F.of h43; replace h58 := F.of h58; replace h59 := F.of h59; replace h62 := F.of h62; replace h63 := F.of h63; replace h64 := F.of h64; replace h65 := F.of h65; have R := F.r; clear F
          change (c5_107).wp _ _ _ _
          refine wp_cond_false (x := c5_108) (y := Code.skip) (eval_slot h119) ?_
          refine wp_skip ?_
          change (c5_118).wp _ _ _ _
          change (Code.region 17 O5_17 false).wp _ _ _ _
          refine reg_in (l := [0, 1, 2]) rfl ?_
          have F : FE_ _ [] a250 a250 := ⟨R, Ag_.refl _⟩; clear R
          refine sv_ g5_17_0 (ym_ rfl (F.of h10)) fun a251 e => ?_
          have h60 := pt_ F e; replace F := pu_ F e; clear e
          have Y : (execOp a251.eval o5_17_1).run Try.prog w245 = .ok (.value (.int .i64 2)) w245 := by have hwr : IntKind.i64.wrap (2) = 2 := (by decide); unfold o5_17_1; go_simp
          refine sv_ g5_17_1 Y fun a252 e => ?_; clear Y
          have h61 := pt_ F e; replace F := pu_ F e; replace h60 := so_ e h60; clear e
          refine sv_ g5_17_2 (ya_ rfl h61) fun a253 e => ?_
          clear h10; have h10 := pt_ F e; replace F := pu_ F e; replace h60 := so_ e h60; replace h61 := so_ e h61; clear e
          refine st_end ?_
          replace h0 := F.of h0; replace h1 := F.of h1; replace h5 := F.of h5; replace h6 := F.of h6; replace h40 := F.of h40; replace h41 := F.of h41; replace h42 := F.of h42; replace h43 := F.of h43; replace h58 := F.of h58; replace h59 := F.of h59; replace h62 := F.of h62; replace h63 := F.of h63; replace h64 := F.of h64; replace h65 := F.of h65; replace h118 := F.of h118; replace h119 := F.of h119; have R := F.r; clear F
          have HPR := Lib.hid (HPO.out.on KP); clear HPO KP; have HPO := HPR; clear HPR
          exact ⟨_, by omega, 2, _, _, _, rfl, R, h0, h1, h5, h6, h10, h40, h41, h42, h43, K1, (by decide), (by decide), HPO, (Lib.hid (by rw [HPS.out, rem1_all (by omega)]; rfl))⟩
        | true =>
          have fb247 := hb247; clear hb247
          simp only [decide_eq_true_eq, decide_eq_false_iff_not, bne_iff_ne, bne_eq_false_iff_eq, beq_iff_eq, beq_eq_false_iff_ne, ne_eq, Bool.not_eq_true', Bool.not_eq_false', Bool.not_eq_eq_eq_not, Bool.not_true, Bool.not_false] at fb247
          refine wp_cond_true (x := Code.skip) (y := c5_74) (eval_slot h65) ?_
          refine wp_skip ?_
          change (c5_75).wp _ _ _ _
          refine wp_seq (x := c5_76) (y := c5_104) ?_
          refine wp_block (id := 5) (c := c5_77) ?_
          refine wp_seq (x := c5_78) (y := c5_79) ?_
          change (Code.region 20 O5_20 false).wp _ _ _ _
          refine reg_in (l := [0, 1, 2, 3, 4]) rfl ?_
          have F : FE_ _ [] a248 a248 := ⟨R, Ag_.refl _⟩; clear R
          refine sv_ g5_20_0 (ym_ rfl (F.of h64)) fun a254 e => ?_
          have h66 := pt_ F e; replace F := pu_ F e; clear e
          obtain ⟨bN, oN, hna, hbn, hcl⟩ := HNS.out i (by omega)
          obtain ⟨nj, hnj⟩ : ∃ q, ns.getD i 0 = q := ⟨_, rfl⟩; rw [hnj] at hcl; have HNJ := Lib.hid hnj; clear hnj
          have HKM : Hid (km ns i = kt nj i) := Lib.hid (by unfold km; rw [HNJ.out])
          have HWJ : (ik nj).wf = true := by rw [← HNJ.out, List.getD_eq_getElem?_getD, List.getElem?_eq_getElem (show i < ns.length by omega)]; exact HWF.out _ (List.getElem_mem _)
          have hltA : (i : Int) < (ns.length : Int) := by omega
          have HNA := Lib.hid hna; clear hna; have HCL := Lib.hid hcl; clear hcl
          have Y : (execOp a254.eval o5_20_1).run Try.prog w245 = .ok (.value (.pointer (some ⟨bN, oN + i, none⟩))) w245 := by have r62 := F.of h62; have r64 := F.of h64; have hA := HNA.out; unfold o5_20_1; go_simp
          refine sv_ g5_20_1 Y fun a255 e => ?_; clear Y
          have h67 := pt_ F e; replace F := pu_ F e; replace h66 := so_ e h66; clear e
          have Y : (execOp a255.eval o5_20_2).run Try.prog w245 = .ok (.value (.int .i64 nj)) w245 := by have c0 := cell_on HCL.out K1; unfold o5_20_2; go_simp
          refine sv_ g5_20_2 Y fun a256 e => ?_; clear Y
          have h68 := pt_ F e; replace F := pu_ F e; replace h66 := so_ e h66; replace h67 := so_ e h67; clear e
          refine sv_ g5_20_3 (ya_ rfl h66) fun a257 e => ?_
          have h11 := pt_ F e; replace F := pu_ F e; replace h66 := so_ e h66; replace h67 := so_ e h67; replace h68 := so_ e h68; clear e
          refine sv_ g5_20_4 (ya_ rfl h68) fun a258 e => ?_
          have h12 := pt_ F e; replace F := pu_ F e; replace h11 := so_ e h11; replace h66 := so_ e h66; replace h67 := so_ e h67; replace h68 := so_ e h68; clear e
          refine st_end ?_
          replace h0 := F.of h0; replace h1 := F.of h1; replace h5 := F.of h5; replace h6 := F.of h6; replace h10 := F.of h10; replace h40 := F.of h40; replace h41 := F.of h41; replace h42 := F.of h42; replace h43 := F.of h43; replace h58 := F.of h58; replace h59 := F.of h59; replace h62 := F.of h62; replace h63 := F.of h63; replace h64 := F.of h64; replace h65 := F.of h65; have R := F.r; clear F
          change (c5_79).wp _ _ _ _
          refine wp_seq (x := c5_80) (y := c5_85) ?_
          refine wp_seq (x := c5_81) (y := c5_82) ?_
          change (Code.region 21 O5_21 false).wp _ _ _ _
          refine reg_in (l := [0, 1, 2, 3, 4, 5]) rfl ?_
          have F : FE_ _ [] a258 a258 := ⟨R, Ag_.refl _⟩; clear R
          refine sv_ g5_21_0 (ym_ rfl (F.of h12)) fun a259 e => ?_
          have h69 := pt_ F e; replace F := pu_ F e; clear e
          refine sv_ g5_21_1 (ym_ rfl (F.of h1)) fun a260 e => ?_
          have h70 := pt_ F e; replace F := pu_ F e; replace h69 := so_ e h69; clear e
          obtain ⟨b261, hb261⟩ : ∃ x, (((nj : Int) == (want : Int))) = x := ⟨_, rfl⟩
          have Y : (execOp a260.eval o5_21_2).run Try.prog w245 = .ok (.value (.bool b261)) w245 := by rw [← hb261]; unfold o5_21_2; go_simp
          refine sv_ g5_21_2 Y fun a262 e => ?_; clear Y
          have h71 := pt_ F e; replace F := pu_ F e; replace h69 := so_ e h69; replace h70 := so_ e h70; clear e
          refine sv_ g5_21_3 (ym_ rfl (F.of h10)) fun a263 e => ?_
          have h72 := pt_ F e; replace F := pu_ F e; replace h69 := so_ e h69; replace h70 := so_ e h70; replace h71 := so_ e h71; clear e
          have Y : (execOp a263.eval o5_21_4).run Try.prog w245 = .ok (.value (.bool false)) w245 := by unfold o5_21_4; go_simp
          refine sv_ g5_21_4 Y fun a264 e => ?_; clear Y
          have h73 := pt_ F e; replace F := pu_ F e; replace h69 := so_ e h69; replace h70 := so_ e h70; replace h71 := so_ e h71; replace h72 := so_ e h72; clear e
          cases b261 with
          | false =>
            have HEQ : Hid (¬ nj = want) := Lib.hid (by simpa using hb261); clear hb261
            have Y : (execOp a264.eval o5_21_5).run Try.prog w245 = .ok (.value (.bool false)) w245 := by unfold o5_21_5; go_simp
            refine sv_ g5_21_5 Y fun a265 e => ?_; clear Y
            have h74 := pt_ F e; replace F := pu_ F e; replace h69 := so_ e h69; replace h70 := so_ e h70; replace h71 := so_ e h71; replace h72 := so_ e h72; replace h73 := so_ e h73; clear e
            refine st_end ?_
            replace h0 := F.of h0; replace h1 := F.of h1; replace h5 := F.of h5; replace h6 := F.of h6; replace h10 := F.of h10; replace h11 := F.of h11; replace h12 := F.of h12; replace h40 := F.of h40; replace h41 := F.of h41; replace h42 := F.of h42; replace h43 := F.of h43; replace h58 := F.of h58; replace h59 := F.of h59; replace h62 := F.of h62; replace h63 := F.of h63; replace h64 := F.of h64; replace h65 := F.of h65; replace h66 := F.of h66; replace h67 := F.of h67; replace h68 := F.of h68; have R := F.r; clear F
            change (c5_82).wp _ _ _ _
            refine wp_cond_false (x := c5_83) (y := Code.skip) (eval_slot h74) ?_
            refine wp_skip ?_
            change (c5_85).wp _ _ _ _
            refine wp_seq (x := c5_86) (y := c5_87) ?_
            change (Code.region 22 O5_22 false).wp _ _ _ _
            refine reg_in (l := [0, 1, 2, 3, 4, 5, 6]) rfl ?_
            have F : FE_ _ [] a265 a265 := ⟨R, Ag_.refl _⟩; clear R
            refine sv_ g5_22_0 (ym_ rfl (F.of h1)) fun a266 e => ?_
            have h75 := pt_ F e; replace F := pu_ F e; clear e
            have hc : Calls Try.prog 31 #[.int .i64 want] w245 (fun e w' => e = .returned (.agg #[.int .i64 2, .string (⟨#[]⟩), .int .i64 want, .slice none 0 0]) ∧ Keep (fun g => g < w245.heap.size) w245 w') := refN_any w245 want
            refine st_call g5_22_1 rfl (wanted_free rfl) (yc1_ en5_31 rfl h75) ((hc).mono ?_)
            rintro e9 w267 ⟨rfl, kk⟩
            replace K1 := keep_onto K1 kk
            replace KP := keep_onto KP kk
            clear hc
            clear kk
            refine ⟨_, rfl, fun a268 e => ?_⟩
            have h76 := pt_ F e; replace F := pu_ F e; replace h75 := so_ e h75; clear e
            have Y : (execOp a268.eval o5_22_2).run Try.prog w267 = .ok (.enter 26 #[.int .i64 9]) w267 := by unfold o5_22_2; go_simp
            have hc : Calls Try.prog 26 #[.int .i64 9] w267 (fun e w' => e = .returned (.agg #[.int .i64 1, .string (⟨#[]⟩), .int .i64 9, .slice none 0 0]) ∧ Keep (fun g => g < w267.heap.size) w267 w') := refV_any w267 9
            refine st_call g5_22_2 rfl (wanted_free rfl) Y ((hc).mono ?_); clear Y
            rintro e9 w269 ⟨rfl, kk⟩
            replace K1 := keep_onto K1 kk
            replace KP := keep_onto KP kk
            clear hc
            clear kk
            refine ⟨_, rfl, fun a270 e => ?_⟩
            have h77 := pt_ F e; replace F := pu_ F e; replace h75 := so_ e h75; replace h76 := so_ e h76; clear e
            have Y : (execOp a270.eval o5_22_3).run Try.prog w269 = .ok (.value (.slice (some ⟨w269.heap.size, 0, none⟩) 2 2)) (w269.alloc (.cells #[.int .i64 2, .string (⟨#[]⟩), .int .i64 want, .slice none 0 0, .int .i64 1, .string (⟨#[]⟩), .int .i64 9, .slice none 0 0] 24)) := by unfold o5_22_3; go_simp
            have B271 := Blk.new w269 24 #[.int .i64 2, .string (⟨#[]⟩), .int .i64 want, .slice none 0 0, .int .i64 1, .string (⟨#[]⟩), .int .i64 9, .slice none 0 0]
            obtain ⟨w272, hw⟩ : ∃ x, x = w269.alloc (.cells #[.int .i64 2, .string (⟨#[]⟩), .int .i64 want, .slice none 0 0, .int .i64 1, .string (⟨#[]⟩), .int .i64 9, .slice none 0 0] 24) := ⟨_, rfl⟩; rw [← hw] at Y B271
            obtain ⟨b271, hb⟩ : ∃ x, x = w269.heap.size := ⟨_, rfl⟩; rw [← hb] at Y B271
            have LK1_b271 := lk_ hb K1; replace K1 := ka_ hw K1; have LKP_b271 := lk_ hb KP; replace KP := ka_ hw KP; clear hw hb
            refine sv_ g5_22_3 Y fun a273 e => ?_; clear Y
            have h78 := pt_ F e; replace F := pu_ F e; replace h75 := so_ e h75; replace h76 := so_ e h76; replace h77 := so_ e h77; clear e
            have Y : (execOp a273.eval o5_22_4).run Try.prog w272 = .ok (.enter 30 #[.string (⟨#[107]⟩), .slice (some ⟨b271, 0, none⟩) 2 2]) w272 := by unfold o5_22_4; go_simp
            have hc : Calls Try.prog 30 #[.string (⟨#[107]⟩), .slice (some ⟨b271, 0, none⟩) 2 2] w272 (fun e w' => e = .returned (.agg #[.int .i64 4, .string (⟨#[107]⟩), .int .i64 0, .slice (some ⟨b271, 0, none⟩) 2 2]) ∧ Keep (fun g => g < w272.heap.size) w272 w') := refC_any w272 [107] [.node 2 [] want [], .node 1 [] 9 []] (some ⟨b271, 0, none⟩) 2
            refine st_call g5_22_4 rfl (wanted_free rfl) Y ((hc).mono ?_); clear Y
            rintro e9 w274 ⟨rfl, kk⟩
            replace K1 := keep_onto K1 kk
            replace KP := keep_onto KP kk
            replace B271 := blk_on B271 kk
            clear hc
            clear kk
            refine ⟨_, rfl, fun a275 e => ?_⟩
            have h79 := pt_ F e; replace F := pu_ F e; replace h75 := so_ e h75; replace h76 := so_ e h76; replace h77 := so_ e h77; replace h78 := so_ e h78; clear e
            have Y : (execOp a275.eval o5_22_5).run Try.prog w274 = .ok (.value (.pointer (some ⟨w274.heap.size, 0, none⟩))) (w274.alloc (.cells #[.int .i64 0, .string (⟨#[]⟩), .int .i64 0, .slice none 0 0] 24)) := by unfold o5_22_5; go_simp
            have B276 := Blk.new w274 24 #[.int .i64 0, .string (⟨#[]⟩), .int .i64 0, .slice none 0 0]
            obtain ⟨w277, hw⟩ : ∃ x, x = w274.alloc (.cells #[.int .i64 0, .string (⟨#[]⟩), .int .i64 0, .slice none 0 0] 24) := ⟨_, rfl⟩; rw [← hw] at Y B276
            obtain ⟨b276, hb⟩ : ∃ x, x = w274.heap.size := ⟨_, rfl⟩; rw [← hb] at Y B276
            have Nb271_b276 := nb_ hb B271; replace B271 := ba_ hw B271; have LK1_b276 := lk_ hb K1; replace K1 := ka_ hw K1; have LKP_b276 := lk_ hb KP; replace KP := ka_ hw KP; clear hw hb
            refine sv_ g5_22_5 Y fun a278 e => ?_; clear Y
            have h13 := pt_ F e; replace F := pu_ F e; replace h75 := so_ e h75; replace h76 := so_ e h76; replace h77 := so_ e h77; replace h78 := so_ e h78; replace h79 := so_ e h79; clear e
            obtain ⟨w279, Y, hk, hB⟩ := ys4_ (o := o5_22_6) rfl h13 h79 B276
            replace K1 := kx_ hk K1 (Nat.not_lt.2 LK1_b276); replace KP := kx_ hk KP (Nat.not_lt.2 LKP_b276); replace B271 := bx_ hk B271 Nb271_b276; clear B276; have B276 := hB; clear hB hk
            refine st_skip g5_22_6 rfl (wanted_free rfl) Y ?_; clear Y
            refine st_end ?_
            replace h0 := F.of h0; replace h1 := F.of h1; replace h5 := F.of h5; replace h6 := F.of h6; replace h10 := F.of h10; replace h11 := F.of h11; replace h12 := F.of h12; replace h40 := F.of h40; replace h41 := F.of h41; replace h42 := F.of h42; replace h43 := F.of h43; replace h58 := F.of h58; replace h59 := F.of h59; replace h62 := F.of h62; replace h63 := F.of h63; replace h64 := F.of h64; replace h65 := F.of h65; replace h66 := F.of h66; replace h67 := F.of h67; replace h68 := F.of h68; replace h69 := F.of h69; replace h70 := F.of h70; replace h71 := F.of h71; replace h72 := F.of h72; replace h73 := F.of h73; replace h74 := F.of h74; have R := F.r; clear F
            change (c5_87).wp _ _ _ _
            refine wp_seq (x := c5_88) (y := c5_95) ?_
            refine wp_seq (x := c5_89) (y := c5_90) ?_
            change (Code.region 23 O5_23 false).wp _ _ _ _
            refine reg_in (l := [0, 1]) rfl ?_
            have F : FE_ _ [] a278 a278 := ⟨R, Ag_.refl _⟩; clear R
            refine sv_ g5_23_0 (ym_ rfl (F.of h10)) fun a280 e => ?_
            have h80 := pt_ F e; replace F := pu_ F e; clear e
            have Y : (execOp a280.eval o5_23_1).run Try.prog w279 = .ok (.value (.bool true)) w279 := by unfold o5_23_1; go_simp
            refine sv_ g5_23_1 Y fun a281 e => ?_; clear Y
            have h81 := pt_ F e; replace F := pu_ F e; replace h80 := so_ e h80; clear e
            refine st_end ?_
            replace h0 := F.of h0; replace h1 := F.of h1; replace h5 := F.of h5; replace h6 := F.of h6; replace h10 := F.of h10; replace h11 := F.of h11; replace h12 := F.of h12; replace h13 := F.of h13; replace h40 := F.of h40; replace h41 := F.of h41; replace h42 := F.of h42; replace h43 := F.of h43; replace h58 := F.of h58; replace h59 := F.of h59; replace h62 := F.of h62; replace h63 := F.of h63; replace h64 := F.of h64; replace h65 := F.of h65; replace h66 := F.of h66; replace h67 := F.of h67; replace h68 := F.of h68; replace h69 := F.of h69; replace h70 := F.of h70; replace h71 := F.of h71; replace h72 := F.of h72; replace h73 := F.of h73; replace h74 := F.of h74; replace h75 := F.of h75; replace h76 := F.of h76; replace h77 := F.of h77; replace h78 := F.of h78; replace h79 := F.of h79; have R := F.r; clear F
            change (c5_90).wp _ _ _ _
            refine wp_cond_true (x := c5_91) (y := Code.skip) (eval_slot h81) ?_
            refine wp_seq (x := c5_92) (y := c5_93) ?_
            change (Code.region 24 O5_24 false).wp _ _ _ _
            refine reg_in (l := [0, 1, 2]) rfl ?_
            have F : FE_ _ [] a281 a281 := ⟨R, Ag_.refl _⟩; clear R
            have Y : (execOp a281.eval o5_24_0).run Try.prog w279 = .ok (.enter 26 #[.int .i64 3]) w279 := by unfold o5_24_0; go_simp
            have hc : Calls Try.prog 26 #[.int .i64 3] w279 (fun e w' => e = .returned (.agg #[.int .i64 1, .string (⟨#[]⟩), .int .i64 3, .slice none 0 0]) ∧ Keep (fun g => g < w279.heap.size) w279 w') := refV_any w279 3
            refine st_call g5_24_0 rfl (wanted_free rfl) Y ((hc).mono ?_); clear Y
            rintro e9 w282 ⟨rfl, kk⟩
            replace K1 := keep_onto K1 kk
            replace KP := keep_onto KP kk
            replace B271 := blk_on B271 kk
            replace B276 := blk_on B276 kk
            clear hc
            clear kk
            refine ⟨_, rfl, fun a283 e => ?_⟩
            have h82 := pt_ F e; replace F := pu_ F e; clear e
            have Y : (execOp a283.eval o5_24_1).run Try.prog w282 = .ok (.value (.pointer (some ⟨w282.heap.size, 0, none⟩))) (w282.alloc (.cells #[.int .i64 0, .string (⟨#[]⟩), .int .i64 0, .slice none 0 0] 24)) := by unfold o5_24_1; go_simp
            have B284 := Blk.new w282 24 #[.int .i64 0, .string (⟨#[]⟩), .int .i64 0, .slice none 0 0]
            obtain ⟨w285, hw⟩ : ∃ x, x = w282.alloc (.cells #[.int .i64 0, .string (⟨#[]⟩), .int .i64 0, .slice none 0 0] 24) := ⟨_, rfl⟩; rw [← hw] at Y B284
            obtain ⟨b284, hb⟩ : ∃ x, x = w282.heap.size := ⟨_, rfl⟩; rw [← hb] at Y B284
            have Nb271_b284 := nb_ hb B271; replace B271 := ba_ hw B271; have Nb276_b284 := nb_ hb B276; replace B276 := ba_ hw B276; have LK1_b284 := lk_ hb K1; replace K1 := ka_ hw K1; have LKP_b284 := lk_ hb KP; replace KP := ka_ hw KP; clear hw hb
            refine sv_ g5_24_1 Y fun a286 e => ?_; clear Y
            have h14 := pt_ F e; replace F := pu_ F e; replace h82 := so_ e h82; clear e
            obtain ⟨w287, Y, hk, hB⟩ := ys4_ (o := o5_24_2) rfl h14 h82 B284
            replace K1 := kx_ hk K1 (Nat.not_lt.2 LK1_b284); replace KP := kx_ hk KP (Nat.not_lt.2 LKP_b284); replace B271 := bx_ hk B271 Nb271_b284; replace B276 := bx_ hk B276 Nb276_b284; clear B284; have B284 := hB; clear hB hk
            refine st_skip g5_24_2 rfl (wanted_free rfl) Y ?_; clear Y
            refine st_end ?_
            replace h0 := F.of h0; replace h1 := F.of h1; replace h5 := F.of h5; replace h6 := F.of h6; replace h10 := F.of h10; replace h11 := F.of h11; replace h12 := F.of h12; replace h13 := F.of h13; replace h40 := F.of h40; replace h41 := F.of h41; replace h42 := F.of h42; replace h43 := F.of h43; replace h58 := F.of h58; replace h59 := F.of h59; replace h62 := F.of h62; replace h63 := F.of h63; replace h64 := F.of h64; replace h65 := F.of h65; replace h66 := F.of h66; replace h67 := F.of h67; replace h68 := F.of h68; replace h69 := F.of h69; replace h70 := F.of h70; replace h71 := F.of h71; replace h72 := F.of h72; replace h73 := F.of h73; replace h74 := F.of h74; replace h75 := F.of h75; replace h76 := F.of h76; replace h77 := F.of h77; replace h78 := F.of h78; replace h79 := F.of h79; replace h80 := F.of h80; replace h81 := F.of h81; have R := F.r; clear F
            change (c5_93).wp _ _ _ _
            change (Code.region 25 O5_25 false).wp _ _ _ _
            refine reg_in (l := [0, 1]) rfl ?_
            have F : FE_ _ [] a286 a286 := ⟨R, Ag_.refl _⟩; clear R
            refine sv_ g5_25_0 (yl4_ rfl (F.of h14) B284) fun a288 e => ?_
            have h83 := pt_ F e; replace F := pu_ F e; clear e
            obtain ⟨w289, Y, hk, hB⟩ := ys4_ (o := o5_25_1) rfl (F.of h13) h83 B276
            replace K1 := kx_ hk K1 (Nat.not_lt.2 LK1_b276); replace KP := kx_ hk KP (Nat.not_lt.2 LKP_b276); replace B271 := bx_ hk B271 Nb271_b276; replace B284 := bx_ hk B284 (Ne.symm Nb276_b284); clear B276; have B276 := hB; clear hB hk
            refine st_skip g5_25_1 rfl (wanted_free rfl) Y ?_; clear Y
            refine st_end ?_
            replace h0 := F.of h0; replace h1 := F.of h1; replace h5 := F.of h5; replace h6 := F.of h6; replace h10 := F.of h10; replace h11 := F.of h11; replace h12 := F.of h12; replace h13 := F.of h13; replace h14 := F.of h14; replace h40 := F.of h40; replace h41 := F.of h41; replace h42 := F.of h42; replace h43 := F.of h43; replace h58 := F.of h58; replace h59 := F.of h59; replace h62 := F.of h62; replace h63 := F.of h63; replace h64 := F.of h64; replace h65 := F.of h65; replace h66 := F.of h66; replace h67 := F.of h67; replace h68 := F.of h68; replace h69 := F.of h69; replace h70 := F.of h70; replace h71 := F.of h71; replace h72 := F.of h72; replace h73 := F.of h73; replace h74 := F.of h74; replace h75 := F.of h75; replace h76 := F.of h76; replace h77 := F.of h77; replace h78 := F.of h78; replace h79 := F.of h79; replace h80 := F.of h80; replace h81 := F.of h81; replace h82 := F.of h82; have R := F.r; clear F
            change (c5_95).wp _ _ _ _
            refine wp_seq (x := c5_96) (y := c5_97) ?_
            change (Code.region 26 O5_26 false).wp _ _ _ _
            refine reg_in (l := [0, 1, 2, 3, 4, 5, 6, 7, 8, 9]) rfl ?_
            have F : FE_ _ [] a288 a288 := ⟨R, Ag_.refl _⟩; clear R
            refine sv_ g5_26_0 (ym_ rfl (F.of h5)) fun a290 e => ?_
            have h85 := pt_ F e; replace F := pu_ F e; clear e
            refine sv_ g5_26_1 (ym_ rfl (F.of h6)) fun a291 e => ?_
            have h86 := pt_ F e; replace F := pu_ F e; replace h85 := so_ e h85; clear e
            refine sv_ g5_26_2 (yl4_ rfl (F.of h13) B276) fun a292 e => ?_
            have h87 := pt_ F e; replace F := pu_ F e; replace h85 := so_ e h85; replace h86 := so_ e h86; clear e
            have Y : (execOp a292.eval o5_26_3).run Try.prog w289 = .ok (.enter 27 #[.pointer (some ⟨pa, 0, none⟩), .int .i64 1, .agg #[.int .i64 1, .string (⟨#[]⟩), .int .i64 3, .slice none 0 0]]) w289 := by unfold o5_26_3; go_simp
            have he1 := rem1_hit (want := want) (show i < ns.length by omega) (by rw [HNJ.out]; exact HEQ.out)
            have hps := HPS.out; rw [he1] at hps; obtain ⟨ap, cp, hp, -, hps2⟩ := nth_of (A := []) hps; rw [HKM.out] at hp; simp only [List.length_nil, List.nil_append] at hp hps2
            have hcall : Calls Try.prog 27 #[.pointer (some ⟨pa, 0, none⟩), .int .i64 1, .agg #[.int .i64 1, .string (⟨#[]⟩), .int .i64 3, .slice none 0 0]] w289 (fun e w' => ∃ v' : Value, e = .returned (.tuple #[.agg #[.int .i64 4, .string ⟨#[107]⟩, .int .i64 0, .slice ap 2 cp], .int .i64 0]) ∧ OneQ BB Rq w' pa mb 64 (ps.eraseIdx 0) gq v' ∧ Fr 0 Rq w' BB w'.heap.size (kt nj i) ap cp ∧ Keep (fun b => b < BB) w289 w') := Calls.mono (get1_yes (t := .node 1 [] 3 []) (j := 0) (p := (kt nj i, ap, cp)) (HPO.out.on KP) (tm_V (by decide)) (by kernel_rfl) hp (fit_var (HPO.out.msg _ (List.mem_of_getElem? hp)) 3) (fun k x hk => absurd hk (Nat.not_lt_zero _))) fun e w' h => by obtain ⟨v', h1, h2, h3, -, h4, -⟩ := h; exact ⟨v', h1, h2, h3, h4⟩
            clear hp he1 hps
            have HPN := Lib.hid hps2; clear hps2
            refine st_call g5_26_3 rfl (wanted_free rfl) Y ((hcall).mono ?_); clear Y
            rintro e9 w293 ⟨vq2, rfl, hpo, hfr, kb⟩
            clear B271
            clear B276
            clear B284
            replace K1 := K1.trans (kb.less fun g hg => Nat.lt_of_lt_of_le hg HWB)
            clear KP
            clear hcall kb; have kk := trivial
            clear kk
            clear HPO; have HPO := Lib.hid hpo; clear hpo; have HFR := Lib.hid hfr; clear hfr
            have KP := Keep.refl (fun g => g < w293.heap.size) w293
            obtain ⟨bA, oA, hA, hc0⟩ := kt_at (HFR.out.at_ (Nat.zero_le _)); subst hA; have hc1 := kt_at1 (HFR.out.at_ (Nat.zero_le _)); have HC0 := Lib.hid hc0; have HC1 := Lib.hid hc1; clear hc0 hc1 HFR
            have KG := Keep.refl (fun g => g < w293.heap.size) w293
            refine ⟨_, rfl, fun a294 e => ?_⟩
            have h88 := pt_ F e; replace F := pu_ F e; replace h85 := so_ e h85; replace h86 := so_ e h86; replace h87 := so_ e h87; clear e
            refine sv_ g5_26_4 (ym_ rfl h88) fun a295 e => ?_
            have h84 := pt_ F e; replace F := pu_ F e; replace h85 := so_ e h85; replace h86 := so_ e h86; replace h87 := so_ e h87; replace h88 := so_ e h88; clear e
            refine sv_ g5_26_5 (ye20_ rfl h84) fun a296 e => ?_
            have h89 := pt_ F e; replace F := pu_ F e; replace h84 := so_ e h84; replace h85 := so_ e h85; replace h86 := so_ e h86; replace h87 := so_ e h87; replace h88 := so_ e h88; clear e
            refine sv_ g5_26_6 (ye21_ rfl h84) fun a297 e => ?_
            have h90 := pt_ F e; replace F := pu_ F e; replace h84 := so_ e h84; replace h85 := so_ e h85; replace h86 := so_ e h86; replace h87 := so_ e h87; replace h88 := so_ e h88; replace h89 := so_ e h89; clear e
            have Y : (execOp a297.eval o5_26_7).run Try.prog w293 = .ok (.value (.pointer (some ⟨w293.heap.size, 0, none⟩))) (w293.alloc (.cells #[.int .i64 0, .string (⟨#[]⟩), .int .i64 0, .slice none 0 0] 24)) := by unfold o5_26_7; go_simp
            have B298 := Blk.new w293 24 #[.int .i64 0, .string (⟨#[]⟩), .int .i64 0, .slice none 0 0]
            obtain ⟨w299, hw⟩ : ∃ x, x = w293.alloc (.cells #[.int .i64 0, .string (⟨#[]⟩), .int .i64 0, .slice none 0 0] 24) := ⟨_, rfl⟩; rw [← hw] at Y B298
            obtain ⟨b298, hb⟩ : ∃ x, x = w293.heap.size := ⟨_, rfl⟩; rw [← hb] at Y B298
            have LK1_b298 := lk_ hb K1; replace K1 := ka_ hw K1; have LKP_b298 := lk_ hb KP; replace KP := ka_ hw KP; have LKG_b298 := lk_ hb KG; replace KG := ka_ hw KG; clear hw hb
            refine sv_ g5_26_7 Y fun a300 e => ?_; clear Y
            have h15 := pt_ F e; replace F := pu_ F e; replace h84 := so_ e h84; replace h85 := so_ e h85; replace h86 := so_ e h86; replace h87 := so_ e h87; replace h88 := so_ e h88; replace h89 := so_ e h89; replace h90 := so_ e h90; clear e
            obtain ⟨w301, Y, hk, hB⟩ := ys4_ (o := o5_26_8) rfl h15 h89 B298
            replace K1 := kx_ hk K1 (Nat.not_lt.2 LK1_b298); replace KP := kx_ hk KP (Nat.not_lt.2 LKP_b298); replace KG := kx_ hk KG (Nat.not_lt.2 LKG_b298); clear B298; have B298 := hB; clear hB hk
            refine st_skip g5_26_8 rfl (wanted_free rfl) Y ?_; clear Y
            refine sv_ g5_26_9 (ya_ rfl h90) fun a302 e => ?_
            have h16 := pt_ F e; replace F := pu_ F e; replace h15 := so_ e h15; replace h84 := so_ e h84; replace h85 := so_ e h85; replace h86 := so_ e h86; replace h87 := so_ e h87; replace h88 := so_ e h88; replace h89 := so_ e h89; replace h90 := so_ e h90; clear e
            refine st_end ?_
            replace h0 := F.of h0; replace h1 := F.of h1; replace h5 := F.of h5; replace h6 := F.of h6; replace h10 := F.of h10; replace h11 := F.of h11; replace h12 := F.of h12; replace h13 := F.of h13; replace h14 := F.of h14; replace h40 := F.of h40; replace h41 := F.of h41; replace h42 := F.of h42; replace h43 := F.of h43; replace h58 := F.of h58; replace h59 := F.of h59; replace h62 := F.of h62; replace h63 := F.of h63; replace h64 := F.of h64; replace h65 := F.of h65; replace h66 := F.of h66; replace h67 := F.of h67; replace h68 := F.of h68; replace h69 := F.of h69; replace h70 := F.of h70; replace h71 := F.of h71; replace h72 := F.of h72; replace h73 := F.of h73; replace h74 := F.of h74; replace h75 := F.of h75; replace h76 := F.of h76; replace h77 := F.of h77; replace h78 := F.of h78; replace h79 := F.of h79; replace h80 := F.of h80; replace h81 := F.of h81; replace h82 := F.of h82; replace h83 := F.of h83; have R := F.r; clear F
            change (c5_97).wp _ _ _ _
            refine wp_seq (x := c5_98) (y := c5_99) ?_
            change (Code.region 27 O5_27 false).wp _ _ _ _
            refine reg_in (l := [0, 1, 2, 3, 4, 5, 6, 7, 8, 9, 10, 11, 12, 13, 14, 15, 16, 17, 18, 19, 20, 21, 22, 23, 24, 25]) rfl ?_
            have F : FE_ _ [] a302 a302 := ⟨R, Ag_.refl _⟩; clear R
            refine sv_ g5_27_0 (ym_ rfl (F.of h16)) fun a303 e => ?_
            have h91 := pt_ F e; replace F := pu_ F e; clear e
            have Y : (execOp a303.eval o5_27_1).run Try.prog w301 = .ok (.value (.bool false)) w301 := by unfold o5_27_1; go_simp
            refine sv_ g5_27_1 Y fun a304 e => ?_; clear Y
            have h92 := pt_ F e; replace F := pu_ F e; replace h91 := so_ e h91; clear e
            refine sv_ g5_27_2 (ym_ rfl h92) fun a305 e => ?_
            have h93 := pt_ F e; replace F := pu_ F e; replace h91 := so_ e h91; replace h92 := so_ e h92; clear e
            refine st_val g5_27_3 rfl (wanted_is (j := 2) (d := 93) rfl rfl h93 rfl) (yf3_ rfl (F.of h15)) fun a306 e => ?_
            have h94 := pt_ F e; replace F := pu_ F e; replace h91 := so_ e h91; replace h92 := so_ e h92; replace h93 := so_ e h93; clear e
            refine st_val g5_27_4 rfl (wanted_is (j := 2) (d := 93) rfl rfl h93 rfl) (yk3_ rfl h94 B298) fun a307 e => ?_
            have h95 := pt_ F e; replace F := pu_ F e; replace h91 := so_ e h91; replace h92 := so_ e h92; replace h93 := so_ e h93; replace h94 := so_ e h94; clear e
            have Y : (execOp a307.eval o5_27_5).run Try.prog w301 = .ok (.value (.int .i64 2)) w301 := by unfold o5_27_5; go_simp
            refine st_val g5_27_5 rfl (wanted_is (j := 2) (d := 93) rfl rfl h93 rfl) Y fun a308 e => ?_; clear Y
            have h96 := pt_ F e; replace F := pu_ F e; replace h91 := so_ e h91; replace h92 := so_ e h92; replace h93 := so_ e h93; replace h94 := so_ e h94; replace h95 := so_ e h95; clear e
            have Y : (execOp a308.eval o5_27_6).run Try.prog w301 = .ok (.value (.bool false)) w301 := by unfold o5_27_6; go_simp
            refine st_val g5_27_6 rfl (wanted_is (j := 2) (d := 93) rfl rfl h93 rfl) Y fun a309 e => ?_; clear Y
            have h97 := pt_ F e; replace F := pu_ F e; replace h91 := so_ e h91; replace h92 := so_ e h92; replace h93 := so_ e h93; replace h94 := so_ e h94; replace h95 := so_ e h95; replace h96 := so_ e h96; clear e
            have Y : (execOp a309.eval o5_27_7).run Try.prog w301 = .ok (.value (.bool false)) w301 := by unfold o5_27_7; go_simp
            refine sv_ g5_27_7 Y fun a310 e => ?_; clear Y
            have h98 := pt_ F e; replace F := pu_ F e; replace h91 := so_ e h91; replace h92 := so_ e h92; replace h93 := so_ e h93; replace h94 := so_ e h94; replace h95 := so_ e h95; replace h96 := so_ e h96; replace h97 := so_ e h97; clear e
            refine sv_ g5_27_8 (ym_ rfl h98) fun a311 e => ?_
            have h99 := pt_ F e; replace F := pu_ F e; replace h91 := so_ e h91; replace h92 := so_ e h92; replace h93 := so_ e h93; replace h94 := so_ e h94; replace h95 := so_ e h95; replace h96 := so_ e h96; replace h97 := so_ e h97; replace h98 := so_ e h98; clear e
            refine st_val g5_27_9 rfl (wanted_is (j := 8) (d := 99) rfl rfl h99 rfl) (yf3_ rfl (F.of h15)) fun a312 e => ?_
            have h100 := pt_ F e; replace F := pu_ F e; replace h91 := so_ e h91; replace h92 := so_ e h92; replace h93 := so_ e h93; replace h94 := so_ e h94; replace h95 := so_ e h95; replace h96 := so_ e h96; replace h97 := so_ e h97; replace h98 := so_ e h98; replace h99 := so_ e h99; clear e
            refine st_val g5_27_10 rfl (wanted_is (j := 8) (d := 99) rfl rfl h99 rfl) (yk3_ rfl h100 B298) fun a313 e => ?_
            have h101 := pt_ F e; replace F := pu_ F e; replace h91 := so_ e h91; replace h92 := so_ e h92; replace h93 := so_ e h93; replace h94 := so_ e h94; replace h95 := so_ e h95; replace h96 := so_ e h96; replace h97 := so_ e h97; replace h98 := so_ e h98; replace h99 := so_ e h99; replace h100 := so_ e h100; clear e
            have Y : (execOp a313.eval o5_27_11).run Try.prog w301 = .ok (.value (.pointer (some ⟨bA, oA, none⟩))) w301 := by unfold o5_27_11; go_simp
            refine st_val g5_27_11 rfl (wanted_is (j := 8) (d := 99) rfl rfl h99 rfl) Y fun a314 e => ?_; clear Y
            have h102 := pt_ F e; replace F := pu_ F e; replace h91 := so_ e h91; replace h92 := so_ e h92; replace h93 := so_ e h93; replace h94 := so_ e h94; replace h95 := so_ e h95; replace h96 := so_ e h96; replace h97 := so_ e h97; replace h98 := so_ e h98; replace h99 := so_ e h99; replace h100 := so_ e h100; replace h101 := so_ e h101; clear e
            have Y : (execOp a314.eval o5_27_12).run Try.prog w301 = .ok (.value (.pointer (some ⟨bA, oA + 2, none⟩))) w301 := by unfold o5_27_12; go_simp
            refine st_val g5_27_12 rfl (wanted_is (j := 8) (d := 99) rfl rfl h99 rfl) Y fun a315 e => ?_; clear Y
            have h103 := pt_ F e; replace F := pu_ F e; replace h91 := so_ e h91; replace h92 := so_ e h92; replace h93 := so_ e h93; replace h94 := so_ e h94; replace h95 := so_ e h95; replace h96 := so_ e h96; replace h97 := so_ e h97; replace h98 := so_ e h98; replace h99 := so_ e h99; replace h100 := so_ e h100; replace h101 := so_ e h101; replace h102 := so_ e h102; clear e
            have Y : (execOp a315.eval o5_27_13).run Try.prog w301 = .ok (.value (.int .i64 nj)) w301 := by have c0 := cell_on HC0.out KG; unfold o5_27_13; go_simp
            refine st_val g5_27_13 rfl (wanted_is (j := 8) (d := 99) rfl rfl h99 rfl) Y fun a316 e => ?_; clear Y
            have h104 := pt_ F e; replace F := pu_ F e; replace h91 := so_ e h91; replace h92 := so_ e h92; replace h93 := so_ e h93; replace h94 := so_ e h94; replace h95 := so_ e h95; replace h96 := so_ e h96; replace h97 := so_ e h97; replace h98 := so_ e h98; replace h99 := so_ e h99; replace h100 := so_ e h100; replace h101 := so_ e h101; replace h102 := so_ e h102; replace h103 := so_ e h103; clear e
            refine st_val g5_27_14 rfl (wanted_is (j := 8) (d := 99) rfl rfl h99 rfl) (ym_ rfl (F.of h12)) fun a317 e => ?_
            have h105 := pt_ F e; replace F := pu_ F e; replace h91 := so_ e h91; replace h92 := so_ e h92; replace h93 := so_ e h93; replace h94 := so_ e h94; replace h95 := so_ e h95; replace h96 := so_ e h96; replace h97 := so_ e h97; replace h98 := so_ e h98; replace h99 := so_ e h99; replace h100 := so_ e h100; replace h101 := so_ e h101; replace h102 := so_ e h102; replace h103 := so_ e h103; replace h104 := so_ e h104; clear e
            have Y : (execOp a317.eval o5_27_15).run Try.prog w301 = .ok (.value (.bool false)) w301 := by unfold o5_27_15; go_simp
            refine st_val g5_27_15 rfl (wanted_is (j := 8) (d := 99) rfl rfl h99 rfl) Y fun a318 e => ?_; clear Y
            have h106 := pt_ F e; replace F := pu_ F e; replace h91 := so_ e h91; replace h92 := so_ e h92; replace h93 := so_ e h93; replace h94 := so_ e h94; replace h95 := so_ e h95; replace h96 := so_ e h96; replace h97 := so_ e h97; replace h98 := so_ e h98; replace h99 := so_ e h99; replace h100 := so_ e h100; replace h101 := so_ e h101; replace h102 := so_ e h102; replace h103 := so_ e h103; replace h104 := so_ e h104; replace h105 := so_ e h105; clear e
            have Y : (execOp a318.eval o5_27_16).run Try.prog w301 = .ok (.value (.bool false)) w301 := by unfold o5_27_16; go_simp
            refine sv_ g5_27_16 Y fun a319 e => ?_; clear Y
            have h107 := pt_ F e; replace F := pu_ F e; replace h91 := so_ e h91; replace h92 := so_ e h92; replace h93 := so_ e h93; replace h94 := so_ e h94; replace h95 := so_ e h95; replace h96 := so_ e h96; replace h97 := so_ e h97; replace h98 := so_ e h98; replace h99 := so_ e h99; replace h100 := so_ e h100; replace h101 := so_ e h101; replace h102 := so_ e h102; replace h103 := so_ e h103; replace h104 := so_ e h104; replace h105 := so_ e h105; replace h106 := so_ e h106; clear e
            refine sv_ g5_27_17 (ym_ rfl h107) fun a320 e => ?_
            have h108 := pt_ F e; replace F := pu_ F e; replace h91 := so_ e h91; replace h92 := so_ e h92; replace h93 := so_ e h93; replace h94 := so_ e h94; replace h95 := so_ e h95; replace h96 := so_ e h96; replace h97 := so_ e h97; replace h98 := so_ e h98; replace h99 := so_ e h99; replace h100 := so_ e h100; replace h101 := so_ e h101; replace h102 := so_ e h102; replace h103 := so_ e h103; replace h104 := so_ e h104; replace h105 := so_ e h105; replace h106 := so_ e h106; replace h107 := so_ e h107; clear e
            refine st_val g5_27_18 rfl (wanted_is (j := 17) (d := 108) rfl rfl h108 rfl) (yf3_ rfl (F.of h15)) fun a321 e => ?_
            have h109 := pt_ F e; replace F := pu_ F e; replace h91 := so_ e h91; replace h92 := so_ e h92; replace h93 := so_ e h93; replace h94 := so_ e h94; replace h95 := so_ e h95; replace h96 := so_ e h96; replace h97 := so_ e h97; replace h98 := so_ e h98; replace h99 := so_ e h99; replace h100 := so_ e h100; replace h101 := so_ e h101; replace h102 := so_ e h102; replace h103 := so_ e h103; replace h104 := so_ e h104; replace h105 := so_ e h105; replace h106 := so_ e h106; replace h107 := so_ e h107; replace h108 := so_ e h108; clear e
            refine st_val g5_27_19 rfl (wanted_is (j := 17) (d := 108) rfl rfl h108 rfl) (yk3_ rfl h109 B298) fun a322 e => ?_
            have h110 := pt_ F e; replace F := pu_ F e; replace h91 := so_ e h91; replace h92 := so_ e h92; replace h93 := so_ e h93; replace h94 := so_ e h94; replace h95 := so_ e h95; replace h96 := so_ e h96; replace h97 := so_ e h97; replace h98 := so_ e h98; replace h99 := so_ e h99; replace h100 := so_ e h100; replace h101 := so_ e h101; replace h102 := so_ e h102; replace h103 := so_ e h103; replace h104 := so_ e h104; replace h105 := so_ e h105; replace h106 := so_ e h106; replace h107 := so_ e h107; replace h108 := so_ e h108; replace h109 := so_ e h109; clear e
            have Y : (execOp a322.eval o5_27_20).run Try.prog w301 = .ok (.value (.pointer (some ⟨bA, oA + 4, none⟩))) w301 := by unfold o5_27_20; go_simp
            refine st_val g5_27_20 rfl (wanted_is (j := 17) (d := 108) rfl rfl h108 rfl) Y fun a323 e => ?_; clear Y
            have h111 := pt_ F e; replace F := pu_ F e; replace h91 := so_ e h91; replace h92 := so_ e h92; replace h93 := so_ e h93; replace h94 := so_ e h94; replace h95 := so_ e h95; replace h96 := so_ e h96; replace h97 := so_ e h97; replace h98 := so_ e h98; replace h99 := so_ e h99; replace h100 := so_ e h100; replace h101 := so_ e h101; replace h102 := so_ e h102; replace h103 := so_ e h103; replace h104 := so_ e h104; replace h105 := so_ e h105; replace h106 := so_ e h106; replace h107 := so_ e h107; replace h108 := so_ e h108; replace h109 := so_ e h109; replace h110 := so_ e h110; clear e
            have Y : (execOp a323.eval o5_27_21).run Try.prog w301 = .ok (.value (.pointer (some ⟨bA, oA + 6, none⟩))) w301 := by unfold o5_27_21; go_simp
            refine st_val g5_27_21 rfl (wanted_is (j := 17) (d := 108) rfl rfl h108 rfl) Y fun a324 e => ?_; clear Y
            have h112 := pt_ F e; replace F := pu_ F e; replace h91 := so_ e h91; replace h92 := so_ e h92; replace h93 := so_ e h93; replace h94 := so_ e h94; replace h95 := so_ e h95; replace h96 := so_ e h96; replace h97 := so_ e h97; replace h98 := so_ e h98; replace h99 := so_ e h99; replace h100 := so_ e h100; replace h101 := so_ e h101; replace h102 := so_ e h102; replace h103 := so_ e h103; replace h104 := so_ e h104; replace h105 := so_ e h105; replace h106 := so_ e h106; replace h107 := so_ e h107; replace h108 := so_ e h108; replace h109 := so_ e h109; replace h110 := so_ e h110; replace h111 := so_ e h111; clear e
            have Y : (execOp a324.eval o5_27_22).run Try.prog w301 = .ok (.value (.int .i64 (i : Int))) w301 := by have c0 := cell_on HC1.out KG; unfold o5_27_22; go_simp
            refine st_val g5_27_22 rfl (wanted_is (j := 17) (d := 108) rfl rfl h108 rfl) Y fun a325 e => ?_; clear Y
            have h113 := pt_ F e; replace F := pu_ F e; replace h91 := so_ e h91; replace h92 := so_ e h92; replace h93 := so_ e h93; replace h94 := so_ e h94; replace h95 := so_ e h95; replace h96 := so_ e h96; replace h97 := so_ e h97; replace h98 := so_ e h98; replace h99 := so_ e h99; replace h100 := so_ e h100; replace h101 := so_ e h101; replace h102 := so_ e h102; replace h103 := so_ e h103; replace h104 := so_ e h104; replace h105 := so_ e h105; replace h106 := so_ e h106; replace h107 := so_ e h107; replace h108 := so_ e h108; replace h109 := so_ e h109; replace h110 := so_ e h110; replace h111 := so_ e h111; replace h112 := so_ e h112; clear e
            refine st_val g5_27_23 rfl (wanted_is (j := 17) (d := 108) rfl rfl h108 rfl) (ym_ rfl (F.of h11)) fun a326 e => ?_
            have h114 := pt_ F e; replace F := pu_ F e; replace h91 := so_ e h91; replace h92 := so_ e h92; replace h93 := so_ e h93; replace h94 := so_ e h94; replace h95 := so_ e h95; replace h96 := so_ e h96; replace h97 := so_ e h97; replace h98 := so_ e h98; replace h99 := so_ e h99; replace h100 := so_ e h100; replace h101 := so_ e h101; replace h102 := so_ e h102; replace h103 := so_ e h103; replace h104 := so_ e h104; replace h105 := so_ e h105; replace h106 := so_ e h106; replace h107 := so_ e h107; replace h108 := so_ e h108; replace h109 := so_ e h109; replace h110 := so_ e h110; replace h111 := so_ e h111; replace h112 := so_ e h112; replace h113 := so_ e h113; clear e
            have Y : (execOp a326.eval o5_27_24).run Try.prog w301 = .ok (.value (.bool false)) w301 := by unfold o5_27_24; go_simp
            refine st_val g5_27_24 rfl (wanted_is (j := 17) (d := 108) rfl rfl h108 rfl) Y fun a327 e => ?_; clear Y
            have h115 := pt_ F e; replace F := pu_ F e; replace h91 := so_ e h91; replace h92 := so_ e h92; replace h93 := so_ e h93; replace h94 := so_ e h94; replace h95 := so_ e h95; replace h96 := so_ e h96; replace h97 := so_ e h97; replace h98 := so_ e h98; replace h99 := so_ e h99; replace h100 := so_ e h100; replace h101 := so_ e h101; replace h102 := so_ e h102; replace h103 := so_ e h103; replace h104 := so_ e h104; replace h105 := so_ e h105; replace h106 := so_ e h106; replace h107 := so_ e h107; replace h108 := so_ e h108; replace h109 := so_ e h109; replace h110 := so_ e h110; replace h111 := so_ e h111; replace h112 := so_ e h112; replace h113 := so_ e h113; replace h114 := so_ e h114; clear e
            have Y : (execOp a327.eval o5_27_25).run Try.prog w301 = .ok (.value (.bool false)) w301 := by unfold o5_27_25; go_simp
            refine sv_ g5_27_25 Y fun a328 e => ?_; clear Y
            have h116 := pt_ F e; replace F := pu_ F e; replace h91 := so_ e h91; replace h92 := so_ e h92; replace h93 := so_ e h93; replace h94 := so_ e h94; replace h95 := so_ e h95; replace h96 := so_ e h96; replace h97 := so_ e h97; replace h98 := so_ e h98; replace h99 := so_ e h99; replace h100 := so_ e h100; replace h101 := so_ e h101; replace h102 := so_ e h102; replace h103 := so_ e h103; replace h104 := so_ e h104; replace h105 := so_ e h105; replace h106 := so_ e h106; replace h107 := so_ e h107; replace h108 := so_ e h108; replace h109 := so_ e h109; replace h110 := so_ e h110; replace h111 := so_ e h111; replace h112 := so_ e h112; replace h113 := so_ e h113; replace h114 := so_ e h114; replace h115 := so_ e h115; clear e
            refine st_end ?_
            replace h0 := F.of h0; replace h1 := F.of h1; replace h5 := F.of h5; replace h6 := F.of h6; replace h10 := F.of h10; replace h11 := F.of h11; replace h12 := F.of h12; replace h13 := F.of h13; replace h14 := F.of h14; replace h15 := F.of h15; replace h16 := F.of h16; replace h40 := F.of h40; replace h41 := F.of h41; replace h42 := F.of h42; replace h43 := F.of h43; replace h58 := F.of h58; replace h59 := F.of h59; replace h62 := F.of h62; replace h63 := F.of h63; replace h64 := F.of h64; replace h65 := F.of h65; replace h66 := F.of h66; replace h67 := F.of h67; replace h68 := F.of h68; replace h69 := F.of h69; replace h70 := F.of h70; replace h71 := F.of h71; replace h72 := F.of h72; replace h73 := F.of h73; replace h74 := F.of h74; replace h75 := F.of h75; replace h76 := F.of h76; replace h77 := F.of h77; replace h78 := F.of h78; replace h79 := F.of h79; replace h80 := F.of h80; replace h81 := F.of h81; replace h82 := F.of h82; replace h83 := F.of h83; replace h84 := F.of h84; replace h85 := F.of h85; replace h86 := F.of h86; replace h87 := F.of h87; replace h88 := F.of h88; replace h89 := F.of h89; replace h90 := F.of h90; have R := F.r; clear F
            change (c5_99).wp _ _ _ _
            refine wp_cond_false (x := c5_100) (y := Code.skip) (eval_slot h116) ?_
            refine wp_skip ?_
            change (c5_104).wp _ _ _ _
            change (Code.region 29 O5_29 false).wp _ _ _ _
            refine reg_in (l := [0, 1]) rfl ?_
            have F : FE_ _ [] a328 a328 := ⟨R, Ag_.refl _⟩; clear R
            have Y : (execOp a328.eval o5_29_0).run Try.prog w301 = .ok (.value (.int .i64 ((i : Int) + 1))) w301 := by have r64 := F.of h64; have hwj : IntKind.i64.wrap ((i : Int) + 1) = (i : Int) + 1 := (by rw [IntKind.wrap_i64]; have := HLEN.out; omega); unfold o5_29_0; go_simp
            refine sv_ g5_29_0 Y fun a329 e => ?_; clear Y
            have h117 := pt_ F e; replace F := pu_ F e; clear e
            refine sv_ g5_29_1 (ym_ rfl h117) fun a330 e => ?_
            clear h64; have h64 := pt_ F e; replace F := pu_ F e; replace h117 := so_ e h117; clear e
            refine st_end ?_
            replace h0 := F.of h0; replace h1 := F.of h1; replace h5 := F.of h5; replace h6 := F.of h6; replace h10 := F.of h10; replace h11 := F.of h11; replace h12 := F.of h12; replace h13 := F.of h13; replace h14 := F.of h14; replace h15 := F.of h15; replace h16 := F.of h16; replace h40 := F.of h40; replace h41 := F.of h41; replace h42 := F.of h42; replace h43 := F.of h43; replace h58 := F.of h58; replace h59 := F.of h59; replace h62 := F.of h62; replace h63 := F.of h63; replace h65 := F.of h65; replace h66 := F.of h66; replace h67 := F.of h67; replace h68 := F.of h68; replace h69 := F.of h69; replace h70 := F.of h70; replace h71 := F.of h71; replace h72 := F.of h72; replace h73 := F.of h73; replace h74 := F.of h74; replace h75 := F.of h75; replace h76 := F.of h76; replace h77 := F.of h77; replace h78 := F.of h78; replace h79 := F.of h79; replace h80 := F.of h80; replace h81 := F.of h81; replace h82 := F.of h82; replace h83 := F.of h83; replace h84 := F.of h84; replace h85 := F.of h85; replace h86 := F.of h86; replace h87 := F.of h87; replace h88 := F.of h88; replace h89 := F.of h89; replace h90 := F.of h90; replace h91 := F.of h91; replace h92 := F.of h92; replace h93 := F.of h93; replace h94 := F.of h94; replace h95 := F.of h95; replace h96 := F.of h96; replace h97 := F.of h97; replace h98 := F.of h98; replace h99 := F.of h99; replace h100 := F.of h100; replace h101 := F.of h101; replace h102 := F.of h102; replace h103 := F.of h103; replace h104 := F.of h104; replace h105 := F.of h105; replace h106 := F.of h106; replace h107 := F.of h107; replace h108 := F.of h108; replace h109 := F.of h109; replace h110 := F.of h110; replace h111 := F.of h111; replace h112 := F.of h112; replace h113 := F.of h113; replace h114 := F.of h114; replace h115 := F.of h115; replace h116 := F.of h116; have R := F.r; clear F
            have HPR := Lib.hid (HPO.out.on KP); clear HPO KP; have HPO := HPR; clear HPR
            clear B298
            exact ⟨_, by omega, i + 1, _, _, rfl, R, h0, h1, h5, h6, h10, h40, h41, h42, h43, h58, h59, h62, h63, h64, K1, (by omega), HPO, (Lib.hid HPN.out)⟩
          | true =>
            have HEQ : Hid (nj = want) := Lib.hid (by simpa using hb261); clear hb261
            have Y : (execOp a264.eval o5_21_5).run Try.prog w245 = .ok (.value (.bool true)) w245 := by unfold o5_21_5; go_simp
            refine sv_ g5_21_5 Y fun a331 e => ?_; clear Y
            have h74 := pt_ F e; replace F := pu_ F e; replace h69 := so_ e h69; replace h70 := so_ e h70; replace h71 := so_ e h71; replace h72 := so_ e h72; replace h73 := so_ e h73; clear e
            refine st_end ?_
            replace h0 := F.of h0; replace h1 := F.of h1; replace h5 := F.of h5; replace h6 := F.of h6; replace h10 := F.of h10; replace h11 := F.of h11; replace h12 := F.of h12; replace h40 := F.of h40; replace h41 := F.of h41; replace h42 := F.of h42; replace h43 := F.of h43; replace h58 := F.of h58; replace h59 := F.of h59; replace h62 := F.of h62; replace h63 := F.of h63; replace h64 := F.of h64; replace h65 := F.of h65; replace h66 := F.of h66; replace h67 := F.of h67; replace h68 := F.of h68; have R := F.r; clear F
            change (c5_82).wp _ _ _ _
            refine wp_cond_true (x := c5_83) (y := Code.skip) (eval_slot h74) ?_
            refine wp_exit ?_
            change (c5_104).wp _ _ _ _
            change (Code.region 29 O5_29 false).wp _ _ _ _
            refine reg_in (l := [0, 1]) rfl ?_
            have F : FE_ _ [] a331 a331 := ⟨R, Ag_.refl _⟩; clear R
            have Y : (execOp a331.eval o5_29_0).run Try.prog w245 = .ok (.value (.int .i64 ((i : Int) + 1))) w245 := by have r64 := F.of h64; have hwj : IntKind.i64.wrap ((i : Int) + 1) = (i : Int) + 1 := (by rw [IntKind.wrap_i64]; have := HLEN.out; omega); unfold o5_29_0; go_simp
            refine sv_ g5_29_0 Y fun a332 e => ?_; clear Y
            have h117 := pt_ F e; replace F := pu_ F e; clear e
            refine sv_ g5_29_1 (ym_ rfl h117) fun a333 e => ?_
            clear h64; have h64 := pt_ F e; replace F := pu_ F e; replace h117 := so_ e h117; clear e
            refine st_end ?_
            replace h0 := F.of h0; replace h1 := F.of h1; replace h5 := F.of h5; replace h6 := F.of h6; replace h10 := F.of h10; replace h11 := F.of h11; replace h12 := F.of h12; replace h40 := F.of h40; replace h41 := F.of h41; replace h42 := F.of h42; replace h43 := F.of h43; replace h58 := F.of h58; replace h59 := F.of h59; replace h62 := F.of h62; replace h63 := F.of h63; replace h65 := F.of h65; replace h66 := F.of h66; replace h67 := F.of h67; replace h68 := F.of h68; replace h69 := F.of h69; replace h70 := F.of h70; replace h71 := F.of h71; replace h72 := F.of h72; replace h73 := F.of h73; replace h74 := F.of h74; have R := F.r; clear F
            have HPR := Lib.hid (HPO.out.on KP); clear HPO KP; have HPO := HPR; clear HPR
            exact ⟨_, by omega, i + 1, _, _, rfl, R, h0, h1, h5, h6, h10, h40, h41, h42, h43, h58, h59, h62, h63, h64, K1, (by omega), HPO, (Lib.hid (by rw [HPS.out, rem1_miss (by omega) (by rw [HNJ.out]; exact HEQ.out)]))⟩
  | true =>
    have fb107 := hb107; clear hb107
    simp only [decide_eq_true_eq, decide_eq_false_iff_not, bne_iff_ne, bne_eq_false_iff_eq, beq_iff_eq, beq_eq_false_iff_ne, ne_eq, Bool.not_eq_true', Bool.not_eq_false', Bool.not_eq_eq_eq_not, Bool.not_true, Bool.not_false] at fb107
    refine wp_cond_true (x := Code.skip) (y := c5_38) (eval_slot h43) ?_
    refine wp_skip ?_
    change (c5_39).wp _ _ _ _
    refine wp_seq (x := c5_40) (y := c5_50) ?_
    refine wp_block (id := 1) (c := c5_41) ?_
    refine wp_seq (x := c5_42) (y := c5_43) ?_
    change (Code.region 11 O5_11 false).wp _ _ _ _
    refine reg_in (l := [0, 1, 2, 3, 4]) rfl ?_
    have F : FE_ _ [] a108 a108 := ⟨R, Ag_.refl _⟩; clear R
    refine sv_ g5_11_0 (ym_ rfl (F.of h42)) fun a334 e => ?_
    have h44 := pt_ F e; replace F := pu_ F e; clear e
    obtain ⟨bN, oN, hna, hbn, hcl⟩ := HNS.out j (by omega)
    obtain ⟨nj, hnj⟩ : ∃ q, ns.getD j 0 = q := ⟨_, rfl⟩; rw [hnj] at hcl; have HNJ := Lib.hid hnj; clear hnj
    have HKM : Hid (km ns j = kt nj j) := Lib.hid (by unfold km; rw [HNJ.out])
    have HWJ : (ik nj).wf = true := by rw [← HNJ.out, List.getD_eq_getElem?_getD, List.getElem?_eq_getElem (show j < ns.length by omega)]; exact HWF.out _ (List.getElem_mem _)
    have hltA : (j : Int) < (ns.length : Int) := by omega
    have HNA := Lib.hid hna; clear hna; have HCL := Lib.hid hcl; clear hcl
    have Y : (execOp a334.eval o5_11_1).run Try.prog w105 = .ok (.value (.pointer (some ⟨bN, oN + j, none⟩))) w105 := by have r40 := F.of h40; have r42 := F.of h42; have hA := HNA.out; unfold o5_11_1; go_simp
    refine sv_ g5_11_1 Y fun a335 e => ?_; clear Y
    have h45 := pt_ F e; replace F := pu_ F e; replace h44 := so_ e h44; clear e
    have Y : (execOp a335.eval o5_11_2).run Try.prog w105 = .ok (.value (.int .i64 nj)) w105 := by have c0 := cell_on HCL.out K1; unfold o5_11_2; go_simp
    refine sv_ g5_11_2 Y fun a336 e => ?_; clear Y
    have h46 := pt_ F e; replace F := pu_ F e; replace h44 := so_ e h44; replace h45 := so_ e h45; clear e
    refine sv_ g5_11_3 (ya_ rfl h44) fun a337 e => ?_
    have h8 := pt_ F e; replace F := pu_ F e; replace h44 := so_ e h44; replace h45 := so_ e h45; replace h46 := so_ e h46; clear e
    refine sv_ g5_11_4 (ya_ rfl h46) fun a338 e => ?_
    have h9 := pt_ F e; replace F := pu_ F e; replace h8 := so_ e h8; replace h44 := so_ e h44; replace h45 := so_ e h45; replace h46 := so_ e h46; clear e
    refine st_end ?_
    replace h0 := F.of h0; replace h1 := F.of h1; replace h5 := F.of h5; replace h6 := F.of h6; replace h40 := F.of h40; replace h41 := F.of h41; replace h42 := F.of h42; replace h43 := F.of h43; have R := F.r; clear F
    change (c5_43).wp _ _ _ _
    refine wp_seq (x := c5_44) (y := c5_45) ?_
    change (Code.region 12 O5_12 false).wp _ _ _ _
    refine reg_in (l := [0, 1, 2, 3, 4, 5, 6, 7, 8, 9]) rfl ?_
    have F : FE_ _ [] a338 a338 := ⟨R, Ag_.refl _⟩; clear R
    refine sv_ g5_12_0 (ym_ rfl (F.of h5)) fun a339 e => ?_
    have h47 := pt_ F e; replace F := pu_ F e; clear e
    refine sv_ g5_12_1 (ym_ rfl (F.of h6)) fun a340 e => ?_
    have h48 := pt_ F e; replace F := pu_ F e; replace h47 := so_ e h47; clear e
    refine sv_ g5_12_2 (ym_ rfl (F.of h9)) fun a341 e => ?_
    have h49 := pt_ F e; replace F := pu_ F e; replace h47 := so_ e h47; replace h48 := so_ e h48; clear e
    have hc : Calls Try.prog 31 #[.int .i64 nj] w105 (fun e w' => e = .returned (.agg #[.int .i64 2, .string (⟨#[]⟩), .int .i64 nj, .slice none 0 0]) ∧ Keep (fun g => g < w105.heap.size) w105 w') := refN_any w105 nj
    refine st_call g5_12_3 rfl (wanted_free rfl) (yc1_ en5_31 rfl h49) ((hc).mono ?_)
    rintro e9 w342 ⟨rfl, kk⟩
    replace K1 := keep_onto K1 kk
    replace KP := keep_onto KP kk
    clear hc
    clear kk
    refine ⟨_, rfl, fun a343 e => ?_⟩
    have h50 := pt_ F e; replace F := pu_ F e; replace h47 := so_ e h47; replace h48 := so_ e h48; replace h49 := so_ e h49; clear e
    refine sv_ g5_12_4 (ym_ rfl (F.of h8)) fun a344 e => ?_
    have h51 := pt_ F e; replace F := pu_ F e; replace h47 := so_ e h47; replace h48 := so_ e h48; replace h49 := so_ e h49; replace h50 := so_ e h50; clear e
    have hc : Calls Try.prog 31 #[.int .i64 (j : Int)] w342 (fun e w' => e = .returned (.agg #[.int .i64 2, .string (⟨#[]⟩), .int .i64 (j : Int), .slice none 0 0]) ∧ Keep (fun g => g < w342.heap.size) w342 w') := refN_any w342 (j : Int)
    refine st_call g5_12_5 rfl (wanted_free rfl) (yc1_ en5_31 rfl h51) ((hc).mono ?_)
    rintro e9 w345 ⟨rfl, kk⟩
    replace K1 := keep_onto K1 kk
    replace KP := keep_onto KP kk
    clear hc
    clear kk
    refine ⟨_, rfl, fun a346 e => ?_⟩
    have h52 := pt_ F e; replace F := pu_ F e; replace h47 := so_ e h47; replace h48 := so_ e h48; replace h49 := so_ e h49; replace h50 := so_ e h50; replace h51 := so_ e h51; clear e
    have Y : (execOp a346.eval o5_12_6).run Try.prog w345 = .ok (.value (.slice (some ⟨w345.heap.size, 0, none⟩) 2 2)) (w345.alloc (.cells #[.int .i64 2, .string (⟨#[]⟩), .int .i64 nj, .slice none 0 0, .int .i64 2, .string (⟨#[]⟩), .int .i64 (j : Int), .slice none 0 0] 24)) := by unfold o5_12_6; go_simp
    have B347 := Blk.new w345 24 #[.int .i64 2, .string (⟨#[]⟩), .int .i64 nj, .slice none 0 0, .int .i64 2, .string (⟨#[]⟩), .int .i64 (j : Int), .slice none 0 0]
    obtain ⟨w348, hw⟩ : ∃ x, x = w345.alloc (.cells #[.int .i64 2, .string (⟨#[]⟩), .int .i64 nj, .slice none 0 0, .int .i64 2, .string (⟨#[]⟩), .int .i64 (j : Int), .slice none 0 0] 24) := ⟨_, rfl⟩; rw [← hw] at Y B347
    obtain ⟨b347, hb⟩ : ∃ x, x = w345.heap.size := ⟨_, rfl⟩; rw [← hb] at Y B347
    have LK1_b347 := lk_ hb K1; replace K1 := ka_ hw K1; have LKP_b347 := lk_ hb KP; replace KP := ka_ hw KP; clear hw hb
    refine sv_ g5_12_6 Y fun a349 e => ?_; clear Y
    have h53 := pt_ F e; replace F := pu_ F e; replace h47 := so_ e h47; replace h48 := so_ e h48; replace h49 := so_ e h49; replace h50 := so_ e h50; replace h51 := so_ e h51; replace h52 := so_ e h52; clear e
    have Y : (execOp a349.eval o5_12_7).run Try.prog w348 = .ok (.enter 30 #[.string (⟨#[107]⟩), .slice (some ⟨b347, 0, none⟩) 2 2]) w348 := by unfold o5_12_7; go_simp
    have hc : Calls Try.prog 30 #[.string (⟨#[107]⟩), .slice (some ⟨b347, 0, none⟩) 2 2] w348 (fun e w' => e = .returned (.agg #[.int .i64 4, .string (⟨#[107]⟩), .int .i64 0, .slice (some ⟨b347, 0, none⟩) 2 2]) ∧ Keep (fun g => g < w348.heap.size) w348 w') := refC_any w348 [107] [.node 2 [] nj [], .node 2 [] (j : Int) []] (some ⟨b347, 0, none⟩) 2
    refine st_call g5_12_7 rfl (wanted_free rfl) Y ((hc).mono ?_); clear Y
    rintro e9 w350 ⟨rfl, kk⟩
    replace K1 := keep_onto K1 kk
    replace KP := keep_onto KP kk
    replace B347 := blk_on B347 kk
    clear hc
    clear kk
    refine ⟨_, rfl, fun a351 e => ?_⟩
    have h54 := pt_ F e; replace F := pu_ F e; replace h47 := so_ e h47; replace h48 := so_ e h48; replace h49 := so_ e h49; replace h50 := so_ e h50; replace h51 := so_ e h51; replace h52 := so_ e h52; replace h53 := so_ e h53; clear e
    have Y : (execOp a351.eval o5_12_8).run Try.prog w350 = .ok (.enter 24 #[.pointer (some ⟨pa, 0, none⟩), .int .i64 1, .agg #[.int .i64 4, .string (⟨#[107]⟩), .int .i64 0, .slice (some ⟨b347, 0, none⟩) 2 2]]) w350 := by unfold o5_12_8; go_simp
    have hlen : ps.length = j := by have h := congrArg List.length HPS.out; simpa using h
    have hjw : (ik (j : Int)).wf = true := ik_wf (by omega) (by have := HLEN.out; omega)
    have hcall : Calls Try.prog 24 #[.pointer (some ⟨pa, 0, none⟩), .int .i64 1, .agg #[.int .i64 4, .string (⟨#[107]⟩), .int .i64 0, .slice (some ⟨b347, 0, none⟩) 2 2]] w350 (fun e w' => ∃ (R' : Nat → Prop) (v' : Value) (au : Option Addr) (cu : Nat), e = .returned (.int .i64 0) ∧ OneQ BB R' w' pa mb 64 (ps ++ [(((kt nj j).tree.ren 1).tm, au, cu)]) gq v' ∧ Keep (fun b => b < BB) w350 w') := Calls.mono (send1_yes (t := kt nj j) (HPO.out.on KP) (tm_2 B347 rfl rfl (tm_N HWJ) (tm_N hjw) (by decide)) (kt_right nj j) (by have := HLEN.out; omega)) fun e w' h => by obtain ⟨R', v', au, cu, h1, h2, -, -, h3, -⟩ := h; exact ⟨R', v', au, cu, h1, h2, h3⟩
    refine st_call g5_12_8 rfl (wanted_free rfl) Y ((hcall).mono ?_); clear Y
    rintro e9 w352 ⟨Rq2, vq2, au, cu, rfl, hpo, kb⟩
    clear B347
    replace K1 := K1.trans (kb.less fun g hg => Nat.lt_of_lt_of_le hg HWB)
    clear KP
    clear hcall kb; have kk := trivial
    clear kk
    clear HPO; have HPO := Lib.hid hpo; clear hpo
    have KP := Keep.refl (fun g => g < w352.heap.size) w352
    refine ⟨_, rfl, fun a353 e => ?_⟩
    have h55 := pt_ F e; replace F := pu_ F e; replace h47 := so_ e h47; replace h48 := so_ e h48; replace h49 := so_ e h49; replace h50 := so_ e h50; replace h51 := so_ e h51; replace h52 := so_ e h52; replace h53 := so_ e h53; replace h54 := so_ e h54; clear e
    have Y : (execOp a353.eval o5_12_9).run Try.prog w352 = .ok (.value (.bool false)) w352 := by unfold o5_12_9; go_simp
    refine sv_ g5_12_9 Y fun a354 e => ?_; clear Y
    have h56 := pt_ F e; replace F := pu_ F e; replace h47 := so_ e h47; replace h48 := so_ e h48; replace h49 := so_ e h49; replace h50 := so_ e h50; replace h51 := so_ e h51; replace h52 := so_ e h52; replace h53 := so_ e h53; replace h54 := so_ e h54; replace h55 := so_ e h55; clear e
    refine st_end ?_
    replace h0 := F.of h0; replace h1 := F.of h1; replace h5 := F.of h5; replace h6 := F.of h6; replace h8 := F.of h8; replace h9 := F.of h9; replace h40 := F.of h40; replace h41 := F.of h41; replace h42 := F.of h42; replace h43 := F.of h43; replace h44 := F.of h44; replace h45 := F.of h45; replace h46 := F.of h46; have R := F.r; clear F
    change (c5_45).wp _ _ _ _
    refine wp_cond_false (x := c5_46) (y := Code.skip) (eval_slot h56) ?_
    refine wp_skip ?_
    change (c5_50).wp _ _ _ _
    change (Code.region 14 O5_14 false).wp _ _ _ _
    refine reg_in (l := [0, 1]) rfl ?_
    have F : FE_ _ [] a354 a354 := ⟨R, Ag_.refl _⟩; clear R
    have Y : (execOp a354.eval o5_14_0).run Try.prog w352 = .ok (.value (.int .i64 ((j : Int) + 1))) w352 := by have r42 := F.of h42; have hwj : IntKind.i64.wrap ((j : Int) + 1) = (j : Int) + 1 := (by rw [IntKind.wrap_i64]; have := HLEN.out; omega); unfold o5_14_0; go_simp
    refine sv_ g5_14_0 Y fun a355 e => ?_; clear Y
    have h57 := pt_ F e; replace F := pu_ F e; clear e
    refine sv_ g5_14_1 (ym_ rfl h57) fun a356 e => ?_
    clear h42; have h42 := pt_ F e; replace F := pu_ F e; replace h57 := so_ e h57; clear e
    refine st_end ?_
    replace h0 := F.of h0; replace h1 := F.of h1; replace h5 := F.of h5; replace h6 := F.of h6; replace h8 := F.of h8; replace h9 := F.of h9; replace h40 := F.of h40; replace h41 := F.of h41; replace h43 := F.of h43; replace h44 := F.of h44; replace h45 := F.of h45; replace h46 := F.of h46; replace h47 := F.of h47; replace h48 := F.of h48; replace h49 := F.of h49; replace h50 := F.of h50; replace h51 := F.of h51; replace h52 := F.of h52; replace h53 := F.of h53; replace h54 := F.of h54; replace h55 := F.of h55; replace h56 := F.of h56; have R := F.r; clear F
    have HPR := Lib.hid (HPO.out.on KP); clear HPO KP; have HPO := HPR; clear HPR
    exact ⟨_, by omega, j + 1, _, _, _, rfl, R, h0, h1, h5, h6, h40, h41, h42, K1, (by omega), HPO, (Lib.hid (by rw [List.map_append, HPS.out, List.range_succ, List.map_append]; simp only [List.map_cons, List.map_nil, kt_ren, HKM.out]))⟩
theorem longs_take {W : World} {a : Option Addr} {ns : List Int} {k : Nat} (h : LongsAt W a ns) : LongsAt W a (ns.take k) := fun j hj => by
  rw [List.length_take] at hj
  obtain ⟨b, off, h1, h2, h3⟩ := h j (by omega)
  refine ⟨b, off, h1, h2, ?_⟩
  rw [h3, List.getD_eq_getElem?_getD, List.getD_eq_getElem?_getD, List.getElem?_take_of_lt (by omega)]
set_option maxRecDepth 100000 in
set_option maxHeartbeats 4000000 in
theorem order_w {W : World} {nc : Nat} {na : Option Addr} {ns : List Int} {want : Int} {f0 : Act} {w0 : World} (R : FrS 145 f0) (h0 : f0.tmps[0]? = some (.slice na ns.length nc)) (h1 : f0.tmps[1]? = some (.int .i64 want)) (K1 : Keep (fun g => g < W.heap.size) W w0)  (HNS : Hid (LongsAt W na ns)) (HCC : Hid (ns.length ≤ nc)) (HWF : Hid (∀ x ∈ ns, (ik x).wf = true)) (HWW : Hid ((ik want).wf = true)) : c5_0.wp Try.prog (bodyPost Try.prog Try.f5 (fun e w' => e = .returned (.bool true) ∧ Keep (fun g => g < W.heap.size) W w')) f0 w0 := by
  refine wp_seq (x := c5_1) (y := c5_2) ?_
  change (Code.region 0 O5_0 false).wp _ _ _ _
  refine reg_in (l := [0]) rfl ?_
  have F : FE_ _ [] f0 f0 := ⟨R, Ag_.refl _⟩; clear R
  have Y : (execOp f0.eval o5_0_0).run Try.prog w0 = .ok (.value (.bool false)) w0 := by unfold o5_0_0; go_simp
  refine sv_ g5_0_0 Y fun a101 e => ?_; clear Y
  have h4 := pt_ F e; replace F := pu_ F e; clear e
  refine st_end ?_
  replace h0 := F.of h0; replace h1 := F.of h1; have R := F.r; clear F
  change (c5_2).wp _ _ _ _
  refine wp_seq (x := c5_3) (y := c5_4) ?_
  change (Code.region 1 O5_1 false).wp _ _ _ _
  refine reg_in (l := [0, 1]) rfl ?_
  have F : FE_ _ [] a101 a101 := ⟨R, Ag_.refl _⟩; clear R
  have Y : (execOp a101.eval o5_1_0).run Try.prog w0 = .ok (.enter 21 #[]) w0 := by unfold o5_1_0; go_simp
  obtain ⟨BB, hBB⟩ : ∃ q, q = w0.heap.size := ⟨_, rfl⟩; have HWB : W.heap.size ≤ BB := by rw [hBB]; exact K1.size
  have hcall := new_any w0; rw [← hBB] at hcall
  refine st_call g5_1_0 rfl (wanted_free rfl) Y ((hcall).mono ?_); clear Y
  rintro e9 w102 ⟨pa, mb, rfl, hpo, kk⟩
  replace K1 := keep_onto' K1 kk HWB
  clear kk
  clear hcall hBB; have HPN := Lib.hid hpo; clear hpo
  have KP := Keep.refl (fun g => g < w102.heap.size) w102
  refine ⟨_, rfl, fun a103 e => ?_⟩
  have h21 := pt_ F e; replace F := pu_ F e; clear e
  refine sv_ g5_1_1 (ya_ rfl h21) fun a104 e => ?_
  clear h21; have h5 := pt_ F e; replace F := pu_ F e; clear e
  refine st_end ?_
  replace h0 := F.of h0; replace h1 := F.of h1; replace h4 := F.of h4; have R := F.r; clear F
  change (c5_4).wp _ _ _ _
  refine wp_seq (x := c5_5) (y := c5_12) ?_
  refine wp_seq (x := c5_6) (y := c5_7) ?_
  change (Code.region 2 O5_2 false).wp _ _ _ _
  refine reg_in (l := [0, 1, 2, 3, 4, 5]) rfl ?_
  have F : FE_ _ [] a104 a104 := ⟨R, Ag_.refl _⟩; clear R
  refine sv_ g5_2_0 (ym_ rfl (F.of h5)) fun a105 e => ?_
  have h22 := pt_ F e; replace F := pu_ F e; clear e
  have Y : (execOp a105.eval o5_2_1).run Try.prog w102 = .ok (.value (.bool false)) w102 := by unfold o5_2_1; go_simp
  refine sv_ g5_2_1 Y fun a106 e => ?_; clear Y
  clear h22; have h23 := pt_ F e; replace F := pu_ F e; clear e
  refine sv_ g5_2_2 (ym_ rfl h23) fun a107 e => ?_
  clear h23; have h24 := pt_ F e; replace F := pu_ F e; clear e
  have Y : (execOp a107.eval o5_2_3).run Try.prog w102 = .ok (.enter 22 #[]) w102 := by unfold o5_2_3; go_simp
  refine st_call g5_2_3 rfl (wanted_is (j := 2) (d := 24) rfl rfl h24 rfl) Y ((palive_any w102).mono ?_); clear Y
  rintro e9 w108 ⟨rfl, kk⟩
  replace K1 := keep_onto K1 kk
  replace KP := keep_onto KP kk
  clear kk
  refine ⟨_, rfl, fun a109 e => ?_⟩
  have h25 := pt_ F e; replace F := pu_ F e; replace h24 := so_ e h24; clear e
  have Y : (execOp a109.eval o5_2_4).run Try.prog w108 = .ok (.value (.bool false)) w108 := by unfold o5_2_4; go_simp
  refine st_val g5_2_4 rfl (wanted_is (j := 2) (d := 24) rfl rfl h24 rfl) Y fun a110 e => ?_; clear Y
  clear h25; have h26 := pt_ F e; replace F := pu_ F e; replace h24 := so_ e h24; clear e
  have Y : (execOp a110.eval o5_2_5).run Try.prog w108 = .ok (.value (.bool false)) w108 := by unfold o5_2_5; go_simp
  refine sv_ g5_2_5 Y fun a111 e => ?_; clear Y
  clear h24 h26; have h27 := pt_ F e; replace F := pu_ F e; clear e
  refine st_end ?_
  replace h0 := F.of h0; replace h1 := F.of h1; replace h4 := F.of h4; replace h5 := F.of h5; have R := F.r; clear F
  change (c5_7).wp _ _ _ _
  refine wp_cond_false (x := c5_8) (y := Code.skip) (eval_slot h27) ?_
  refine wp_skip ?_
  change (c5_12).wp _ _ _ _
  refine wp_seq (x := c5_13) (y := c5_14) ?_
  change (Code.region 4 O5_4 false).wp _ _ _ _
  refine reg_in (l := [0, 1, 2, 3, 4, 5, 6]) rfl ?_
  have F : FE_ _ [] a111 a111 := ⟨R, Ag_.refl _⟩; clear R
  refine sv_ g5_4_0 (ym_ rfl (F.of h5)) fun a112 e => ?_
  have h29 := pt_ F e; replace F := pu_ F e; clear e
  have Y : (execOp a112.eval o5_4_1).run Try.prog w108 = .ok (.enter 23 #[.pointer (some ⟨pa, 0, none⟩), .int .i64 64]) w108 := by unfold o5_4_1; go_simp
  refine st_call g5_4_1 rfl (wanted_free rfl) Y ((make1 (most := 64) (HPN.out.on KP)).mono ?_); clear Y
  rintro e9 w113 ⟨Ra, gq, rfl, hpo, hgq, kb, kf⟩
  replace K1 := K1.trans (kb.less fun g hg => Nat.lt_of_lt_of_le hg HWB)
  clear KP
  clear kb kf hgq; have kk := trivial
  clear kk
  have HPO : Hid (OneQ BB Ra w113 pa mb 64 [] gq (.slice none 0 0)) := Lib.hid hpo; clear hpo HPN
  have KP := Keep.refl (fun g => g < w113.heap.size) w113
  refine ⟨_, rfl, fun a114 e => ?_⟩
  clear h29; have h30 := pt_ F e; replace F := pu_ F e; clear e
  refine sv_ g5_4_2 (ym_ rfl h30) fun a115 e => ?_
  clear h30; have h28 := pt_ F e; replace F := pu_ F e; clear e
  refine sv_ g5_4_3 (ye20_ rfl h28) fun a116 e => ?_
  have h31 := pt_ F e; replace F := pu_ F e; replace h28 := so_ e h28; clear e
  refine sv_ g5_4_4 (ye21_ rfl h28) fun a117 e => ?_
  clear h28; have h32 := pt_ F e; replace F := pu_ F e; replace h31 := so_ e h31; clear e
  refine sv_ g5_4_5 (ya_ rfl h31) fun a118 e => ?_
  clear h31; have h6 := pt_ F e; replace F := pu_ F e; replace h32 := so_ e h32; clear e
  refine sv_ g5_4_6 (ya_ rfl h32) fun a119 e => ?_
  clear h32; have h7 := pt_ F e; replace F := pu_ F e; replace h6 := so_ e h6; clear e
  refine st_end ?_
  replace h0 := F.of h0; replace h1 := F.of h1; replace h4 := F.of h4; replace h5 := F.of h5; clear h27; have R := F.r; clear F
  change (c5_14).wp _ _ _ _
  refine wp_seq (x := c5_15) (y := c5_22) ?_
  refine wp_seq (x := c5_16) (y := c5_17) ?_
  change (Code.region 5 O5_5 false).wp _ _ _ _
  refine reg_in (l := [0, 1]) rfl ?_
  have F : FE_ _ [] a119 a119 := ⟨R, Ag_.refl _⟩; clear R
  refine sv_ g5_5_0 (ym_ rfl (F.of h7)) fun a120 e => ?_
  have h33 := pt_ F e; replace F := pu_ F e; clear e
  have Y : (execOp a120.eval o5_5_1).run Try.prog w113 = .ok (.value (.bool false)) w113 := by unfold o5_5_1; go_simp
  refine sv_ g5_5_1 Y fun a121 e => ?_; clear Y
  clear h33; have h34 := pt_ F e; replace F := pu_ F e; clear e
  refine st_end ?_
  replace h0 := F.of h0; replace h1 := F.of h1; replace h4 := F.of h4; replace h5 := F.of h5; replace h6 := F.of h6; clear h7; have R := F.r; clear F
  change (c5_17).wp _ _ _ _
  refine wp_cond_false (x := c5_18) (y := Code.skip) (eval_slot h34) ?_
  refine wp_skip ?_
  change (c5_22).wp _ _ _ _
  refine wp_seq (x := c5_23) (y := c5_28) ?_
  refine wp_seq (x := c5_24) (y := c5_25) ?_
  change (Code.region 7 O5_7 false).wp _ _ _ _
  refine reg_in (l := [0, 1, 2]) rfl ?_
  have F : FE_ _ [] a121 a121 := ⟨R, Ag_.refl _⟩; clear R
  refine sv_ g5_7_0 (ym_ rfl (F.of h0)) fun a122 e => ?_
  have h35 := pt_ F e; replace F := pu_ F e; clear e
  have Y : (execOp a122.eval o5_7_1).run Try.prog w113 = .ok (.value (.int .i64 ns.length)) w113 := by unfold o5_7_1; go_simp
  refine sv_ g5_7_1 Y fun a123 e => ?_; clear Y
  clear h35; have h36 := pt_ F e; replace F := pu_ F e; clear e
  obtain ⟨b124, hb124⟩ : ∃ x, (decide ((64 : Int) < (ns.length : Int))) = x := ⟨_, rfl⟩
  have Y : (execOp a123.eval o5_7_2).run Try.prog w113 = .ok (.value (.bool b124)) w113 := by rw [← hb124]; unfold o5_7_2; go_simp
  refine sv_ g5_7_2 Y fun a125 e => ?_; clear Y
  clear h36; have h37 := pt_ F e; replace F := pu_ F e; clear e
  refine st_end ?_
  replace h0 := F.of h0; replace h1 := F.of h1; replace h4 := F.of h4; replace h5 := F.of h5; replace h6 := F.of h6; clear h34; have R := F.r; clear F
  change (c5_25).wp _ _ _ _
  cases b124 with
  | false =>
    have fb124 := hb124; clear hb124
    simp only [decide_eq_true_eq, decide_eq_false_iff_not, bne_iff_ne, bne_eq_false_iff_eq, beq_iff_eq, beq_eq_false_iff_ne, ne_eq, Bool.not_eq_true', Bool.not_eq_false', Bool.not_eq_eq_eq_not, Bool.not_true, Bool.not_false] at fb124
    refine wp_cond_false (x := c5_26) (y := Code.skip) (eval_slot h37) ?_
    refine wp_skip ?_
    have HPR := Lib.hid (HPO.out.on KP); clear HPO; have HPO := HPR; clear HPR
    exact order_tail R h0 h1 h5 h6 K1 HNS (Lib.hid (by omega)) HWF HWW HWB HPO
  | true =>
    have fb124 := hb124; clear hb124
    simp only [decide_eq_true_eq, decide_eq_false_iff_not, bne_iff_ne, bne_eq_false_iff_eq, beq_iff_eq, beq_eq_false_iff_ne, ne_eq, Bool.not_eq_true', Bool.not_eq_false', Bool.not_eq_eq_eq_not, Bool.not_true, Bool.not_false] at fb124
    refine wp_cond_true (x := c5_26) (y := Code.skip) (eval_slot h37) ?_
    change (Code.region 8 O5_8 false).wp _ _ _ _
    refine reg_in (l := [0, 1, 2]) rfl ?_
    have F : FE_ _ [] a125 a125 := ⟨R, Ag_.refl _⟩; clear R
    refine sv_ g5_8_0 (ym_ rfl (F.of h0)) fun a126 e => ?_
    have h38 := pt_ F e; replace F := pu_ F e; clear e
    obtain ⟨bN, oN, hna, -, -⟩ := HNS.out 0 (by omega); have hcc := HCC.out; subst hna
    have Y : (execOp a126.eval o5_8_1).run Try.prog w113 = .ok (.value (.slice (some ⟨bN, oN, none⟩) 64 nc)) w113 := by have hc0 : ¬ nc = 0 := (by omega); have hc1 : (64 : Int) ≤ (nc : Int) := (by omega); unfold o5_8_1; go_simp
    refine sv_ g5_8_1 Y fun a127 e => ?_; clear Y
    clear h38; have h39 := pt_ F e; replace F := pu_ F e; clear e
    refine sv_ g5_8_2 (ya_ rfl h39) fun a128 e => ?_
    clear h39 h0; have h0 := pt_ F e; replace F := pu_ F e; clear e
    refine st_end ?_
    replace h1 := F.of h1; replace h4 := F.of h4; replace h5 := F.of h5; replace h6 := F.of h6; clear h37; have R := F.r; clear F
    have HPR := Lib.hid (HPO.out.on KP); clear HPO; have HPO := HPR; clear HPR
    exact order_tail (ns := ns.take 64) R (by rw [show (ns.take 64).length = 64 by rw [List.length_take]; omega]; exact h0) h1 h5 h6 K1 (Lib.hid (longs_take HNS.out)) (Lib.hid (by rw [List.length_take]; omega)) (Lib.hid fun x hx => HWF.out x (List.mem_of_mem_take hx)) HWW HWB HPO
theorem porder_walk {W : World} {nc : Nat} {na : Option Addr} {ns : List Int} {want : Int} (hN : LongsAt W na ns) (hc : ns.length ≤ nc) (hw : ∀ x ∈ ns, (ik x).wf = true) (hww : (ik want).wf = true) : Calls Try.prog 5 #[.slice na ns.length nc, .int .i64 want] W fun e w' => e = .returned (.bool true) ∧ Keep (fun g => g < W.heap.size) W w' := by
  refine enter_sx Try.func5 body5 rfl (by show (2 : Nat) ≤ 145; decide) fun f0 R0 hs => ?_
  exact order_w R0 (hs 0 _ rfl) (hs 1 _ rfl) (Keep.refl _ W) (Lib.hid hN) (Lib.hid hc) (Lib.hid hw) (Lib.hid hww)
end Go.Proofs.Ytjinmnekfhekpaa
