/-
  WriteNames: every name is written, or refused, as the document says. Condition: the listed variables.
-/
import Derived.Test.YtfkbbbjicaedmaaGreatDoorUWrS
import Derived.Test.YtfkbbbjicaedmaaGreatDoorUWrP
namespace Go.Proofs.YtfkbbbjicaedmaaGreatDoor
open Go.RowKit Go.Maps
set_option linter.unusedVariables false
set_option linter.unusedSimpArgs false
def oz4_0_0 : Oper := ⟨some 2, Op.assign (Operand.const (Value.bool false)), 4, "law.go:38", #[], none⟩
def Oz4_0 : Array Oper := List.toArray (oz4_0_0 :: [])
theorem gz4_0_0 : Oz4_0[0]? = some oz4_0_0 := rfl
def cz4_1 : Code := Code.region 0 Oz4_0 false
def oz4_1_0 : Oper := ⟨some 5, Op.call { callee := Callee.value (Operand.func 7), args := #[], argTypes := #[] }, 4, "law.go:39", #[], none⟩
def oz4_1_1 : Oper := ⟨some 6, Op.unOp Go.UnOp.not 4 (Operand.tmp 5), 4, "law.go:39", #[ed_ 0], none⟩
def Oz4_1 : Array Oper := List.toArray (oz4_1_0 :: oz4_1_1 :: [])
theorem gz4_1_0 : Oz4_1[0]? = some oz4_1_0 := rfl
theorem gz4_1_1 : Oz4_1[1]? = some oz4_1_1 := rfl
def cz4_4 : Code := Code.region 1 Oz4_1 false
def oz4_2_0 : Oper := ⟨some 2, Op.assign (Operand.const (Value.bool false)), 4, "law.go:40", #[], none⟩
def Oz4_2 : Array Oper := List.toArray (oz4_2_0 :: [])
def cz4_7 : Code := Code.region 2 Oz4_2 false
def cz4_6 : Code := Code.seq cz4_7 Code.ret
def cz4_5 : Code := Code.cond (Operand.tmp 6) cz4_6 Code.skip
def cz4_3 : Code := Code.seq cz4_4 cz4_5
def oz4_3_0 : Oper := ⟨some 8, Op.move (Operand.tmp 0), 9, "law.go:42", #[], none⟩
def oz4_3_1 : Oper := ⟨some 9, Op.call { callee := Callee.value (Operand.func 12), args := #[Operand.tmp 8], argTypes := #[9] }, 27, "law.go:42", #[ed_ 0], none⟩
def oz4_3_2 : Oper := ⟨some 7, Op.move (Operand.tmp 9), 27, "law.go:42", #[ed_ 1], none⟩
def oz4_3_3 : Oper := ⟨some 10, Op.extract (Operand.tmp 7) 0, 9, "law.go:42", #[ed_ 2], none⟩
def oz4_3_4 : Oper := ⟨some 11, Op.extract (Operand.tmp 7) 1, 26, "law.go:42", #[ed_ 2, { on := 5, ground := Go.Ground.gcOnly Go.Departure.lateStores }], none⟩
def oz4_3_5 : Oper := ⟨some 3, Op.assign (Operand.tmp 10), 9, "law.go:42", #[ed_ 3, ec_ 1, ep_ 0, ep_ 1, ep_ 2, ep_ 3, { on := 4, ground := Go.Ground.textOnly Go.Departure.lateStores }], none⟩
def oz4_3_6 : Oper := ⟨some 4, Op.assign (Operand.tmp 11), 26, "law.go:42", #[ed_ 4, ec_ 5, ep_ 0, ep_ 1, ep_ 2, ep_ 3, ep_ 4, ep_ 5], none⟩
def Oz4_3 : Array Oper := List.toArray (oz4_3_0 :: oz4_3_1 :: oz4_3_2 :: oz4_3_3 :: oz4_3_4 :: oz4_3_5 :: oz4_3_6 :: [])
theorem gz4_3_0 : Oz4_3[0]? = some oz4_3_0 := rfl
theorem gz4_3_1 : Oz4_3[1]? = some oz4_3_1 := rfl
theorem gz4_3_2 : Oz4_3[2]? = some oz4_3_2 := rfl
theorem gz4_3_3 : Oz4_3[3]? = some oz4_3_3 := rfl
theorem gz4_3_4 : Oz4_3[4]? = some oz4_3_4 := rfl
theorem gz4_3_5 : Oz4_3[5]? = some oz4_3_5 := rfl
theorem gz4_3_6 : Oz4_3[6]? = some oz4_3_6 := rfl
def cz4_11 : Code := Code.region 3 Oz4_3 false
def oz4_4_0 : Oper := ⟨some 12, Op.move (Operand.tmp 0), 9, "law.go:43", #[], none⟩
def oz4_4_1 : Oper := ⟨some 13, Op.call { callee := Callee.builtin Go.Builtin.len, args := #[Operand.tmp 12], argTypes := #[9] }, 3, "law.go:43", #[ed_ 0], none⟩
def oz4_4_2 : Oper := ⟨some 14, Op.binOp Go.BinOp.gtr 3 (Operand.tmp 13) (Operand.const (Value.int IntKind.i64 64)) 3, 4, "law.go:43", #[ed_ 1], none⟩
def Oz4_4 : Array Oper := List.toArray (oz4_4_0 :: oz4_4_1 :: oz4_4_2 :: [])
theorem gz4_4_0 : Oz4_4[0]? = some oz4_4_0 := rfl
theorem gz4_4_1 : Oz4_4[1]? = some oz4_4_1 := rfl
theorem gz4_4_2 : Oz4_4[2]? = some oz4_4_2 := rfl
def cz4_14 : Code := Code.region 4 Oz4_4 false
def oz4_5_0 : Oper := ⟨some 15, Op.move (Operand.tmp 3), 9, "law.go:44", #[], none⟩
def oz4_5_1 : Oper := ⟨some 16, Op.binOp Go.BinOp.eql 9 (Operand.tmp 15) (Operand.const (Value.string { data := #[] })) 9, 4, "law.go:44", #[ed_ 0], none⟩
def oz4_5_2 : Oper := ⟨some 17, Op.move (Operand.tmp 16), 4, "law.go:44", #[ed_ 1], none⟩
def oz4_5_3 : Oper := ⟨some 18, Op.move (Operand.tmp 4), 26, "law.go:44", #[eg_ 2], some (2, true)⟩
def oz4_5_4 : Oper := ⟨some 19, Op.binOp Go.BinOp.eql 26 (Operand.tmp 18) (Operand.const (Value.int IntKind.i64 2)) 26, 4, "law.go:44", #[ed_ 3, eg_ 2], some (2, true)⟩
def oz4_5_5 : Oper := ⟨some 20, Op.pick (Operand.tmp 17) (Operand.tmp 19) (Operand.const (Value.bool false)), 4, "law.go:44", #[ed_ 2, ed_ 4], none⟩
def oz4_5_6 : Oper := ⟨some 2, Op.assign (Operand.tmp 20), 4, "law.go:44", #[ed_ 5, ec_ 2, ep_ 0, ep_ 1, ep_ 2, ep_ 3, ep_ 4, ep_ 5], none⟩
def Oz4_5 : Array Oper := List.toArray (oz4_5_0 :: oz4_5_1 :: oz4_5_2 :: oz4_5_3 :: oz4_5_4 :: oz4_5_5 :: oz4_5_6 :: [])
theorem gz4_5_0 : Oz4_5[0]? = some oz4_5_0 := rfl
theorem gz4_5_1 : Oz4_5[1]? = some oz4_5_1 := rfl
theorem gz4_5_2 : Oz4_5[2]? = some oz4_5_2 := rfl
theorem gz4_5_3 : Oz4_5[3]? = some oz4_5_3 := rfl
theorem gz4_5_4 : Oz4_5[4]? = some oz4_5_4 := rfl
theorem gz4_5_5 : Oz4_5[5]? = some oz4_5_5 := rfl
theorem gz4_5_6 : Oz4_5[6]? = some oz4_5_6 := rfl
def cz4_17 : Code := Code.region 5 Oz4_5 false
def cz4_16 : Code := Code.seq cz4_17 Code.ret
def cz4_15 : Code := Code.cond (Operand.tmp 14) cz4_16 Code.skip
def cz4_13 : Code := Code.seq cz4_14 cz4_15
def oz4_6_0 : Oper := ⟨some 21, Op.move (Operand.tmp 0), 9, "law.go:46", #[], none⟩
def oz4_6_1 : Oper := ⟨some 22, Op.call { callee := Callee.value (Operand.func 13), args := #[Operand.tmp 21], argTypes := #[9] }, 4, "law.go:46", #[ed_ 0], none⟩
def Oz4_6 : Array Oper := List.toArray (oz4_6_0 :: oz4_6_1 :: [])
theorem gz4_6_0 : Oz4_6[0]? = some oz4_6_0 := rfl
theorem gz4_6_1 : Oz4_6[1]? = some oz4_6_1 := rfl
def cz4_22 : Code := Code.region 6 Oz4_6 false
def oz4_7_0 : Oper := ⟨some 23, Op.move (Operand.tmp 3), 9, "law.go:47", #[], none⟩
def oz4_7_1 : Oper := ⟨some 24, Op.binOp Go.BinOp.eql 9 (Operand.tmp 23) (Operand.const (Value.string { data := #[] })) 9, 4, "law.go:47", #[ed_ 0], none⟩
def oz4_7_2 : Oper := ⟨some 25, Op.move (Operand.tmp 24), 4, "law.go:47", #[ed_ 1], none⟩
def oz4_7_3 : Oper := ⟨some 26, Op.move (Operand.tmp 4), 26, "law.go:47", #[eg_ 2], some (2, true)⟩
def oz4_7_4 : Oper := ⟨some 27, Op.binOp Go.BinOp.eql 26 (Operand.tmp 26) (Operand.const (Value.int IntKind.i64 80)) 26, 4, "law.go:47", #[ed_ 3, eg_ 2], some (2, true)⟩
def oz4_7_5 : Oper := ⟨some 28, Op.pick (Operand.tmp 25) (Operand.tmp 27) (Operand.const (Value.bool false)), 4, "law.go:47", #[ed_ 2, ed_ 4], none⟩
def oz4_7_6 : Oper := ⟨some 2, Op.assign (Operand.tmp 28), 4, "law.go:47", #[ed_ 5, ec_ 2, ep_ 0, ep_ 1, ep_ 2, ep_ 3, ep_ 4, ep_ 5], none⟩
def Oz4_7 : Array Oper := List.toArray (oz4_7_0 :: oz4_7_1 :: oz4_7_2 :: oz4_7_3 :: oz4_7_4 :: oz4_7_5 :: oz4_7_6 :: [])
theorem gz4_7_0 : Oz4_7[0]? = some oz4_7_0 := rfl
theorem gz4_7_1 : Oz4_7[1]? = some oz4_7_1 := rfl
theorem gz4_7_2 : Oz4_7[2]? = some oz4_7_2 := rfl
theorem gz4_7_3 : Oz4_7[3]? = some oz4_7_3 := rfl
theorem gz4_7_4 : Oz4_7[4]? = some oz4_7_4 := rfl
theorem gz4_7_5 : Oz4_7[5]? = some oz4_7_5 := rfl
theorem gz4_7_6 : Oz4_7[6]? = some oz4_7_6 := rfl
def cz4_25 : Code := Code.region 7 Oz4_7 false
def cz4_24 : Code := Code.seq cz4_25 Code.ret
def cz4_23 : Code := Code.cond (Operand.tmp 22) cz4_24 Code.skip
def cz4_21 : Code := Code.seq cz4_22 cz4_23
def oz4_8_0 : Oper := ⟨some 29, Op.move (Operand.tmp 4), 26, "law.go:49", #[], none⟩
def oz4_8_1 : Oper := ⟨some 30, Op.binOp Go.BinOp.eql 26 (Operand.tmp 29) (Operand.const (Value.int IntKind.i64 0)) 26, 4, "law.go:49", #[ed_ 0], none⟩
def oz4_8_2 : Oper := ⟨some 31, Op.move (Operand.tmp 30), 4, "law.go:49", #[ed_ 1], none⟩
def oz4_8_3 : Oper := ⟨some 32, Op.move (Operand.tmp 3), 9, "law.go:49", #[eg_ 2], some (2, true)⟩
def oz4_8_4 : Oper := ⟨some 33, Op.move (Operand.tmp 0), 9, "law.go:49", #[eg_ 2], some (2, true)⟩
def oz4_8_5 : Oper := ⟨some 34, Op.call { callee := Callee.value (Operand.func 14), args := #[Operand.tmp 33], argTypes := #[9] }, 9, "law.go:49", #[ed_ 4, ec_ 2, eg_ 2], some (2, true)⟩
def oz4_8_6 : Oper := ⟨some 35, Op.binOp Go.BinOp.eql 9 (Operand.tmp 32) (Operand.tmp 34) 9, 4, "law.go:49", #[ed_ 3, ed_ 5, eg_ 2], some (2, true)⟩
def oz4_8_7 : Oper := ⟨some 36, Op.pick (Operand.tmp 31) (Operand.tmp 35) (Operand.const (Value.bool false)), 4, "law.go:49", #[ed_ 2, ed_ 6], none⟩
def oz4_8_8 : Oper := ⟨some 2, Op.assign (Operand.tmp 36), 4, "law.go:49", #[ed_ 7, ec_ 5, ep_ 0, ep_ 1, ep_ 2, ep_ 3, ep_ 4, ep_ 5, ep_ 6, ep_ 7], none⟩
def Oz4_8 : Array Oper := List.toArray (oz4_8_0 :: oz4_8_1 :: oz4_8_2 :: oz4_8_3 :: oz4_8_4 :: oz4_8_5 :: oz4_8_6 :: oz4_8_7 :: oz4_8_8 :: [])
theorem gz4_8_0 : Oz4_8[0]? = some oz4_8_0 := rfl
theorem gz4_8_1 : Oz4_8[1]? = some oz4_8_1 := rfl
theorem gz4_8_2 : Oz4_8[2]? = some oz4_8_2 := rfl
theorem gz4_8_3 : Oz4_8[3]? = some oz4_8_3 := rfl
theorem gz4_8_4 : Oz4_8[4]? = some oz4_8_4 := rfl
theorem gz4_8_5 : Oz4_8[5]? = some oz4_8_5 := rfl
theorem gz4_8_6 : Oz4_8[6]? = some oz4_8_6 := rfl
theorem gz4_8_7 : Oz4_8[7]? = some oz4_8_7 := rfl
theorem gz4_8_8 : Oz4_8[8]? = some oz4_8_8 := rfl
def cz4_29 : Code := Code.region 8 Oz4_8 false
def cz4_28 : Code := Code.seq cz4_29 Code.ret
def cz4_20 : Code := Code.seq cz4_21 cz4_28
def cz4_12 : Code := Code.seq cz4_13 cz4_20
def cz4_10 : Code := Code.seq cz4_11 cz4_12
def cz4_2 : Code := Code.seq cz4_3 cz4_10
def cz4_0 : Code := Code.seq cz4_1 cz4_2
theorem enz4_1012 : Enters Tryz.prog 12 := enters_of Tryz.func12 (by kernel_rfl) rfl
theorem enz4_1013 : Enters Tryz.prog 13 := enters_of Tryz.func13 (by kernel_rfl) rfl
theorem enz4_1014 : Enters Tryz.prog 14 := enters_of Tryz.func14 (by kernel_rfl) rfl
theorem bodyz4 : Tryz.f4.body = some cz4_0 := by kernel_rfl
set_option maxRecDepth 100000 in
set_option maxHeartbeats 4000000 in
theorem names_w {W : World} {L : List UInt8} {f0 : Act} {w0 : World} (R : FrS 37 f0) (h0 : f0.tmps[0]? = some (.string (str L))) (K1 : Keep (fun g => g < W.heap.size) W w0)  (HV : Hid (VarsAt W.heap.size W)) : cz4_0.wp Tryz.prog (bodyPost Tryz.prog Tryz.f4 (fun e w' => e = .returned (.bool true) ∧ Keep (fun g => g < W.heap.size) W w')) f0 w0 := by
  refine wp_seq (x := cz4_1) (y := cz4_2) ?_
  change (Code.region 0 Oz4_0 false).wp _ _ _ _
  refine reg_in (l := [0]) rfl ?_
  have F : FE_ _ [] f0 f0 := ⟨R, Ag_.refl _⟩; clear R
  have Y : (execOp f0.eval oz4_0_0).run Tryz.prog w0 = .ok (.value (.bool false)) w0 := by unfold oz4_0_0; go_simp
  refine sv_ gz4_0_0 Y fun a101 e => ?_; clear Y
  have h2 := pt_ F e; replace F := pu_ F e; clear e
  refine st_end ?_
  replace h0 := F.of h0; have R := F.r; clear F
  change (cz4_2).wp _ _ _ _
  refine wp_seq (x := cz4_3) (y := cz4_10) ?_
  refine wp_seq (x := cz4_4) (y := cz4_5) ?_
  change (Code.region 1 Oz4_1 false).wp _ _ _ _
  refine reg_in (l := [0, 1]) rfl ?_
  have F : FE_ _ [] a101 a101 := ⟨R, Ag_.refl _⟩; clear R
  have Y : (execOp a101.eval oz4_1_0).run Tryz.prog w0 = .ok (.enter 7 #[]) w0 := by unfold oz4_1_0; go_simp
  refine st_call gz4_1_0 rfl (wanted_free rfl) Y ((alive_any w0 (HV.out.up K1.size K1)).mono ?_); clear Y
  rintro e9 w102 ⟨rfl, kk⟩
  replace K1 := keep_onto K1 kk
  clear kk
  refine ⟨_, rfl, fun a103 e => ?_⟩
  have h5 := pt_ F e; replace F := pu_ F e; clear e
  have Y : (execOp a103.eval oz4_1_1).run Tryz.prog w102 = .ok (.value (.bool false)) w102 := by unfold oz4_1_1; go_simp
  refine sv_ gz4_1_1 Y fun a104 e => ?_; clear Y
  clear h5; have h6 := pt_ F e; replace F := pu_ F e; clear e
  refine st_end ?_
  replace h0 := F.of h0; replace h2 := F.of h2; have R := F.r; clear F
  change (cz4_5).wp _ _ _ _
  refine wp_cond_false (x := cz4_6) (y := Code.skip) (eval_slot h6) ?_
  refine wp_skip ?_
  change (cz4_10).wp _ _ _ _
  refine wp_seq (x := cz4_11) (y := cz4_12) ?_
  change (Code.region 3 Oz4_3 false).wp _ _ _ _
  refine reg_in (l := [0, 1, 2, 3, 4, 5, 6]) rfl ?_
  have F : FE_ _ [] a104 a104 := ⟨R, Ag_.refl _⟩; clear R
  refine sv_ gz4_3_0 (ym_ rfl (F.of h0)) fun a105 e => ?_
  have h8 := pt_ F e; replace F := pu_ F e; clear e
  refine st_call gz4_3_1 rfl (wanted_free rfl) (yc1_ enz4_1012 rfl h8) ((wName_any w102 L (HV.out.up K1.size K1)).mono ?_)
  rintro e9 w106 ⟨rfl, kk⟩
  replace K1 := keep_onto K1 kk
  clear kk
  refine ⟨_, rfl, fun a107 e => ?_⟩
  clear h8; have h9 := pt_ F e; replace F := pu_ F e; clear e
  refine sv_ gz4_3_2 (ym_ rfl h9) fun a108 e => ?_
  clear h9; have h7 := pt_ F e; replace F := pu_ F e; clear e
  refine sv_ gz4_3_3 (ye20_ rfl h7) fun a109 e => ?_
  have h10 := pt_ F e; replace F := pu_ F e; replace h7 := so_ e h7; clear e
  refine sv_ gz4_3_4 (ye21_ rfl h7) fun a110 e => ?_
  clear h7; have h11 := pt_ F e; replace F := pu_ F e; replace h10 := so_ e h10; clear e
  refine sv_ gz4_3_5 (ya_ rfl h10) fun a111 e => ?_
  clear h10; have h3 := pt_ F e; replace F := pu_ F e; replace h11 := so_ e h11; clear e
  refine sv_ gz4_3_6 (ya_ rfl h11) fun a112 e => ?_
  clear h11; have h4 := pt_ F e; replace F := pu_ F e; replace h3 := so_ e h3; clear e
  refine st_end ?_
  replace h0 := F.of h0; replace h2 := F.of h2; clear h6; have R := F.r; clear F
  change (cz4_12).wp _ _ _ _
  refine wp_seq (x := cz4_13) (y := cz4_20) ?_
  refine wp_seq (x := cz4_14) (y := cz4_15) ?_
  change (Code.region 4 Oz4_4 false).wp _ _ _ _
  refine reg_in (l := [0, 1, 2]) rfl ?_
  have F : FE_ _ [] a112 a112 := ⟨R, Ag_.refl _⟩; clear R
  refine sv_ gz4_4_0 (ym_ rfl (F.of h0)) fun a113 e => ?_
  have h12 := pt_ F e; replace F := pu_ F e; clear e
  have Y : (execOp a113.eval oz4_4_1).run Tryz.prog w106 = .ok (.value (.int .i64 (L.length : Int))) w106 := by have e1 : ((str L).size : Int) = (L.length : Int) := (by rw [str_size]); unfold oz4_4_1; go_simp
  refine sv_ gz4_4_1 Y fun a114 e => ?_; clear Y
  clear h12; have h13 := pt_ F e; replace F := pu_ F e; clear e
  obtain ⟨b115, hb115⟩ : ∃ x, (decide (64 < (L.length : Int))) = x := ⟨_, rfl⟩
  have Y : (execOp a114.eval oz4_4_2).run Tryz.prog w106 = .ok (.value (.bool b115)) w106 := by rw [← hb115]; unfold oz4_4_2; go_simp
  refine sv_ gz4_4_2 Y fun a116 e => ?_; clear Y
  clear h13; have h14 := pt_ F e; replace F := pu_ F e; clear e
  refine st_end ?_
  replace h0 := F.of h0; replace h2 := F.of h2; replace h3 := F.of h3; replace h4 := F.of h4; have R := F.r; clear F
  change (cz4_15).wp _ _ _ _
  cases b115 with
  | false =>
    have fb115 := hb115; clear hb115
    simp only [decide_eq_true_eq, decide_eq_false_iff_not, bne_iff_ne, bne_eq_false_iff_eq, beq_iff_eq, beq_eq_false_iff_ne, ne_eq, Bool.not_eq_true', Bool.not_eq_false', Bool.not_eq_eq_eq_not, Bool.not_true, Bool.not_false] at fb115
    refine wp_cond_false (x := cz4_16) (y := Code.skip) (eval_slot h14) ?_
    refine wp_skip ?_
    change (cz4_20).wp _ _ _ _
    refine wp_seq (x := cz4_21) (y := cz4_28) ?_
    refine wp_seq (x := cz4_22) (y := cz4_23) ?_
    change (Code.region 6 Oz4_6 false).wp _ _ _ _
    refine reg_in (l := [0, 1]) rfl ?_
    have F : FE_ _ [] a116 a116 := ⟨R, Ag_.refl _⟩; clear R
    refine sv_ gz4_6_0 (ym_ rfl (F.of h0)) fun a117 e => ?_
    have h21 := pt_ F e; replace F := pu_ F e; clear e
    obtain ⟨nb, hnb⟩ : ∃ q, (!tellX L) = q := ⟨_, rfl⟩; have hcall := rBad_any w106 L (by omega); rw [hnb] at hcall
    refine st_call gz4_6_1 rfl (wanted_free rfl) (yc1_ enz4_1013 rfl h21) ((hcall).mono ?_)
    rintro e9 w118 ⟨rfl, kk⟩
    replace K1 := keep_onto K1 kk
    clear hcall; have HNB := Lib.hid hnb; clear hnb
    clear kk
    refine ⟨_, rfl, fun a119 e => ?_⟩
    clear h21; have h22 := pt_ F e; replace F := pu_ F e; clear e
    refine st_end ?_
    replace h0 := F.of h0; replace h2 := F.of h2; replace h3 := F.of h3; replace h4 := F.of h4; clear h14; have R := F.r; clear F
    change (cz4_23).wp _ _ _ _
    cases nb with
    | false =>
      refine wp_cond_false (x := cz4_24) (y := Code.skip) (eval_slot h22) ?_
      refine wp_skip ?_
      change (cz4_28).wp _ _ _ _
      refine wp_seq (x := cz4_29) (y := Code.ret) ?_
      change (Code.region 8 Oz4_8 false).wp _ _ _ _
      refine reg_in (l := [0, 1, 2, 3, 4, 5, 6, 7, 8]) rfl ?_
      have F : FE_ _ [] a119 a119 := ⟨R, Ag_.refl _⟩; clear R
      refine sv_ gz4_8_0 (ym_ rfl (F.of h4)) fun a120 e => ?_
      have h29 := pt_ F e; replace F := pu_ F e; clear e
      have Y : (execOp a120.eval oz4_8_1).run Tryz.prog w118 = .ok (.value (.bool true)) w118 := by have e1 : ((nmV L).2 == 0) = true := (by rw [nmV, if_neg (by omega), if_pos (by have h := HNB.out; simpa using h)]; rfl); unfold oz4_8_1; go_simp
      refine sv_ gz4_8_1 Y fun a121 e => ?_; clear Y
      clear h29; have h30 := pt_ F e; replace F := pu_ F e; clear e
      refine sv_ gz4_8_2 (ym_ rfl h30) fun a122 e => ?_
      clear h30; have h31 := pt_ F e; replace F := pu_ F e; clear e
      refine st_val gz4_8_3 rfl (wanted_is (j := 2) (d := 31) rfl rfl h31 rfl) (ym_ rfl (F.of h3)) fun a123 e => ?_
      have h32 := pt_ F e; replace F := pu_ F e; replace h31 := so_ e h31; clear e
      refine st_val gz4_8_4 rfl (wanted_is (j := 2) (d := 31) rfl rfl h31 rfl) (ym_ rfl (F.of h0)) fun a124 e => ?_
      have h33 := pt_ F e; replace F := pu_ F e; replace h31 := so_ e h31; replace h32 := so_ e h32; clear e
      refine st_call gz4_8_5 rfl (wanted_is (j := 2) (d := 31) rfl rfl h31 rfl) (yc1_ enz4_1014 rfl h33) ((rName_any w118 L (by omega)).mono ?_)
      rintro e9 w125 ⟨rfl, kk⟩
      replace K1 := keep_onto K1 kk
      clear kk
      refine ⟨_, rfl, fun a126 e => ?_⟩
      clear h33; have h34 := pt_ F e; replace F := pu_ F e; replace h31 := so_ e h31; replace h32 := so_ e h32; clear e
      have Y : (execOp a126.eval oz4_8_6).run Tryz.prog w125 = .ok (.value (.bool true)) w125 := by have e1 : ((str (nmV L).1).toList == (str (atmX bareC L)).toList) = true := (by rw [nmV, if_neg (by omega), if_pos (by have h := HNB.out; simpa using h)]; exact beq_self_eq_true _); unfold oz4_8_6; go_simp
      refine st_val gz4_8_6 rfl (wanted_is (j := 2) (d := 31) rfl rfl h31 rfl) Y fun a127 e => ?_; clear Y
      clear h32 h34; have h35 := pt_ F e; replace F := pu_ F e; replace h31 := so_ e h31; clear e
      have Y : (execOp a127.eval oz4_8_7).run Tryz.prog w125 = .ok (.value (.bool true)) w125 := by unfold oz4_8_7; go_simp
      refine sv_ gz4_8_7 Y fun a128 e => ?_; clear Y
      clear h31 h35; have h36 := pt_ F e; replace F := pu_ F e; clear e
      refine sv_ gz4_8_8 (ya_ rfl h36) fun a129 e => ?_
      clear h36 h2; have h2 := pt_ F e; replace F := pu_ F e; clear e
      refine st_end ?_
      clear h0; clear h3; clear h4; clear h22; have R := F.r; clear F
      change (Code.ret).wp _ _ _ _
      refine wp_ret ?_
      change bodyPost Tryz.prog Tryz.f4 (fun e w' => e = .returned (.bool true) ∧ Keep (fun g => g < W.heap.size) W w') .ret a129 w125
      refine ret_one rfl R h2 ?_
      exact ⟨rfl, K1⟩
    | true =>
      refine wp_cond_true (x := cz4_24) (y := Code.skip) (eval_slot h22) ?_
      refine wp_seq (x := cz4_25) (y := Code.ret) ?_
      change (Code.region 7 Oz4_7 false).wp _ _ _ _
      refine reg_in (l := [0, 1, 2, 3, 4, 5, 6]) rfl ?_
      have F : FE_ _ [] a119 a119 := ⟨R, Ag_.refl _⟩; clear R
      refine sv_ gz4_7_0 (ym_ rfl (F.of h3)) fun a130 e => ?_
      have h23 := pt_ F e; replace F := pu_ F e; clear e
      have Y : (execOp a130.eval oz4_7_1).run Tryz.prog w118 = .ok (.value (.bool true)) w118 := by have e1 : ((str (nmV L).1).toList == []) = true := (by rw [nmV, if_neg (by omega), if_neg (by have h := HNB.out; simpa using h), str_list]; rfl); unfold oz4_7_1; go_simp
      refine sv_ gz4_7_1 Y fun a131 e => ?_; clear Y
      clear h23; have h24 := pt_ F e; replace F := pu_ F e; clear e
      refine sv_ gz4_7_2 (ym_ rfl h24) fun a132 e => ?_
      clear h24; have h25 := pt_ F e; replace F := pu_ F e; clear e
      refine st_val gz4_7_3 rfl (wanted_is (j := 2) (d := 25) rfl rfl h25 rfl) (ym_ rfl (F.of h4)) fun a133 e => ?_
      have h26 := pt_ F e; replace F := pu_ F e; replace h25 := so_ e h25; clear e
      have Y : (execOp a133.eval oz4_7_4).run Tryz.prog w118 = .ok (.value (.bool true)) w118 := by have e1 : ((nmV L).2 == 80) = true := (by rw [nmV, if_neg (by omega), if_neg (by have h := HNB.out; simpa using h)]; rfl); unfold oz4_7_4; go_simp
      refine st_val gz4_7_4 rfl (wanted_is (j := 2) (d := 25) rfl rfl h25 rfl) Y fun a134 e => ?_; clear Y
      clear h26; have h27 := pt_ F e; replace F := pu_ F e; replace h25 := so_ e h25; clear e
      have Y : (execOp a134.eval oz4_7_5).run Tryz.prog w118 = .ok (.value (.bool true)) w118 := by unfold oz4_7_5; go_simp
      refine sv_ gz4_7_5 Y fun a135 e => ?_; clear Y
      clear h25 h27; have h28 := pt_ F e; replace F := pu_ F e; clear e
      refine sv_ gz4_7_6 (ya_ rfl h28) fun a136 e => ?_
      clear h28 h2; have h2 := pt_ F e; replace F := pu_ F e; clear e
      refine st_end ?_
      replace h0 := F.of h0; replace h3 := F.of h3; replace h4 := F.of h4; clear h22; have R := F.r; clear F
      change (Code.ret).wp _ _ _ _
      refine wp_ret ?_
      change bodyPost Tryz.prog Tryz.f4 (fun e w' => e = .returned (.bool true) ∧ Keep (fun g => g < W.heap.size) W w') .ret a136 w118
      refine ret_one rfl R h2 ?_
      exact ⟨rfl, K1⟩
  | true =>
    have fb115 := hb115; clear hb115
    simp only [decide_eq_true_eq, decide_eq_false_iff_not, bne_iff_ne, bne_eq_false_iff_eq, beq_iff_eq, beq_eq_false_iff_ne, ne_eq, Bool.not_eq_true', Bool.not_eq_false', Bool.not_eq_eq_eq_not, Bool.not_true, Bool.not_false] at fb115
    refine wp_cond_true (x := cz4_16) (y := Code.skip) (eval_slot h14) ?_
    refine wp_seq (x := cz4_17) (y := Code.ret) ?_
    change (Code.region 5 Oz4_5 false).wp _ _ _ _
    refine reg_in (l := [0, 1, 2, 3, 4, 5, 6]) rfl ?_
    have F : FE_ _ [] a116 a116 := ⟨R, Ag_.refl _⟩; clear R
    refine sv_ gz4_5_0 (ym_ rfl (F.of h3)) fun a137 e => ?_
    have h15 := pt_ F e; replace F := pu_ F e; clear e
    have Y : (execOp a137.eval oz4_5_1).run Tryz.prog w106 = .ok (.value (.bool true)) w106 := by have e1 : ((str (nmV L).1).toList == []) = true := (by rw [nmV, if_pos (by omega), str_list]; rfl); unfold oz4_5_1; go_simp
    refine sv_ gz4_5_1 Y fun a138 e => ?_; clear Y
    clear h15; have h16 := pt_ F e; replace F := pu_ F e; clear e
    refine sv_ gz4_5_2 (ym_ rfl h16) fun a139 e => ?_
    clear h16; have h17 := pt_ F e; replace F := pu_ F e; clear e
    refine st_val gz4_5_3 rfl (wanted_is (j := 2) (d := 17) rfl rfl h17 rfl) (ym_ rfl (F.of h4)) fun a140 e => ?_
    have h18 := pt_ F e; replace F := pu_ F e; replace h17 := so_ e h17; clear e
    have Y : (execOp a140.eval oz4_5_4).run Tryz.prog w106 = .ok (.value (.bool true)) w106 := by have e1 : ((nmV L).2 == 2) = true := (by rw [nmV, if_pos (by omega)]; rfl); unfold oz4_5_4; go_simp
    refine st_val gz4_5_4 rfl (wanted_is (j := 2) (d := 17) rfl rfl h17 rfl) Y fun a141 e => ?_; clear Y
    clear h18; have h19 := pt_ F e; replace F := pu_ F e; replace h17 := so_ e h17; clear e
    have Y : (execOp a141.eval oz4_5_5).run Tryz.prog w106 = .ok (.value (.bool true)) w106 := by unfold oz4_5_5; go_simp
    refine sv_ gz4_5_5 Y fun a142 e => ?_; clear Y
    clear h17 h19; have h20 := pt_ F e; replace F := pu_ F e; clear e
    refine sv_ gz4_5_6 (ya_ rfl h20) fun a143 e => ?_
    clear h20 h2; have h2 := pt_ F e; replace F := pu_ F e; clear e
    refine st_end ?_
    replace h0 := F.of h0; replace h3 := F.of h3; replace h4 := F.of h4; clear h14; have R := F.r; clear F
    change (Code.ret).wp _ _ _ _
    refine wp_ret ?_
    change bodyPost Tryz.prog Tryz.f4 (fun e w' => e = .returned (.bool true) ∧ Keep (fun g => g < W.heap.size) W w') .ret a143 w106
    refine ret_one rfl R h2 ?_
    exact ⟨rfl, K1⟩
theorem WriteNames_any (W : World) (L : List UInt8) (hv : VarsAt W.heap.size W) : Calls Tryz.prog 4 #[.string (str L)] W fun e w' => e = .returned (.bool true) ∧ Keep (fun g => g < W.heap.size) W w' := by
  refine enter_sx Tryz.func4 bodyz4 rfl (by show (1 : Nat) ≤ 37; decide) fun f0 R0' hs => ?_
  exact names_w R0' (hs 0 _ rfl) (Keep.refl _ W) (Lib.hid hv)
end Go.Proofs.YtfkbbbjicaedmaaGreatDoor
