/-
  WriteOnce: terms have the same text just if they are the same. Condition: the listed variables.
-/
import Derived.Test.YtfkbbbjicaedmaaGreatDoorQWrP
import Derived.Test.YtfkbbbjicaedmaaGreatDoorQWrQ
import Derived.Test.YtfkbbbjicaedmaaGreatDoorQMP
import Derived.Test.YtfkbbbjicaedmaaGreatDoorQTp2
import Derived.Test.YtfkbbbjicaedmaaGreatDoorQMM
namespace Go.Proofs.YtfkbbbjicaedmaaGreatDoor
open Go.RowKit Go.Maps
set_option linter.unusedVariables false
set_option linter.unusedSimpArgs false
theorem txV_ok {t : Tm} (h : (txV t).2 = 0) : t.right = true ∧ (txV t).1 = t.tree.tx bareC := by
  unfold txV at h ⊢
  split at h
  · rename_i hr
    split at h
    · rename_i ht
      refine ⟨hr, ?_⟩
      rw [if_pos hr, if_pos ht]
    · cases h
  · cases h
theorem once_eq {t u : Tm} (h1 : (txV t).2 = 0) (h2 : (txV u).2 = 0) : ((txV t).1 = (txV u).1) ↔ t.tree.cmp u.tree = 0 := by
  rw [(txV_ok h1).2, (txV_ok h2).2, text_inj]
  exact ((T.lin t.tree).zero u.tree).symm
theorem once_b {t u : Tm} (h1 : (txV t).2 = 0) (h2 : (txV u).2 = 0) : ((str (txV t).1).toList == (str (txV u).1).toList) = (t.tree.cmp u.tree == 0) := by
  rw [str_list, str_list, Bool.eq_iff_iff, beq_iff_eq, beq_iff_eq]
  exact once_eq h1 h2
def oz5_0_0 : Oper := ⟨some 2, Op.box 24 (Operand.tmp 0), 0, "law.go:84", #[], none⟩
def oz5_0_1 : Oper := ⟨some 3, Op.box 24 (Operand.tmp 1), 0, "law.go:84", #[], none⟩
def oz5_0_2 : Oper := ⟨some 4, Op.assign (Operand.const (Value.bool false)), 4, "law.go:84", #[], none⟩
def Oz5_0 : Array Oper := List.toArray (oz5_0_0 :: oz5_0_1 :: oz5_0_2 :: [])
theorem gz5_0_0 : Oz5_0[0]? = some oz5_0_0 := rfl
theorem gz5_0_1 : Oz5_0[1]? = some oz5_0_1 := rfl
theorem gz5_0_2 : Oz5_0[2]? = some oz5_0_2 := rfl
def cz5_1 : Code := Code.region 0 Oz5_0 false
def oz5_1_0 : Oper := ⟨some 9, Op.call { callee := Callee.value (Operand.func 7), args := #[], argTypes := #[] }, 4, "law.go:85", #[], none⟩
def oz5_1_1 : Oper := ⟨some 10, Op.unOp Go.UnOp.not 4 (Operand.tmp 9), 4, "law.go:85", #[ed_ 0], none⟩
def Oz5_1 : Array Oper := List.toArray (oz5_1_0 :: oz5_1_1 :: [])
theorem gz5_1_0 : Oz5_1[0]? = some oz5_1_0 := rfl
theorem gz5_1_1 : Oz5_1[1]? = some oz5_1_1 := rfl
def cz5_4 : Code := Code.region 1 Oz5_1 false
def oz5_2_0 : Oper := ⟨some 4, Op.assign (Operand.const (Value.bool false)), 4, "law.go:86", #[], none⟩
def Oz5_2 : Array Oper := List.toArray (oz5_2_0 :: [])
def cz5_7 : Code := Code.region 2 Oz5_2 false
def cz5_6 : Code := Code.seq cz5_7 Code.ret
def cz5_5 : Code := Code.cond (Operand.tmp 10) cz5_6 Code.skip
def cz5_3 : Code := Code.seq cz5_4 cz5_5
def oz5_3_0 : Oper := ⟨some 12, Op.load 24 (Operand.tmp 2), 24, "law.go:88", #[], none⟩
def oz5_3_1 : Oper := ⟨some 13, Op.call { callee := Callee.value (Operand.func 8), args := #[Operand.tmp 12], argTypes := #[24] }, 27, "law.go:88", #[ed_ 0], none⟩
def oz5_3_2 : Oper := ⟨some 11, Op.move (Operand.tmp 13), 27, "law.go:88", #[ed_ 1], none⟩
def oz5_3_3 : Oper := ⟨some 14, Op.extract (Operand.tmp 11) 0, 9, "law.go:88", #[ed_ 2], none⟩
def oz5_3_4 : Oper := ⟨some 15, Op.extract (Operand.tmp 11) 1, 26, "law.go:88", #[ed_ 2, { on := 5, ground := Go.Ground.gcOnly Go.Departure.lateStores }], none⟩
def oz5_3_5 : Oper := ⟨some 5, Op.assign (Operand.tmp 14), 9, "law.go:88", #[ed_ 3, ec_ 1, ep_ 0, ep_ 1, ep_ 2, ep_ 3, { on := 4, ground := Go.Ground.textOnly Go.Departure.lateStores }], none⟩
def oz5_3_6 : Oper := ⟨some 6, Op.assign (Operand.tmp 15), 26, "law.go:88", #[ed_ 4, ec_ 5, ep_ 0, ep_ 1, ep_ 2, ep_ 3, ep_ 4, ep_ 5], none⟩
def Oz5_3 : Array Oper := List.toArray (oz5_3_0 :: oz5_3_1 :: oz5_3_2 :: oz5_3_3 :: oz5_3_4 :: oz5_3_5 :: oz5_3_6 :: [])
theorem gz5_3_0 : Oz5_3[0]? = some oz5_3_0 := rfl
theorem gz5_3_1 : Oz5_3[1]? = some oz5_3_1 := rfl
theorem gz5_3_2 : Oz5_3[2]? = some oz5_3_2 := rfl
theorem gz5_3_3 : Oz5_3[3]? = some oz5_3_3 := rfl
theorem gz5_3_4 : Oz5_3[4]? = some oz5_3_4 := rfl
theorem gz5_3_5 : Oz5_3[5]? = some oz5_3_5 := rfl
theorem gz5_3_6 : Oz5_3[6]? = some oz5_3_6 := rfl
def cz5_11 : Code := Code.region 3 Oz5_3 false
def oz5_4_0 : Oper := ⟨some 17, Op.load 24 (Operand.tmp 3), 24, "law.go:89", #[], none⟩
def oz5_4_1 : Oper := ⟨some 18, Op.call { callee := Callee.value (Operand.func 8), args := #[Operand.tmp 17], argTypes := #[24] }, 27, "law.go:89", #[ed_ 0], none⟩
def oz5_4_2 : Oper := ⟨some 16, Op.move (Operand.tmp 18), 27, "law.go:89", #[ed_ 1], none⟩
def oz5_4_3 : Oper := ⟨some 19, Op.extract (Operand.tmp 16) 0, 9, "law.go:89", #[ed_ 2], none⟩
def oz5_4_4 : Oper := ⟨some 20, Op.extract (Operand.tmp 16) 1, 26, "law.go:89", #[ed_ 2, { on := 5, ground := Go.Ground.gcOnly Go.Departure.lateStores }], none⟩
def oz5_4_5 : Oper := ⟨some 7, Op.assign (Operand.tmp 19), 9, "law.go:89", #[ed_ 3, ec_ 1, ep_ 0, ep_ 1, ep_ 2, ep_ 3, { on := 4, ground := Go.Ground.textOnly Go.Departure.lateStores }], none⟩
def oz5_4_6 : Oper := ⟨some 8, Op.assign (Operand.tmp 20), 26, "law.go:89", #[ed_ 4, ec_ 5, ep_ 0, ep_ 1, ep_ 2, ep_ 3, ep_ 4, ep_ 5], none⟩
def Oz5_4 : Array Oper := List.toArray (oz5_4_0 :: oz5_4_1 :: oz5_4_2 :: oz5_4_3 :: oz5_4_4 :: oz5_4_5 :: oz5_4_6 :: [])
theorem gz5_4_0 : Oz5_4[0]? = some oz5_4_0 := rfl
theorem gz5_4_1 : Oz5_4[1]? = some oz5_4_1 := rfl
theorem gz5_4_2 : Oz5_4[2]? = some oz5_4_2 := rfl
theorem gz5_4_3 : Oz5_4[3]? = some oz5_4_3 := rfl
theorem gz5_4_4 : Oz5_4[4]? = some oz5_4_4 := rfl
theorem gz5_4_5 : Oz5_4[5]? = some oz5_4_5 := rfl
theorem gz5_4_6 : Oz5_4[6]? = some oz5_4_6 := rfl
def cz5_13 : Code := Code.region 4 Oz5_4 false
def oz5_5_0 : Oper := ⟨some 21, Op.move (Operand.tmp 6), 26, "law.go:90", #[], none⟩
def oz5_5_1 : Oper := ⟨some 22, Op.binOp Go.BinOp.neq 26 (Operand.tmp 21) (Operand.const (Value.int IntKind.i64 0)) 26, 4, "law.go:90", #[ed_ 0], none⟩
def oz5_5_2 : Oper := ⟨some 23, Op.move (Operand.tmp 22), 4, "law.go:90", #[ed_ 1], none⟩
def oz5_5_3 : Oper := ⟨some 24, Op.move (Operand.tmp 8), 26, "law.go:90", #[eg_ 2], some (2, false)⟩
def oz5_5_4 : Oper := ⟨some 25, Op.binOp Go.BinOp.neq 26 (Operand.tmp 24) (Operand.const (Value.int IntKind.i64 0)) 26, 4, "law.go:90", #[ed_ 3, eg_ 2], some (2, false)⟩
def oz5_5_5 : Oper := ⟨some 26, Op.pick (Operand.tmp 23) (Operand.const (Value.bool true)) (Operand.tmp 25), 4, "law.go:90", #[ed_ 2, ed_ 4], none⟩
def Oz5_5 : Array Oper := List.toArray (oz5_5_0 :: oz5_5_1 :: oz5_5_2 :: oz5_5_3 :: oz5_5_4 :: oz5_5_5 :: [])
theorem gz5_5_0 : Oz5_5[0]? = some oz5_5_0 := rfl
theorem gz5_5_1 : Oz5_5[1]? = some oz5_5_1 := rfl
theorem gz5_5_2 : Oz5_5[2]? = some oz5_5_2 := rfl
theorem gz5_5_3 : Oz5_5[3]? = some oz5_5_3 := rfl
theorem gz5_5_4 : Oz5_5[4]? = some oz5_5_4 := rfl
theorem gz5_5_5 : Oz5_5[5]? = some oz5_5_5 := rfl
def cz5_16 : Code := Code.region 5 Oz5_5 false
def oz5_6_0 : Oper := ⟨some 4, Op.assign (Operand.const (Value.bool true)), 4, "law.go:91", #[], none⟩
def Oz5_6 : Array Oper := List.toArray (oz5_6_0 :: [])
theorem gz5_6_0 : Oz5_6[0]? = some oz5_6_0 := rfl
def cz5_19 : Code := Code.region 6 Oz5_6 false
def cz5_18 : Code := Code.seq cz5_19 Code.ret
def cz5_17 : Code := Code.cond (Operand.tmp 26) cz5_18 Code.skip
def cz5_15 : Code := Code.seq cz5_16 cz5_17
def oz5_7_0 : Oper := ⟨some 27, Op.move (Operand.tmp 5), 9, "law.go:93", #[], none⟩
def oz5_7_1 : Oper := ⟨some 28, Op.move (Operand.tmp 7), 9, "law.go:93", #[], none⟩
def oz5_7_2 : Oper := ⟨some 29, Op.binOp Go.BinOp.eql 9 (Operand.tmp 27) (Operand.tmp 28) 9, 4, "law.go:93", #[ed_ 0, ed_ 1], none⟩
def oz5_7_3 : Oper := ⟨some 30, Op.load 24 (Operand.tmp 2), 24, "law.go:93", #[], none⟩
def oz5_7_4 : Oper := ⟨some 31, Op.load 24 (Operand.tmp 3), 24, "law.go:93", #[], none⟩
def oz5_7_5 : Oper := ⟨some 32, Op.call { callee := Callee.value (Operand.func 15), args := #[Operand.tmp 30, Operand.tmp 31], argTypes := #[24, 24] }, 4, "law.go:93", #[ed_ 3, ed_ 4], none⟩
def oz5_7_6 : Oper := ⟨some 33, Op.binOp Go.BinOp.eql 4 (Operand.tmp 29) (Operand.tmp 32) 4, 4, "law.go:93", #[ed_ 2, ed_ 5], none⟩
def oz5_7_7 : Oper := ⟨some 4, Op.assign (Operand.tmp 33), 4, "law.go:93", #[ed_ 6, ec_ 5, ep_ 0, ep_ 1, ep_ 2, ep_ 3, ep_ 4, ep_ 5, ep_ 6], none⟩
def Oz5_7 : Array Oper := List.toArray (oz5_7_0 :: oz5_7_1 :: oz5_7_2 :: oz5_7_3 :: oz5_7_4 :: oz5_7_5 :: oz5_7_6 :: oz5_7_7 :: [])
theorem gz5_7_0 : Oz5_7[0]? = some oz5_7_0 := rfl
theorem gz5_7_1 : Oz5_7[1]? = some oz5_7_1 := rfl
theorem gz5_7_2 : Oz5_7[2]? = some oz5_7_2 := rfl
theorem gz5_7_3 : Oz5_7[3]? = some oz5_7_3 := rfl
theorem gz5_7_4 : Oz5_7[4]? = some oz5_7_4 := rfl
theorem gz5_7_5 : Oz5_7[5]? = some oz5_7_5 := rfl
theorem gz5_7_6 : Oz5_7[6]? = some oz5_7_6 := rfl
theorem gz5_7_7 : Oz5_7[7]? = some oz5_7_7 := rfl
def cz5_23 : Code := Code.region 7 Oz5_7 false
def cz5_22 : Code := Code.seq cz5_23 Code.ret
def cz5_14 : Code := Code.seq cz5_15 cz5_22
def cz5_12 : Code := Code.seq cz5_13 cz5_14
def cz5_10 : Code := Code.seq cz5_11 cz5_12
def cz5_2 : Code := Code.seq cz5_3 cz5_10
def cz5_0 : Code := Code.seq cz5_1 cz5_2
theorem enz5_1008 : Enters Tryz.prog 8 := enters_of Tryz.func8 (by kernel_rfl) rfl
theorem enz5_1015 : Enters Tryz.prog 15 := enters_of Tryz.func15 (by kernel_rfl) rfl
theorem bodyz5 : Tryz.f5.body = some cz5_0 := by kernel_rfl
set_option maxRecDepth 100000 in
set_option maxHeartbeats 4000000 in
theorem once_w {W : World} {t u : Tm} {a b : Option Addr} {c d : Nat} {f0 : Act} {w0 : World} (R : FrS 34 f0) (h0 : f0.tmps[0]? = some (.agg #[.int .i64 t.k, .string (str t.nm), .int .i64 t.i, .slice a t.args.length c])) (h1 : f0.tmps[1]? = some (.agg #[.int .i64 u.k, .string (str u.nm), .int .i64 u.i, .slice b u.args.length d])) (K1 : Keep (fun g => g < W.heap.size) W w0)  (HV : Hid (VarsAt W.heap.size W)) (HT : Hid (TmAt W.heap.size W t a c)) (HU : Hid (TmAt W.heap.size W u b d)) : cz5_0.wp Tryz.prog (bodyPost Tryz.prog Tryz.f5 (fun e w' => e = .returned (.bool true) ∧ Keep (fun g => g < W.heap.size) W w')) f0 w0 := by
  refine wp_seq (x := cz5_1) (y := cz5_2) ?_
  change (Code.region 0 Oz5_0 false).wp _ _ _ _
  refine reg_in (l := [0, 1, 2]) rfl ?_
  have F : FE_ _ [] f0 f0 := ⟨R, Ag_.refl _⟩; clear R
  have Y : (execOp f0.eval oz5_0_0).run Tryz.prog w0 = .ok (.value (.pointer (some ⟨w0.heap.size, 0, none⟩))) (w0.alloc (.cells #[.int .i64 t.k, .string (str t.nm), .int .i64 t.i, .slice a t.args.length c] 24)) := by have r0 := F.of h0; unfold oz5_0_0; go_simp
  have B101 := Blk.new w0 24 #[.int .i64 t.k, .string (str t.nm), .int .i64 t.i, .slice a t.args.length c]
  obtain ⟨w102, hw⟩ : ∃ x, x = w0.alloc (.cells #[.int .i64 t.k, .string (str t.nm), .int .i64 t.i, .slice a t.args.length c] 24) := ⟨_, rfl⟩; rw [← hw] at Y B101
  obtain ⟨b101, hb⟩ : ∃ x, x = w0.heap.size := ⟨_, rfl⟩; rw [← hb] at Y B101
  have LK1_b101 := lk_ hb K1; replace K1 := ka_ hw K1; clear hw hb
  refine sv_ gz5_0_0 Y fun a103 e => ?_; clear Y
  have h2 := pt_ F e; replace F := pu_ F e; clear e
  have Y : (execOp a103.eval oz5_0_1).run Tryz.prog w102 = .ok (.value (.pointer (some ⟨w102.heap.size, 0, none⟩))) (w102.alloc (.cells #[.int .i64 u.k, .string (str u.nm), .int .i64 u.i, .slice b u.args.length d] 24)) := by have r1 := F.of h1; unfold oz5_0_1; go_simp
  have B104 := Blk.new w102 24 #[.int .i64 u.k, .string (str u.nm), .int .i64 u.i, .slice b u.args.length d]
  obtain ⟨w105, hw⟩ : ∃ x, x = w102.alloc (.cells #[.int .i64 u.k, .string (str u.nm), .int .i64 u.i, .slice b u.args.length d] 24) := ⟨_, rfl⟩; rw [← hw] at Y B104
  obtain ⟨b104, hb⟩ : ∃ x, x = w102.heap.size := ⟨_, rfl⟩; rw [← hb] at Y B104
  have Nb101_b104 := nb_ hb B101; replace B101 := ba_ hw B101; have LK1_b104 := lk_ hb K1; replace K1 := ka_ hw K1; clear hw hb
  refine sv_ gz5_0_1 Y fun a106 e => ?_; clear Y
  have h3 := pt_ F e; replace F := pu_ F e; replace h2 := so_ e h2; clear e
  have Y : (execOp a106.eval oz5_0_2).run Tryz.prog w105 = .ok (.value (.bool false)) w105 := by unfold oz5_0_2; go_simp
  refine sv_ gz5_0_2 Y fun a107 e => ?_; clear Y
  have h4 := pt_ F e; replace F := pu_ F e; replace h2 := so_ e h2; replace h3 := so_ e h3; clear e
  refine st_end ?_
  clear h0; clear h1; have R := F.r; clear F
  change (cz5_2).wp _ _ _ _
  refine wp_seq (x := cz5_3) (y := cz5_10) ?_
  refine wp_seq (x := cz5_4) (y := cz5_5) ?_
  change (Code.region 1 Oz5_1 false).wp _ _ _ _
  refine reg_in (l := [0, 1]) rfl ?_
  have F : FE_ _ [] a107 a107 := ⟨R, Ag_.refl _⟩; clear R
  have Y : (execOp a107.eval oz5_1_0).run Tryz.prog w105 = .ok (.enter 7 #[]) w105 := by unfold oz5_1_0; go_simp
  refine st_call gz5_1_0 rfl (wanted_free rfl) Y ((alive_any w105 (HV.out.up K1.size K1)).mono ?_); clear Y
  rintro e9 w108 ⟨rfl, kk⟩
  replace K1 := keep_onto K1 kk
  replace B101 := blk_on B101 kk
  replace B104 := blk_on B104 kk
  clear kk
  refine ⟨_, rfl, fun a109 e => ?_⟩
  have h9 := pt_ F e; replace F := pu_ F e; clear e
  have Y : (execOp a109.eval oz5_1_1).run Tryz.prog w108 = .ok (.value (.bool false)) w108 := by unfold oz5_1_1; go_simp
  refine sv_ gz5_1_1 Y fun a110 e => ?_; clear Y
  clear h9; have h10 := pt_ F e; replace F := pu_ F e; clear e
  refine st_end ?_
  replace h2 := F.of h2; replace h3 := F.of h3; replace h4 := F.of h4; have R := F.r; clear F
  change (cz5_5).wp _ _ _ _
  refine wp_cond_false (x := cz5_6) (y := Code.skip) (eval_slot h10) ?_
  refine wp_skip ?_
  change (cz5_10).wp _ _ _ _
  refine wp_seq (x := cz5_11) (y := cz5_12) ?_
  change (Code.region 3 Oz5_3 false).wp _ _ _ _
  refine reg_in (l := [0, 1, 2, 3, 4, 5, 6]) rfl ?_
  have F : FE_ _ [] a110 a110 := ⟨R, Ag_.refl _⟩; clear R
  refine sv_ gz5_3_0 (yl4_ rfl (F.of h2) B101) fun a111 e => ?_
  have h12 := pt_ F e; replace F := pu_ F e; clear e
  refine st_call gz5_3_1 rfl (wanted_free rfl) (yc1_ enz5_1008 rfl h12) ((wText_any (HT.out.on K1) (HV.out.up K1.size K1)).mono ?_)
  rintro e9 w112 ⟨rfl, kk⟩
  replace K1 := keep_onto K1 kk
  replace B101 := blk_on B101 kk
  replace B104 := blk_on B104 kk
  clear kk
  refine ⟨_, rfl, fun a113 e => ?_⟩
  clear h12; have h13 := pt_ F e; replace F := pu_ F e; clear e
  refine sv_ gz5_3_2 (ym_ rfl h13) fun a114 e => ?_
  clear h13; have h11 := pt_ F e; replace F := pu_ F e; clear e
  refine sv_ gz5_3_3 (ye20_ rfl h11) fun a115 e => ?_
  have h14 := pt_ F e; replace F := pu_ F e; replace h11 := so_ e h11; clear e
  refine sv_ gz5_3_4 (ye21_ rfl h11) fun a116 e => ?_
  clear h11; have h15 := pt_ F e; replace F := pu_ F e; replace h14 := so_ e h14; clear e
  refine sv_ gz5_3_5 (ya_ rfl h14) fun a117 e => ?_
  clear h14; have h5 := pt_ F e; replace F := pu_ F e; replace h15 := so_ e h15; clear e
  refine sv_ gz5_3_6 (ya_ rfl h15) fun a118 e => ?_
  clear h15; have h6 := pt_ F e; replace F := pu_ F e; replace h5 := so_ e h5; clear e
  refine st_end ?_
  replace h2 := F.of h2; replace h3 := F.of h3; replace h4 := F.of h4; clear h10; have R := F.r; clear F
  change (cz5_12).wp _ _ _ _
  refine wp_seq (x := cz5_13) (y := cz5_14) ?_
  change (Code.region 4 Oz5_4 false).wp _ _ _ _
  refine reg_in (l := [0, 1, 2, 3, 4, 5, 6]) rfl ?_
  have F : FE_ _ [] a118 a118 := ⟨R, Ag_.refl _⟩; clear R
  refine sv_ gz5_4_0 (yl4_ rfl (F.of h3) B104) fun a119 e => ?_
  have h17 := pt_ F e; replace F := pu_ F e; clear e
  refine st_call gz5_4_1 rfl (wanted_free rfl) (yc1_ enz5_1008 rfl h17) ((wText_any (HU.out.on K1) (HV.out.up K1.size K1)).mono ?_)
  rintro e9 w120 ⟨rfl, kk⟩
  replace K1 := keep_onto K1 kk
  replace B101 := blk_on B101 kk
  replace B104 := blk_on B104 kk
  clear kk
  refine ⟨_, rfl, fun a121 e => ?_⟩
  clear h17; have h18 := pt_ F e; replace F := pu_ F e; clear e
  refine sv_ gz5_4_2 (ym_ rfl h18) fun a122 e => ?_
  clear h18; have h16 := pt_ F e; replace F := pu_ F e; clear e
  refine sv_ gz5_4_3 (ye20_ rfl h16) fun a123 e => ?_
  have h19 := pt_ F e; replace F := pu_ F e; replace h16 := so_ e h16; clear e
  refine sv_ gz5_4_4 (ye21_ rfl h16) fun a124 e => ?_
  clear h16; have h20 := pt_ F e; replace F := pu_ F e; replace h19 := so_ e h19; clear e
  refine sv_ gz5_4_5 (ya_ rfl h19) fun a125 e => ?_
  clear h19; have h7 := pt_ F e; replace F := pu_ F e; replace h20 := so_ e h20; clear e
  refine sv_ gz5_4_6 (ya_ rfl h20) fun a126 e => ?_
  clear h20; have h8 := pt_ F e; replace F := pu_ F e; replace h7 := so_ e h7; clear e
  refine st_end ?_
  replace h2 := F.of h2; replace h3 := F.of h3; replace h4 := F.of h4; replace h5 := F.of h5; replace h6 := F.of h6; have R := F.r; clear F
  change (cz5_14).wp _ _ _ _
  refine wp_seq (x := cz5_15) (y := cz5_22) ?_
  refine wp_seq (x := cz5_16) (y := cz5_17) ?_
  change (Code.region 5 Oz5_5 false).wp _ _ _ _
  refine reg_in (l := [0, 1, 2, 3, 4, 5]) rfl ?_
  have F : FE_ _ [] a126 a126 := ⟨R, Ag_.refl _⟩; clear R
  refine sv_ gz5_5_0 (ym_ rfl (F.of h6)) fun a127 e => ?_
  have h21 := pt_ F e; replace F := pu_ F e; clear e
  obtain ⟨n1, hn1⟩ : ∃ q, ((txV t).2 != 0) = q := ⟨_, rfl⟩; have HN1 := Lib.hid hn1; clear hn1
  have Y : (execOp a127.eval oz5_5_1).run Tryz.prog w120 = .ok (.value (.bool n1)) w120 := by have e1 : ((txV t).2 != 0) = n1 := HN1.out; unfold oz5_5_1; go_simp
  refine sv_ gz5_5_1 Y fun a128 e => ?_; clear Y
  clear h21; have h22 := pt_ F e; replace F := pu_ F e; clear e
  refine sv_ gz5_5_2 (ym_ rfl h22) fun a129 e => ?_
  clear h22; have h23 := pt_ F e; replace F := pu_ F e; clear e
  cases n1 with
  | false =>
    refine st_val gz5_5_3 rfl (wanted_is (j := 2) (d := 23) rfl rfl h23 rfl) (ym_ rfl (F.of h8)) fun a130 e => ?_
    have h24 := pt_ F e; replace F := pu_ F e; replace h23 := so_ e h23; clear e
    obtain ⟨n2, hn2⟩ : ∃ q, ((txV u).2 != 0) = q := ⟨_, rfl⟩; have HN2 := Lib.hid hn2; clear hn2
    have Y : (execOp a130.eval oz5_5_4).run Tryz.prog w120 = .ok (.value (.bool n2)) w120 := by have e1 : ((txV u).2 != 0) = n2 := HN2.out; unfold oz5_5_4; go_simp
    refine st_val gz5_5_4 rfl (wanted_is (j := 2) (d := 23) rfl rfl h23 rfl) Y fun a131 e => ?_; clear Y
    clear h24; have h25 := pt_ F e; replace F := pu_ F e; replace h23 := so_ e h23; clear e
    have Y : (execOp a131.eval oz5_5_5).run Tryz.prog w120 = .ok (.value (.bool n2)) w120 := by unfold oz5_5_5; go_simp
    refine sv_ gz5_5_5 Y fun a132 e => ?_; clear Y
    clear h23 h25; have h26 := pt_ F e; replace F := pu_ F e; clear e
    refine st_end ?_
    replace h2 := F.of h2; replace h3 := F.of h3; replace h4 := F.of h4; replace h5 := F.of h5; clear h6; replace h7 := F.of h7; clear h8; have R := F.r; clear F
    change (cz5_17).wp _ _ _ _
    cases n2 with
    | false =>
      refine wp_cond_false (x := cz5_18) (y := Code.skip) (eval_slot h26) ?_
      refine wp_skip ?_
      change (cz5_22).wp _ _ _ _
      refine wp_seq (x := cz5_23) (y := Code.ret) ?_
      change (Code.region 7 Oz5_7 false).wp _ _ _ _
      refine reg_in (l := [0, 1, 2, 3, 4, 5, 6, 7]) rfl ?_
      have F : FE_ _ [] a132 a132 := ⟨R, Ag_.refl _⟩; clear R
      refine sv_ gz5_7_0 (ym_ rfl (F.of h5)) fun a133 e => ?_
      have h27 := pt_ F e; replace F := pu_ F e; clear e
      refine sv_ gz5_7_1 (ym_ rfl (F.of h7)) fun a134 e => ?_
      have h28 := pt_ F e; replace F := pu_ F e; replace h27 := so_ e h27; clear e
      have H1 : Hid ((txV t).2 = 0) := Lib.hid (by have h := HN1.out; simpa using h); have H2 : Hid ((txV u).2 = 0) := Lib.hid (by have h := HN2.out; simpa using h)
      have Y : (execOp a134.eval oz5_7_2).run Tryz.prog w120 = .ok (.value (.bool (t.tree.cmp u.tree == 0))) w120 := by have e1 := once_b H1.out H2.out; unfold oz5_7_2; go_simp
      refine sv_ gz5_7_2 Y fun a135 e => ?_; clear Y
      clear h27 h28; have h29 := pt_ F e; replace F := pu_ F e; clear e
      refine sv_ gz5_7_3 (yl4_ rfl (F.of h2) B101) fun a136 e => ?_
      have h30 := pt_ F e; replace F := pu_ F e; replace h29 := so_ e h29; clear e
      refine sv_ gz5_7_4 (yl4_ rfl (F.of h3) B104) fun a137 e => ?_
      have h31 := pt_ F e; replace F := pu_ F e; replace h29 := so_ e h29; replace h30 := so_ e h30; clear e
      refine st_call gz5_7_5 rfl (wanted_free rfl) (yc2_ enz5_1015 rfl h30 h31) ((refSame_any (HT.out.on K1) (HU.out.on K1) (right_of.1 (txV_ok H1.out).1).1 (right_of.1 (txV_ok H2.out).1).1).mono ?_)
      rintro e9 w138 ⟨rfl, kk⟩
      replace K1 := keep_onto K1 kk
      replace B101 := blk_on B101 kk
      replace B104 := blk_on B104 kk
      clear kk
      refine ⟨_, rfl, fun a139 e => ?_⟩
      clear h30 h31; have h32 := pt_ F e; replace F := pu_ F e; replace h29 := so_ e h29; clear e
      have Y : (execOp a139.eval oz5_7_6).run Tryz.prog w138 = .ok (.value (.bool true)) w138 := by have e1 : ((t.tree.cmp u.tree == 0) == (t.tree.cmp u.tree == 0)) = true := beq_self_eq_true _; unfold oz5_7_6; go_simp
      refine sv_ gz5_7_6 Y fun a140 e => ?_; clear Y
      clear h29 h32; have h33 := pt_ F e; replace F := pu_ F e; clear e
      refine sv_ gz5_7_7 (ya_ rfl h33) fun a141 e => ?_
      clear h33 h4; have h4 := pt_ F e; replace F := pu_ F e; clear e
      refine st_end ?_
      clear h2; clear h3; clear h5; clear h7; clear h26; have R := F.r; clear F
      change (Code.ret).wp _ _ _ _
      refine wp_ret ?_
      change bodyPost Tryz.prog Tryz.f5 (fun e w' => e = .returned (.bool true) ∧ Keep (fun g => g < W.heap.size) W w') .ret a141 w138
      refine ret_one rfl R h4 ?_
      exact ⟨rfl, K1⟩
    | true =>
      refine wp_cond_true (x := cz5_18) (y := Code.skip) (eval_slot h26) ?_
      refine wp_seq (x := cz5_19) (y := Code.ret) ?_
      change (Code.region 6 Oz5_6 false).wp _ _ _ _
      refine reg_in (l := [0]) rfl ?_
      have F : FE_ _ [] a132 a132 := ⟨R, Ag_.refl _⟩; clear R
      have Y : (execOp a132.eval oz5_6_0).run Tryz.prog w120 = .ok (.value (.bool true)) w120 := by unfold oz5_6_0; go_simp
      refine sv_ gz5_6_0 Y fun a142 e => ?_; clear Y
      clear h4; have h4 := pt_ F e; replace F := pu_ F e; clear e
      refine st_end ?_
      replace h2 := F.of h2; replace h3 := F.of h3; replace h5 := F.of h5; replace h7 := F.of h7; clear h26; have R := F.r; clear F
      change (Code.ret).wp _ _ _ _
      refine wp_ret ?_
      change bodyPost Tryz.prog Tryz.f5 (fun e w' => e = .returned (.bool true) ∧ Keep (fun g => g < W.heap.size) W w') .ret a142 w120
      refine ret_one rfl R h4 ?_
      exact ⟨rfl, K1⟩
  | true =>
    refine st_not gz5_5_3 rfl (wanted_is (j := 2) (d := 23) rfl rfl h23 rfl) fun a143 e => ?_
    have h24 := pt_ F e; replace F := pu_ F e; replace h23 := so_ e h23; clear e
    refine st_not gz5_5_4 rfl (wanted_is (j := 2) (d := 23) rfl rfl h23 rfl) fun a144 e => ?_
    clear h24; have h25 := pt_ F e; replace F := pu_ F e; replace h23 := so_ e h23; clear e
    have Y : (execOp a144.eval oz5_5_5).run Tryz.prog w120 = .ok (.value (.bool true)) w120 := by unfold oz5_5_5; go_simp
    refine sv_ gz5_5_5 Y fun a145 e => ?_; clear Y
    clear h23 h25; have h26 := pt_ F e; replace F := pu_ F e; clear e
    refine st_end ?_
    replace h2 := F.of h2; replace h3 := F.of h3; replace h4 := F.of h4; replace h5 := F.of h5; clear h6; replace h7 := F.of h7; clear h8; have R := F.r; clear F
    change (cz5_17).wp _ _ _ _
    refine wp_cond_true (x := cz5_18) (y := Code.skip) (eval_slot h26) ?_
    refine wp_seq (x := cz5_19) (y := Code.ret) ?_
    change (Code.region 6 Oz5_6 false).wp _ _ _ _
    refine reg_in (l := [0]) rfl ?_
    have F : FE_ _ [] a145 a145 := ⟨R, Ag_.refl _⟩; clear R
    have Y : (execOp a145.eval oz5_6_0).run Tryz.prog w120 = .ok (.value (.bool true)) w120 := by unfold oz5_6_0; go_simp
    refine sv_ gz5_6_0 Y fun a146 e => ?_; clear Y
    clear h4; have h4 := pt_ F e; replace F := pu_ F e; clear e
    refine st_end ?_
    replace h2 := F.of h2; replace h3 := F.of h3; replace h5 := F.of h5; replace h7 := F.of h7; clear h26; have R := F.r; clear F
    change (Code.ret).wp _ _ _ _
    refine wp_ret ?_
    change bodyPost Tryz.prog Tryz.f5 (fun e w' => e = .returned (.bool true) ∧ Keep (fun g => g < W.heap.size) W w') .ret a146 w120
    refine ret_one rfl R h4 ?_
    exact ⟨rfl, K1⟩
theorem WriteOnce_any (W : World) (t u : Tm) (a b : Option Addr) (c d : Nat) (hT : TmAt W.heap.size W t a c) (hU : TmAt W.heap.size W u b d) (hv : VarsAt W.heap.size W) : Calls Tryz.prog 5 #[tv t a c, tv u b d] W fun e w' => e = .returned (.bool true) ∧ Keep (fun g => g < W.heap.size) W w' := by
  refine enter_sx Tryz.func5 bodyz5 rfl (by show (2 : Nat) ≤ 34; decide) fun f0 R0' hs => ?_
  exact once_w R0' (hs 0 _ rfl) (hs 1 _ rfl) (Keep.refl _ W) (Lib.hid hv) (Lib.hid hT) (Lib.hid hU)
end Go.Proofs.YtfkbbbjicaedmaaGreatDoor
