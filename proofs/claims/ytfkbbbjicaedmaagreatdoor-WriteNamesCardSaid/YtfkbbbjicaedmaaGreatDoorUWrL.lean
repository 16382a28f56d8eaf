/-
  A term is written, whatever it is. Condition: fewer than 2^47 bytes; the listed variables.
-/
import Derived.Test.YtfkbbbjicaedmaaGreatDoorUWrK
namespace Go.Proofs.YtfkbbbjicaedmaaGreatDoor
open Go.RowKit Go.Maps
set_option linter.unusedVariables false
set_option linter.unusedSimpArgs false
def oz23_0_0 : Oper := ⟨some 3, Op.box 24 (Operand.tmp 1), 0, "writer.go:18", #[], none⟩
def Oz23_0 : Array Oper := List.toArray (oz23_0_0 :: [])
theorem gz23_0_0 : Oz23_0[0]? = some oz23_0_0 := rfl
def cz23_1 : Code := Code.region 0 Oz23_0 false
def oz23_1_0 : Oper := ⟨some 4, Op.fieldAddr 24 (Operand.tmp 3) 0, 0, "writer.go:19", #[], none⟩
def oz23_1_1 : Oper := ⟨some 5, Op.load 3 (Operand.tmp 4), 3, "writer.go:19", #[ed_ 0], none⟩
def Oz23_1 : Array Oper := List.toArray (oz23_1_0 :: oz23_1_1 :: [])
theorem gz23_1_0 : Oz23_1[0]? = some oz23_1_0 := rfl
theorem gz23_1_1 : Oz23_1[1]? = some oz23_1_1 := rfl
def cz23_3 : Code := Code.region 1 Oz23_1 false
def oz23_2_0 : Oper := ⟨some 7, Op.binOp Go.BinOp.eql 3 (Operand.tmp 5) (Operand.const (Value.int IntKind.i64 1)) 3, 4, "writer.go:20", #[], none⟩
def oz23_2_1 : Oper := ⟨some 6, Op.assign (Operand.tmp 7), 4, "writer.go:20", #[ed_ 0], none⟩
def Oz23_2 : Array Oper := List.toArray (oz23_2_0 :: oz23_2_1 :: [])
theorem gz23_2_0 : Oz23_2[0]? = some oz23_2_0 := rfl
theorem gz23_2_1 : Oz23_2[1]? = some oz23_2_1 := rfl
def cz23_16 : Code := Code.region 2 Oz23_2 false
def cz23_18 : Code := Code.exit 1
def cz23_17 : Code := Code.cond (Operand.tmp 6) cz23_18 Code.skip
def cz23_15 : Code := Code.seq cz23_16 cz23_17
def oz23_3_0 : Oper := ⟨some 9, Op.binOp Go.BinOp.eql 3 (Operand.tmp 5) (Operand.const (Value.int IntKind.i64 2)) 3, 4, "writer.go:23", #[], none⟩
def oz23_3_1 : Oper := ⟨some 8, Op.assign (Operand.tmp 9), 4, "writer.go:23", #[ed_ 0], none⟩
def Oz23_3 : Array Oper := List.toArray (oz23_3_0 :: oz23_3_1 :: [])
theorem gz23_3_0 : Oz23_3[0]? = some oz23_3_0 := rfl
theorem gz23_3_1 : Oz23_3[1]? = some oz23_3_1 := rfl
def cz23_22 : Code := Code.region 3 Oz23_3 false
def cz23_24 : Code := Code.exit 2
def cz23_23 : Code := Code.cond (Operand.tmp 8) cz23_24 Code.skip
def cz23_21 : Code := Code.seq cz23_22 cz23_23
def oz23_4_0 : Oper := ⟨some 11, Op.binOp Go.BinOp.eql 3 (Operand.tmp 5) (Operand.const (Value.int IntKind.i64 3)) 3, 4, "writer.go:25", #[], none⟩
def oz23_4_1 : Oper := ⟨some 10, Op.assign (Operand.tmp 11), 4, "writer.go:25", #[ed_ 0], none⟩
def Oz23_4 : Array Oper := List.toArray (oz23_4_0 :: oz23_4_1 :: [])
theorem gz23_4_0 : Oz23_4[0]? = some oz23_4_0 := rfl
theorem gz23_4_1 : Oz23_4[1]? = some oz23_4_1 := rfl
def cz23_28 : Code := Code.region 4 Oz23_4 false
def cz23_30 : Code := Code.exit 3
def cz23_29 : Code := Code.cond (Operand.tmp 10) cz23_30 Code.skip
def cz23_27 : Code := Code.seq cz23_28 cz23_29
def oz23_5_0 : Oper := ⟨some 13, Op.binOp Go.BinOp.eql 3 (Operand.tmp 5) (Operand.const (Value.int IntKind.i64 4)) 3, 4, "writer.go:27", #[], none⟩
def oz23_5_1 : Oper := ⟨some 12, Op.assign (Operand.tmp 13), 4, "writer.go:27", #[ed_ 0], none⟩
def Oz23_5 : Array Oper := List.toArray (oz23_5_0 :: oz23_5_1 :: [])
theorem gz23_5_0 : Oz23_5[0]? = some oz23_5_0 := rfl
theorem gz23_5_1 : Oz23_5[1]? = some oz23_5_1 := rfl
def cz23_33 : Code := Code.region 5 Oz23_5 false
def cz23_35 : Code := Code.exit 4
def cz23_34 : Code := Code.cond (Operand.tmp 12) cz23_35 Code.skip
def cz23_32 : Code := Code.seq cz23_33 cz23_34
def cz23_26 : Code := Code.seq cz23_27 cz23_32
def cz23_20 : Code := Code.seq cz23_21 cz23_26
def cz23_14 : Code := Code.seq cz23_15 cz23_20
def cz23_37 : Code := Code.exit 0
def cz23_13 : Code := Code.seq cz23_14 cz23_37
def cz23_12 : Code := Code.block 1 cz23_13
def oz23_6_0 : Oper := ⟨some 14, Op.move (Operand.tmp 0), 57, "writer.go:21", #[], none⟩
def oz23_6_1 : Oper := ⟨some 15, Op.nilCheck (Operand.tmp 14), 0, "writer.go:21", #[ed_ 0], none⟩
def oz23_6_2 : Oper := ⟨some 16, Op.fieldAddr 46 (Operand.tmp 15) 0, 0, "writer.go:21", #[ed_ 1], none⟩
def oz23_6_3 : Oper := ⟨some 17, Op.call { callee := Callee.value (Operand.func 36), args := #[Operand.tmp 16, Operand.const (Value.int IntKind.u8 95)], argTypes := #[44, 5] }, 59, "writer.go:21", #[ed_ 2], none⟩
def Oz23_6 : Array Oper := List.toArray (oz23_6_0 :: oz23_6_1 :: oz23_6_2 :: oz23_6_3 :: [])
theorem gz23_6_0 : Oz23_6[0]? = some oz23_6_0 := rfl
theorem gz23_6_1 : Oz23_6[1]? = some oz23_6_1 := rfl
theorem gz23_6_2 : Oz23_6[2]? = some oz23_6_2 := rfl
theorem gz23_6_3 : Oz23_6[3]? = some oz23_6_3 := rfl
def cz23_38 : Code := Code.region 6 Oz23_6 false
def cz23_11 : Code := Code.seq cz23_12 cz23_38
def cz23_10 : Code := Code.block 2 cz23_11
def oz23_7_0 : Oper := ⟨some 18, Op.move (Operand.tmp 0), 57, "writer.go:24", #[], none⟩
def oz23_7_1 : Oper := ⟨some 19, Op.nilCheck (Operand.tmp 18), 0, "writer.go:24", #[ed_ 0], none⟩
def oz23_7_2 : Oper := ⟨some 20, Op.fieldAddr 46 (Operand.tmp 19) 0, 0, "writer.go:24", #[ed_ 1], none⟩
def oz23_7_3 : Oper := ⟨some 21, Op.fieldAddr 24 (Operand.tmp 3) 2, 0, "writer.go:24", #[], none⟩
def oz23_7_4 : Oper := ⟨some 22, Op.load 2 (Operand.tmp 21), 2, "writer.go:24", #[ed_ 3], none⟩
def oz23_7_5 : Oper := ⟨some 23, Op.call { callee := Callee.value (Operand.func 38), args := #[Operand.tmp 22, Operand.const (Value.int IntKind.i64 10)], argTypes := #[2, 3] }, 9, "writer.go:24", #[ed_ 4], none⟩
def oz23_7_6 : Oper := ⟨some 24, Op.call { callee := Callee.value (Operand.func 37), args := #[Operand.tmp 20, Operand.tmp 23], argTypes := #[44, 9] }, 61, "writer.go:24", #[ed_ 2, ed_ 5, ec_ 5], none⟩
def Oz23_7 : Array Oper := List.toArray (oz23_7_0 :: oz23_7_1 :: oz23_7_2 :: oz23_7_3 :: oz23_7_4 :: oz23_7_5 :: oz23_7_6 :: [])
theorem gz23_7_0 : Oz23_7[0]? = some oz23_7_0 := rfl
theorem gz23_7_1 : Oz23_7[1]? = some oz23_7_1 := rfl
theorem gz23_7_2 : Oz23_7[2]? = some oz23_7_2 := rfl
theorem gz23_7_3 : Oz23_7[3]? = some oz23_7_3 := rfl
theorem gz23_7_4 : Oz23_7[4]? = some oz23_7_4 := rfl
theorem gz23_7_5 : Oz23_7[5]? = some oz23_7_5 := rfl
theorem gz23_7_6 : Oz23_7[6]? = some oz23_7_6 := rfl
theorem nsz23_7 : Region.noSelect Oz23_7 = true := by kernel_rfl
def cz23_40 : Code := Code.region 7 Oz23_7 true
def cz23_41 : Code := Code.exit 0
def cz23_39 : Code := Code.seq cz23_40 cz23_41
def cz23_9 : Code := Code.seq cz23_10 cz23_39
def cz23_8 : Code := Code.block 3 cz23_9
def oz23_8_0 : Oper := ⟨some 25, Op.move (Operand.tmp 0), 57, "writer.go:26", #[], none⟩
def oz23_8_1 : Oper := ⟨some 26, Op.fieldAddr 24 (Operand.tmp 3) 1, 0, "writer.go:26", #[], none⟩
def oz23_8_2 : Oper := ⟨some 27, Op.load 9 (Operand.tmp 26), 9, "writer.go:26", #[ed_ 1], none⟩
def oz23_8_3 : Oper := ⟨some 28, Op.call { callee := Callee.value (Operand.func 33), args := #[Operand.tmp 25, Operand.tmp 27], argTypes := #[57, 9] }, 0, "writer.go:26", #[ed_ 0, ed_ 2], none⟩
def Oz23_8 : Array Oper := List.toArray (oz23_8_0 :: oz23_8_1 :: oz23_8_2 :: oz23_8_3 :: [])
theorem gz23_8_0 : Oz23_8[0]? = some oz23_8_0 := rfl
theorem gz23_8_1 : Oz23_8[1]? = some oz23_8_1 := rfl
theorem gz23_8_2 : Oz23_8[2]? = some oz23_8_2 := rfl
theorem gz23_8_3 : Oz23_8[3]? = some oz23_8_3 := rfl
def cz23_43 : Code := Code.region 8 Oz23_8 false
def cz23_44 : Code := Code.exit 0
def cz23_42 : Code := Code.seq cz23_43 cz23_44
def cz23_7 : Code := Code.seq cz23_8 cz23_42
def cz23_6 : Code := Code.block 4 cz23_7
def oz23_9_0 : Oper := ⟨some 29, Op.move (Operand.tmp 0), 57, "writer.go:28", #[], none⟩
def oz23_9_1 : Oper := ⟨some 30, Op.load 24 (Operand.tmp 3), 24, "writer.go:28", #[], none⟩
def oz23_9_2 : Oper := ⟨some 31, Op.call { callee := Callee.value (Operand.func 39), args := #[Operand.tmp 29, Operand.tmp 30], argTypes := #[57, 24] }, 0, "writer.go:28", #[ed_ 0, ed_ 1], none⟩
def Oz23_9 : Array Oper := List.toArray (oz23_9_0 :: oz23_9_1 :: oz23_9_2 :: [])
theorem gz23_9_0 : Oz23_9[0]? = some oz23_9_0 := rfl
theorem gz23_9_1 : Oz23_9[1]? = some oz23_9_1 := rfl
theorem gz23_9_2 : Oz23_9[2]? = some oz23_9_2 := rfl
def cz23_46 : Code := Code.region 9 Oz23_9 false
def cz23_47 : Code := Code.exit 0
def cz23_45 : Code := Code.seq cz23_46 cz23_47
def cz23_5 : Code := Code.seq cz23_6 cz23_45
def cz23_4 : Code := Code.block 0 cz23_5
def cz23_2 : Code := Code.seq cz23_3 cz23_4
def cz23_0 : Code := Code.seq cz23_1 cz23_2
theorem enz23_1033 : Enters Tryz.prog 33 := enters_of Tryz.func33 (by kernel_rfl) rfl
theorem enz23_1037 : Enters Tryz.prog 37 := enters_of Tryz.func37 (by kernel_rfl) rfl
theorem enz23_1039 : Enters Tryz.prog 39 := enters_of Tryz.func39 (by kernel_rfl) rfl
theorem bodyz23 : Tryz.f23.body = some cz23_0 := by kernel_rfl
set_option maxRecDepth 100000 in
set_option maxHeartbeats 4000000 in
theorem term1_w {k : Nat} {W : World} {B b c : Nat} {R0 S : Nat → Prop} {l0 : List UInt8} {t : Tm} {a : Option Addr} {f0 : Act} {w0 : World} (R : FrS 32 f0) (h0 : f0.tmps[0]? = some (.pointer (some ⟨b, 0, none⟩))) (h1 : f0.tmps[1]? = some (.agg #[.int .i64 t.k, .string (str t.nm), .int .i64 t.i, .slice a t.args.length c])) (KP : Keep (fun g => g < W.heap.size) W w0)  (HW : Hid (WAt B R0 W b l0)) (HV : Hid (VarsAt B W)) (HNS : Hid (t.tree.ns ≤ k + 1)) (HK : Hid (t.k = 1)) (HT : Hid (TmS S W t a c)) (HL : Hid (l0.length + (t.tree.tx bareC).length ≤ 140737488355328)) : cz23_0.wp Tryz.prog (bodyPost Tryz.prog Tryz.f23 (fun e w' => e = .returned (.tuple #[]) ∧ Wr B R0 W w' b (l0 ++ t.tree.tx bareC))) f0 w0 := by
  have HBW := HW.out.le; have HB0 : Hid (∀ k, R0 k → B ≤ k) := Lib.hid fun k hk => (HW.out.rr k hk).1; have HRR : Hid (∀ k, R0 k → R0 k ∨ W.heap.size ≤ k) := Lib.hid fun k hk => .inl hk
  have KX : Keep (fun g => g < W.heap.size ∧ ¬ R0 g) W w0 := KP.less fun g hg => hg.1
  obtain ⟨RR, hRR⟩ : ∃ q, q = R0 := ⟨_, rfl⟩; have HW2 : Hid (WAt B RR W b l0) := Lib.hid (by rw [hRR]; exact HW.out); have HR3 : Hid (∀ k, RR k → R0 k ∨ W.heap.size ≤ k) := Lib.hid (by rw [hRR]; exact HRR.out); clear HW HRR hRR; have HW := HW2; have HRR := HR3; clear HW2 HR3
  refine wp_seq (x := cz23_1) (y := cz23_2) ?_
  change (Code.region 0 Oz23_0 false).wp _ _ _ _
  refine reg_in (l := [0]) rfl ?_
  have F : FE_ _ [] f0 f0 := ⟨R, Ag_.refl _⟩; clear R
  have Y : (execOp f0.eval oz23_0_0).run Tryz.prog w0 = .ok (.value (.pointer (some ⟨w0.heap.size, 0, none⟩))) (w0.alloc (.cells #[.int .i64 t.k, .string (str t.nm), .int .i64 t.i, .slice a t.args.length c] 24)) := by have r1 := F.of h1; unfold oz23_0_0; go_simp
  have B101 := Blk.new w0 24 #[.int .i64 t.k, .string (str t.nm), .int .i64 t.i, .slice a t.args.length c]
  obtain ⟨w102, hw⟩ : ∃ x, x = w0.alloc (.cells #[.int .i64 t.k, .string (str t.nm), .int .i64 t.i, .slice a t.args.length c] 24) := ⟨_, rfl⟩; rw [← hw] at Y B101
  obtain ⟨b101, hb⟩ : ∃ x, x = w0.heap.size := ⟨_, rfl⟩; rw [← hb] at Y B101
  have LKP_b101 := lk_ hb KP; replace KP := ka_ hw KP; have LKX_b101 := lk_ hb KX; replace KX := ka_ hw KX; clear hw hb
  refine sv_ gz23_0_0 Y fun a103 e => ?_; clear Y
  have h3 := pt_ F e; replace F := pu_ F e; clear e
  refine st_end ?_
  replace h0 := F.of h0; clear h1; have R := F.r; clear F
  change (cz23_2).wp _ _ _ _
  refine wp_seq (x := cz23_3) (y := cz23_4) ?_
  change (Code.region 1 Oz23_1 false).wp _ _ _ _
  refine reg_in (l := [0, 1]) rfl ?_
  have F : FE_ _ [] a103 a103 := ⟨R, Ag_.refl _⟩; clear R
  refine sv_ gz23_1_0 (yf0_ rfl (F.of h3)) fun a104 e => ?_
  have h4 := pt_ F e; replace F := pu_ F e; clear e
  refine sv_ gz23_1_1 (yk0_ rfl h4 B101) fun a105 e => ?_
  clear h4; have h5 := pt_ F e; replace F := pu_ F e; clear e
  refine st_end ?_
  replace h0 := F.of h0; replace h3 := F.of h3; have R := F.r; clear F
  change (cz23_4).wp _ _ _ _
  refine wp_block (id := 0) (c := cz23_5) ?_
  refine wp_seq (x := cz23_6) (y := cz23_45) ?_
  refine wp_block (id := 4) (c := cz23_7) ?_
  refine wp_seq (x := cz23_8) (y := cz23_42) ?_
  refine wp_block (id := 3) (c := cz23_9) ?_
  refine wp_seq (x := cz23_10) (y := cz23_39) ?_
  refine wp_block (id := 2) (c := cz23_11) ?_
  refine wp_seq (x := cz23_12) (y := cz23_38) ?_
  refine wp_block (id := 1) (c := cz23_13) ?_
  refine wp_seq (x := cz23_14) (y := cz23_37) ?_
  refine wp_seq (x := cz23_15) (y := cz23_20) ?_
  refine wp_seq (x := cz23_16) (y := cz23_17) ?_
  change (Code.region 2 Oz23_2 false).wp _ _ _ _
  refine reg_in (l := [0, 1]) rfl ?_
  have F : FE_ _ [] a105 a105 := ⟨R, Ag_.refl _⟩; clear R
  have Y : (execOp a105.eval oz23_2_0).run Tryz.prog w102 = .ok (.value (.bool true)) w102 := by have r5 := F.of h5; have e1 : (t.k == 1) = true := (by rw [HK.out]; rfl); unfold oz23_2_0; go_simp
  refine sv_ gz23_2_0 Y fun a106 e => ?_; clear Y
  have h7 := pt_ F e; replace F := pu_ F e; clear e
  refine sv_ gz23_2_1 (ya_ rfl h7) fun a107 e => ?_
  clear h7; have h6 := pt_ F e; replace F := pu_ F e; clear e
  refine st_end ?_
  replace h0 := F.of h0; replace h3 := F.of h3; replace h5 := F.of h5; have R := F.r; clear F
  change (cz23_17).wp _ _ _ _
  refine wp_cond_true (x := cz23_18) (y := Code.skip) (eval_slot h6) ?_
  refine wp_exit ?_
  change (cz23_38).wp _ _ _ _
  change (Code.region 6 Oz23_6 false).wp _ _ _ _
  refine reg_in (l := [0, 1, 2, 3]) rfl ?_
  have F : FE_ _ [] a107 a107 := ⟨R, Ag_.refl _⟩; clear R
  refine sv_ gz23_6_0 (ym_ rfl (F.of h0)) fun a108 e => ?_
  have h14 := pt_ F e; replace F := pu_ F e; clear e
  have Y : (execOp a108.eval oz23_6_1).run Tryz.prog w102 = .ok (.value (.pointer (some ⟨b, 0, none⟩))) w102 := by unfold oz23_6_1; go_simp
  refine sv_ gz23_6_1 Y fun a109 e => ?_; clear Y
  clear h14; have h15 := pt_ F e; replace F := pu_ F e; clear e
  have Y : (execOp a109.eval oz23_6_2).run Tryz.prog w102 = .ok (.value (.pointer (some ⟨b, 0, none⟩))) w102 := by unfold oz23_6_2; go_simp
  refine sv_ gz23_6_2 Y fun a110 e => ?_; clear Y
  clear h15; have h16 := pt_ F e; replace F := pu_ F e; clear e
  have Y : (execOp a110.eval oz23_6_3).run Tryz.prog w102 = .ok (.enter 36 #[.pointer (some ⟨b, 0, none⟩), .int .u8 95]) w102 := by unfold oz23_6_3; go_simp
  refine st_call gz23_6_3 rfl (wanted_free rfl) Y ((wbyte_any (HW.out.on KP) 95 (by have h := HL.out; rw [tree_1 HK.out, tx_v] at h; simp only [List.length_append, List.length_cons, List.length_nil] at h; omega)).mono ?_); clear Y
  rintro e9 w111 ⟨rfl, ⟨RR2, hw, hr⟩, kf⟩
  have N_b101 : ¬ RR b101 := fun h => absurd (HW.out.rr b101 h).2 (Nat.not_lt.2 LKP_b101)
  have l_b101 := B101.lt; replace B101 := B101.keep kf ⟨l_b101, N_b101⟩
  replace N_b101 : ¬ RR2 b101 := fun h => (hr b101 h).elim N_b101 (fun h => absurd l_b101 (Nat.not_lt.2 h)); clear l_b101
  have HR2 : Hid (∀ k, RR2 k → R0 k ∨ W.heap.size ≤ k) := Lib.hid fun k hk => (hr k hk).elim (HRR.out k) (fun h => .inr (Nat.le_trans KX.size h))
  replace KX := KX.trans (kf.less fun g hg => ⟨Nat.lt_of_lt_of_le hg.1 KX.size, fun h => (HRR.out g h).elim hg.2 (fun h => absurd hg.1 (Nat.not_lt.2 h))⟩)
  clear HW HRR hr kf KP; have HW := Lib.hid hw; clear hw; have HRR := HR2; clear HR2
  obtain ⟨RR, hRR⟩ : ∃ q, q = RR2 := ⟨_, rfl⟩; rw [← hRR] at HW HRR N_b101; clear hRR RR2
  have kk := trivial
  clear kk
  have KP := Keep.refl (fun g => g < w111.heap.size) w111
  refine ⟨_, rfl, fun a112 e => ?_⟩
  clear h16; replace F := pu_ F e; clear e
  refine st_end ?_
  replace h0 := F.of h0; replace h3 := F.of h3; clear h5; clear h6; have R := F.r; clear F
  change (cz23_39).wp _ _ _ _
  refine wp_seq (x := cz23_40) (y := cz23_41) ?_
  change (Code.region 7 Oz23_7 true).wp _ _ _ _
  have m_b101 : b101 < w111.heap.size := B101.lt
  have D115 := B101
  have K113 := (Keep.refl (fun g => g < w111.heap.size ∧ ¬ RR g) w111).drew
  have EKX := KX
  have EKP := KP
  refine dr_in (S := (fun W => Keep (fun g => g < w111.heap.size ∧ ¬ RR g) w111 W)) (n := 7) (l := lb_ 7 0) (by kernel_rfl) K113 rfl (by kernel_rfl) ?_
  replace KX := KX.drew
  replace KP := KP.drew
  replace B101 := B101.drew
  generalize w111.drew = w114 at K113 KX KP B101 ⊢
  have F : FE_ _ [] a112 a112 := ⟨R, Ag_.refl _⟩; clear R
  refine dt_ (i := 0) (l' := (lb_ 7 1)) gz23_7_0 rfl nsz23_7 (wanted_free rfl) K113 (fun _ _ => (ym_ rfl (F.of h0))) fun a116 e => ?_
  have h18 := pt_ F e; replace F := pu_ F e; clear e
  have Y : ∀ W, Keep (fun g => g < w111.heap.size ∧ ¬ RR g) w111 W → (execOp a116.eval oz23_7_1).run Tryz.prog W = .ok (.value (.pointer (some ⟨b, 0, none⟩))) W := by intro W7 hS; unfold oz23_7_1; go_simp
  refine dt_ (i := 1) (l' := (lb_ 7 3)) gz23_7_1 rfl nsz23_7 (wanted_free rfl) K113 Y fun a117 e => ?_; clear Y
  clear h18; have h19 := pt_ F e; replace F := pu_ F e; clear e
  have Y : ∀ W, Keep (fun g => g < w111.heap.size ∧ ¬ RR g) w111 W → (execOp a117.eval oz23_7_2).run Tryz.prog W = .ok (.value (.pointer (some ⟨b, 0, none⟩))) W := by intro W7 hS; unfold oz23_7_2; go_simp
  refine dt_ (i := 2) (l' := (lb_ 7 7)) gz23_7_2 rfl nsz23_7 (wanted_free rfl) K113 Y fun a118 e => ?_; clear Y
  clear h19; have h20 := pt_ F e; replace F := pu_ F e; clear e
  refine dt_ (i := 3) (l' := (lb_ 7 15)) gz23_7_3 rfl nsz23_7 (wanted_free rfl) K113 (fun _ _ => (yf2_ rfl (F.of h3))) fun a119 e => ?_
  have h21 := pt_ F e; replace F := pu_ F e; replace h20 := so_ e h20; clear e
  refine dt_ (i := 4) (l' := (lb_ 7 31)) gz23_7_4 rfl nsz23_7 (wanted_free rfl) K113 (fun W7 hS => (yk2_ rfl h21 (D115.keep hS ⟨m_b101, N_b101⟩))) fun a120 e => ?_
  clear h21; have h22 := pt_ F e; replace F := pu_ F e; replace h20 := so_ e h20; clear e
  refine dr_only (i := 5) (fuel := 1) (by kernel_rfl) ?_
  have Y : (execOp a120.eval oz23_7_5).run Tryz.prog w114 = .ok (.enter 38 #[.int .i64 t.i, .int .i64 10]) w114 := by unfold oz23_7_5; go_simp
  refine dr_call (l' := (lb_ 7 63)) gz23_7_5 rfl (by kernel_rfl) (wanted_free rfl) Y ((format_any t.i HT.out.at_.wk.2.1 (HV.out _ (KX.less fun g hg => ⟨Nat.lt_of_lt_of_le hg HBW, fun h => absurd hg (Nat.not_lt.2 (HB0.out g h))⟩))).mono ?_); clear Y
  rintro e9 w121 ⟨rfl, kk⟩
  replace KX := KX.trans kk.all
  replace KP := keep_onto KP kk
  replace K113 := K113.trans kk.all
  replace B101 := blk_on B101 kk
  clear kk
  refine ⟨_, rfl, K113, fun a122 e => ?_⟩
  clear h22; have h23 := pt_ F e; replace F := pu_ F e; replace h20 := so_ e h20; clear e
  refine dr_only (i := 6) (fuel := 0) (by kernel_rfl) ?_
  refine dr_call (l' := (lb_ 7 127)) gz23_7_6 rfl (by kernel_rfl) (wanted_free rfl) (yc2_ enz23_1037 rfl h20 h23) ((wstr_any (HW.out.on KP) (Lib.itoa t.i) (by have h := HL.out; rw [tree_1 HK.out, tx_v] at h; simp only [List.length_append, List.length_cons, List.length_nil] at h ⊢; omega)).mono ?_)
  rintro e9 w123 ⟨rfl, ⟨RR2, hw, hr⟩, kf⟩
  replace K113 := K113.trans (kf.less fun g hg => ⟨Nat.lt_of_lt_of_le hg.1 K113.size, hg.2⟩)
  have l_b101 := B101.lt; replace B101 := B101.keep kf ⟨l_b101, N_b101⟩
  replace N_b101 : ¬ RR2 b101 := fun h => (hr b101 h).elim N_b101 (fun h => absurd l_b101 (Nat.not_lt.2 h)); clear l_b101
  have HR2 : Hid (∀ k, RR2 k → R0 k ∨ W.heap.size ≤ k) := Lib.hid fun k hk => (hr k hk).elim (HRR.out k) (fun h => .inr (Nat.le_trans KX.size h))
  replace KX := KX.trans (kf.less fun g hg => ⟨Nat.lt_of_lt_of_le hg.1 KX.size, fun h => (HRR.out g h).elim hg.2 (fun h => absurd hg.1 (Nat.not_lt.2 h))⟩)
  clear HW HRR hr kf KP; have HW := Lib.hid hw; clear hw; have HRR := HR2; clear HR2
  obtain ⟨RR, hRR⟩ : ∃ q, q = RR2 := ⟨_, rfl⟩; rw [← hRR] at HW HRR N_b101; clear hRR RR2
  have kk := trivial
  clear kk
  have KP := Keep.refl (fun g => g < w123.heap.size) w123
  refine ⟨_, rfl, K113, fun a124 e => ?_⟩
  clear h20 h23; replace F := pu_ F e; clear e
  refine dr_end (by kernel_rfl) ?_
  replace h0 := F.of h0; replace h3 := F.of h3; have R := F.r; clear F
  clear K113 EKX EKP D115
  change (cz23_41).wp _ _ _ _
  refine wp_exit ?_
  change bodyPost Tryz.prog Tryz.f23 (fun e w' => e = .returned (.tuple #[]) ∧ Wr B R0 W w' b (l0 ++ t.tree.tx bareC)) .normal a124 w123
  refine bodyPost_end (results_none rfl _ _ _) R.defers ?_
  exact ⟨rfl, ⟨RR, by have hw := HW.out.on KP; rw [tree_1 HK.out, tx_v]; simpa [List.append_assoc] using hw, HRR.out⟩, KX⟩
set_option maxRecDepth 100000 in
set_option maxHeartbeats 4000000 in
theorem term2_w {k : Nat} {W : World} {B b c : Nat} {R0 S : Nat → Prop} {l0 : List UInt8} {t : Tm} {a : Option Addr} {f0 : Act} {w0 : World} (R : FrS 32 f0) (h0 : f0.tmps[0]? = some (.pointer (some ⟨b, 0, none⟩))) (h1 : f0.tmps[1]? = some (.agg #[.int .i64 t.k, .string (str t.nm), .int .i64 t.i, .slice a t.args.length c])) (KP : Keep (fun g => g < W.heap.size) W w0)  (HW : Hid (WAt B R0 W b l0)) (HV : Hid (VarsAt B W)) (HNS : Hid (t.tree.ns ≤ k + 1)) (HK : Hid (t.k = 2)) (HT : Hid (TmS S W t a c)) (HL : Hid (l0.length + (t.tree.tx bareC).length ≤ 140737488355328)) : cz23_0.wp Tryz.prog (bodyPost Tryz.prog Tryz.f23 (fun e w' => e = .returned (.tuple #[]) ∧ Wr B R0 W w' b (l0 ++ t.tree.tx bareC))) f0 w0 := by
  have HBW := HW.out.le; have HB0 : Hid (∀ k, R0 k → B ≤ k) := Lib.hid fun k hk => (HW.out.rr k hk).1; have HRR : Hid (∀ k, R0 k → R0 k ∨ W.heap.size ≤ k) := Lib.hid fun k hk => .inl hk
  have KX : Keep (fun g => g < W.heap.size ∧ ¬ R0 g) W w0 := KP.less fun g hg => hg.1
  obtain ⟨RR, hRR⟩ : ∃ q, q = R0 := ⟨_, rfl⟩; have HW2 : Hid (WAt B RR W b l0) := Lib.hid (by rw [hRR]; exact HW.out); have HR3 : Hid (∀ k, RR k → R0 k ∨ W.heap.size ≤ k) := Lib.hid (by rw [hRR]; exact HRR.out); clear HW HRR hRR; have HW := HW2; have HRR := HR3; clear HW2 HR3
  refine wp_seq (x := cz23_1) (y := cz23_2) ?_
  change (Code.region 0 Oz23_0 false).wp _ _ _ _
  refine reg_in (l := [0]) rfl ?_
  have F : FE_ _ [] f0 f0 := ⟨R, Ag_.refl _⟩; clear R
  have Y : (execOp f0.eval oz23_0_0).run Tryz.prog w0 = .ok (.value (.pointer (some ⟨w0.heap.size, 0, none⟩))) (w0.alloc (.cells #[.int .i64 t.k, .string (str t.nm), .int .i64 t.i, .slice a t.args.length c] 24)) := by have r1 := F.of h1; unfold oz23_0_0; go_simp
  have B101 := Blk.new w0 24 #[.int .i64 t.k, .string (str t.nm), .int .i64 t.i, .slice a t.args.length c]
  obtain ⟨w102, hw⟩ : ∃ x, x = w0.alloc (.cells #[.int .i64 t.k, .string (str t.nm), .int .i64 t.i, .slice a t.args.length c] 24) := ⟨_, rfl⟩; rw [← hw] at Y B101
  obtain ⟨b101, hb⟩ : ∃ x, x = w0.heap.size := ⟨_, rfl⟩; rw [← hb] at Y B101
  have LKP_b101 := lk_ hb KP; replace KP := ka_ hw KP; have LKX_b101 := lk_ hb KX; replace KX := ka_ hw KX; clear hw hb
  refine sv_ gz23_0_0 Y fun a103 e => ?_; clear Y
  have h3 := pt_ F e; replace F := pu_ F e; clear e
  refine st_end ?_
  replace h0 := F.of h0; clear h1; have R := F.r; clear F
  change (cz23_2).wp _ _ _ _
  refine wp_seq (x := cz23_3) (y := cz23_4) ?_
  change (Code.region 1 Oz23_1 false).wp _ _ _ _
  refine reg_in (l := [0, 1]) rfl ?_
  have F : FE_ _ [] a103 a103 := ⟨R, Ag_.refl _⟩; clear R
  refine sv_ gz23_1_0 (yf0_ rfl (F.of h3)) fun a104 e => ?_
  have h4 := pt_ F e; replace F := pu_ F e; clear e
  refine sv_ gz23_1_1 (yk0_ rfl h4 B101) fun a105 e => ?_
  clear h4; have h5 := pt_ F e; replace F := pu_ F e; clear e
  refine st_end ?_
  replace h0 := F.of h0; replace h3 := F.of h3; have R := F.r; clear F
  change (cz23_4).wp _ _ _ _
  refine wp_block (id := 0) (c := cz23_5) ?_
  refine wp_seq (x := cz23_6) (y := cz23_45) ?_
  refine wp_block (id := 4) (c := cz23_7) ?_
  refine wp_seq (x := cz23_8) (y := cz23_42) ?_
  refine wp_block (id := 3) (c := cz23_9) ?_
  refine wp_seq (x := cz23_10) (y := cz23_39) ?_
  refine wp_block (id := 2) (c := cz23_11) ?_
  refine wp_seq (x := cz23_12) (y := cz23_38) ?_
  refine wp_block (id := 1) (c := cz23_13) ?_
  refine wp_seq (x := cz23_14) (y := cz23_37) ?_
  refine wp_seq (x := cz23_15) (y := cz23_20) ?_
  refine wp_seq (x := cz23_16) (y := cz23_17) ?_
  change (Code.region 2 Oz23_2 false).wp _ _ _ _
  refine reg_in (l := [0, 1]) rfl ?_
  have F : FE_ _ [] a105 a105 := ⟨R, Ag_.refl _⟩; clear R
  have Y : (execOp a105.eval oz23_2_0).run Tryz.prog w102 = .ok (.value (.bool false)) w102 := by have r5 := F.of h5; have e1 : (t.k == 1) = false := (by rw [HK.out]; rfl); unfold oz23_2_0; go_simp
  refine sv_ gz23_2_0 Y fun a106 e => ?_; clear Y
  have h7 := pt_ F e; replace F := pu_ F e; clear e
  refine sv_ gz23_2_1 (ya_ rfl h7) fun a107 e => ?_
  clear h7; have h6 := pt_ F e; replace F := pu_ F e; clear e
  refine st_end ?_
  replace h0 := F.of h0; replace h3 := F.of h3; replace h5 := F.of h5; have R := F.r; clear F
  change (cz23_17).wp _ _ _ _
  refine wp_cond_false (x := cz23_18) (y := Code.skip) (eval_slot h6) ?_
  refine wp_skip ?_
  change (cz23_20).wp _ _ _ _
  refine wp_seq (x := cz23_21) (y := cz23_26) ?_
  refine wp_seq (x := cz23_22) (y := cz23_23) ?_
  change (Code.region 3 Oz23_3 false).wp _ _ _ _
  refine reg_in (l := [0, 1]) rfl ?_
  have F : FE_ _ [] a107 a107 := ⟨R, Ag_.refl _⟩; clear R
  have Y : (execOp a107.eval oz23_3_0).run Tryz.prog w102 = .ok (.value (.bool true)) w102 := by have r5 := F.of h5; have e1 : (t.k == 2) = true := (by rw [HK.out]; rfl); unfold oz23_3_0; go_simp
  refine sv_ gz23_3_0 Y fun a108 e => ?_; clear Y
  have h9 := pt_ F e; replace F := pu_ F e; clear e
  refine sv_ gz23_3_1 (ya_ rfl h9) fun a109 e => ?_
  clear h9; have h8 := pt_ F e; replace F := pu_ F e; clear e
  refine st_end ?_
  replace h0 := F.of h0; replace h3 := F.of h3; replace h5 := F.of h5; clear h6; have R := F.r; clear F
  change (cz23_23).wp _ _ _ _
  refine wp_cond_true (x := cz23_24) (y := Code.skip) (eval_slot h8) ?_
  refine wp_exit ?_
  change (cz23_39).wp _ _ _ _
  refine wp_seq (x := cz23_40) (y := cz23_41) ?_
  change (Code.region 7 Oz23_7 true).wp _ _ _ _
  have N_b101 : ¬ RR b101 := fun h => absurd (HW.out.rr b101 h).2 (Nat.not_lt.2 LKP_b101)
  have m_b101 : b101 < w102.heap.size := B101.lt
  have D112 := B101
  have K110 := (Keep.refl (fun g => g < w102.heap.size ∧ ¬ RR g) w102).drew
  have EKP := KP
  have EKX := KX
  refine dr_in (S := (fun W => Keep (fun g => g < w102.heap.size ∧ ¬ RR g) w102 W)) (n := 7) (l := lb_ 7 0) (by kernel_rfl) K110 rfl (by kernel_rfl) ?_
  replace KP := KP.drew
  replace KX := KX.drew
  replace B101 := B101.drew
  generalize w102.drew = w111 at K110 KP KX B101 ⊢
  have F : FE_ _ [] a109 a109 := ⟨R, Ag_.refl _⟩; clear R
  refine dt_ (i := 0) (l' := (lb_ 7 1)) gz23_7_0 rfl nsz23_7 (wanted_free rfl) K110 (fun _ _ => (ym_ rfl (F.of h0))) fun a113 e => ?_
  have h18 := pt_ F e; replace F := pu_ F e; clear e
  have Y : ∀ W, Keep (fun g => g < w102.heap.size ∧ ¬ RR g) w102 W → (execOp a113.eval oz23_7_1).run Tryz.prog W = .ok (.value (.pointer (some ⟨b, 0, none⟩))) W := by intro W7 hS; unfold oz23_7_1; go_simp
  refine dt_ (i := 1) (l' := (lb_ 7 3)) gz23_7_1 rfl nsz23_7 (wanted_free rfl) K110 Y fun a114 e => ?_; clear Y
  clear h18; have h19 := pt_ F e; replace F := pu_ F e; clear e
  have Y : ∀ W, Keep (fun g => g < w102.heap.size ∧ ¬ RR g) w102 W → (execOp a114.eval oz23_7_2).run Tryz.prog W = .ok (.value (.pointer (some ⟨b, 0, none⟩))) W := by intro W7 hS; unfold oz23_7_2; go_simp
  refine dt_ (i := 2) (l' := (lb_ 7 7)) gz23_7_2 rfl nsz23_7 (wanted_free rfl) K110 Y fun a115 e => ?_; clear Y
  clear h19; have h20 := pt_ F e; replace F := pu_ F e; clear e
  refine dt_ (i := 3) (l' := (lb_ 7 15)) gz23_7_3 rfl nsz23_7 (wanted_free rfl) K110 (fun _ _ => (yf2_ rfl (F.of h3))) fun a116 e => ?_
  have h21 := pt_ F e; replace F := pu_ F e; replace h20 := so_ e h20; clear e
  refine dt_ (i := 4) (l' := (lb_ 7 31)) gz23_7_4 rfl nsz23_7 (wanted_free rfl) K110 (fun W7 hS => (yk2_ rfl h21 (D112.keep hS ⟨m_b101, N_b101⟩))) fun a117 e => ?_
  clear h21; have h22 := pt_ F e; replace F := pu_ F e; replace h20 := so_ e h20; clear e
  refine dr_only (i := 5) (fuel := 1) (by kernel_rfl) ?_
  have Y : (execOp a117.eval oz23_7_5).run Tryz.prog w111 = .ok (.enter 38 #[.int .i64 t.i, .int .i64 10]) w111 := by unfold oz23_7_5; go_simp
  refine dr_call (l' := (lb_ 7 63)) gz23_7_5 rfl (by kernel_rfl) (wanted_free rfl) Y ((format_any t.i HT.out.at_.wk.2.1 (HV.out _ (KX.less fun g hg => ⟨Nat.lt_of_lt_of_le hg HBW, fun h => absurd hg (Nat.not_lt.2 (HB0.out g h))⟩))).mono ?_); clear Y
  rintro e9 w118 ⟨rfl, kk⟩
  replace KP := keep_onto KP kk
  replace KX := KX.trans kk.all
  replace K110 := K110.trans kk.all
  replace B101 := blk_on B101 kk
  clear kk
  refine ⟨_, rfl, K110, fun a119 e => ?_⟩
  clear h22; have h23 := pt_ F e; replace F := pu_ F e; replace h20 := so_ e h20; clear e
  refine dr_only (i := 6) (fuel := 0) (by kernel_rfl) ?_
  refine dr_call (l' := (lb_ 7 127)) gz23_7_6 rfl (by kernel_rfl) (wanted_free rfl) (yc2_ enz23_1037 rfl h20 h23) ((wstr_any (HW.out.on KP) (Lib.itoa t.i) (by have h := HL.out; rw [tree_2 HK.out, tx_n] at h; exact h)).mono ?_)
  rintro e9 w120 ⟨rfl, ⟨RR2, hw, hr⟩, kf⟩
  replace K110 := K110.trans (kf.less fun g hg => ⟨Nat.lt_of_lt_of_le hg.1 K110.size, hg.2⟩)
  have l_b101 := B101.lt; replace B101 := B101.keep kf ⟨l_b101, N_b101⟩
  replace N_b101 : ¬ RR2 b101 := fun h => (hr b101 h).elim N_b101 (fun h => absurd l_b101 (Nat.not_lt.2 h)); clear l_b101
  have HR2 : Hid (∀ k, RR2 k → R0 k ∨ W.heap.size ≤ k) := Lib.hid fun k hk => (hr k hk).elim (HRR.out k) (fun h => .inr (Nat.le_trans KX.size h))
  replace KX := KX.trans (kf.less fun g hg => ⟨Nat.lt_of_lt_of_le hg.1 KX.size, fun h => (HRR.out g h).elim hg.2 (fun h => absurd hg.1 (Nat.not_lt.2 h))⟩)
  clear HW HRR hr kf KP; have HW := Lib.hid hw; clear hw; have HRR := HR2; clear HR2
  obtain ⟨RR, hRR⟩ : ∃ q, q = RR2 := ⟨_, rfl⟩; rw [← hRR] at HW HRR N_b101; clear hRR RR2
  have kk := trivial
  clear kk
  have KP := Keep.refl (fun g => g < w120.heap.size) w120
  refine ⟨_, rfl, K110, fun a121 e => ?_⟩
  clear h20 h23; replace F := pu_ F e; clear e
  refine dr_end (by kernel_rfl) ?_
  replace h0 := F.of h0; replace h3 := F.of h3; clear h5; clear h8; have R := F.r; clear F
  clear K110 EKP EKX D112
  change (cz23_41).wp _ _ _ _
  refine wp_exit ?_
  change bodyPost Tryz.prog Tryz.f23 (fun e w' => e = .returned (.tuple #[]) ∧ Wr B R0 W w' b (l0 ++ t.tree.tx bareC)) .normal a121 w120
  refine bodyPost_end (results_none rfl _ _ _) R.defers ?_
  exact ⟨rfl, ⟨RR, by have hw := HW.out.on KP; rw [tree_2 HK.out, tx_n]; exact hw, HRR.out⟩, KX⟩
set_option maxRecDepth 100000 in
set_option maxHeartbeats 4000000 in
theorem term3_w {k : Nat} {W : World} {B b c : Nat} {R0 S : Nat → Prop} {l0 : List UInt8} {t : Tm} {a : Option Addr} {f0 : Act} {w0 : World} (R : FrS 32 f0) (h0 : f0.tmps[0]? = some (.pointer (some ⟨b, 0, none⟩))) (h1 : f0.tmps[1]? = some (.agg #[.int .i64 t.k, .string (str t.nm), .int .i64 t.i, .slice a t.args.length c])) (KP : Keep (fun g => g < W.heap.size) W w0)  (HW : Hid (WAt B R0 W b l0)) (HV : Hid (VarsAt B W)) (IHS : Hid (TermsW k)) (IHL : Hid (ListW k)) (HNS : Hid (t.tree.ns ≤ k + 1)) (HR : Hid (t.right = true)) (HK : Hid (t.k = 3)) (HNL : Hid (t.nm.length ≤ 4611686018427387904)) (HDJ : Hid (DJ S R0 W)) (HT : Hid (TmS S W t a c)) (HL : Hid (l0.length + (t.tree.tx bareC).length ≤ 140737488355328)) : cz23_0.wp Tryz.prog (bodyPost Tryz.prog Tryz.f23 (fun e w' => e = .returned (.tuple #[]) ∧ Wr B R0 W w' b (l0 ++ t.tree.tx bareC))) f0 w0 := by
  have HBW := HW.out.le; have HB0 : Hid (∀ k, R0 k → B ≤ k) := Lib.hid fun k hk => (HW.out.rr k hk).1; have HRR : Hid (∀ k, R0 k → R0 k ∨ W.heap.size ≤ k) := Lib.hid fun k hk => .inl hk
  have KX : Keep (fun g => g < W.heap.size ∧ ¬ R0 g) W w0 := KP.less fun g hg => hg.1
  obtain ⟨RR, hRR⟩ : ∃ q, q = R0 := ⟨_, rfl⟩; have HW2 : Hid (WAt B RR W b l0) := Lib.hid (by rw [hRR]; exact HW.out); have HR3 : Hid (∀ k, RR k → R0 k ∨ W.heap.size ≤ k) := Lib.hid (by rw [hRR]; exact HRR.out); clear HW HRR hRR; have HW := HW2; have HRR := HR3; clear HW2 HR3
  refine wp_seq (x := cz23_1) (y := cz23_2) ?_
  change (Code.region 0 Oz23_0 false).wp _ _ _ _
  refine reg_in (l := [0]) rfl ?_
  have F : FE_ _ [] f0 f0 := ⟨R, Ag_.refl _⟩; clear R
  have Y : (execOp f0.eval oz23_0_0).run Tryz.prog w0 = .ok (.value (.pointer (some ⟨w0.heap.size, 0, none⟩))) (w0.alloc (.cells #[.int .i64 t.k, .string (str t.nm), .int .i64 t.i, .slice a t.args.length c] 24)) := by have r1 := F.of h1; unfold oz23_0_0; go_simp
  have B101 := Blk.new w0 24 #[.int .i64 t.k, .string (str t.nm), .int .i64 t.i, .slice a t.args.length c]
  obtain ⟨w102, hw⟩ : ∃ x, x = w0.alloc (.cells #[.int .i64 t.k, .string (str t.nm), .int .i64 t.i, .slice a t.args.length c] 24) := ⟨_, rfl⟩; rw [← hw] at Y B101
  obtain ⟨b101, hb⟩ : ∃ x, x = w0.heap.size := ⟨_, rfl⟩; rw [← hb] at Y B101
  have LKP_b101 := lk_ hb KP; replace KP := ka_ hw KP; have LKX_b101 := lk_ hb KX; replace KX := ka_ hw KX; clear hw hb
  refine sv_ gz23_0_0 Y fun a103 e => ?_; clear Y
  have h3 := pt_ F e; replace F := pu_ F e; clear e
  refine st_end ?_
  replace h0 := F.of h0; clear h1; have R := F.r; clear F
  change (cz23_2).wp _ _ _ _
  refine wp_seq (x := cz23_3) (y := cz23_4) ?_
  change (Code.region 1 Oz23_1 false).wp _ _ _ _
  refine reg_in (l := [0, 1]) rfl ?_
  have F : FE_ _ [] a103 a103 := ⟨R, Ag_.refl _⟩; clear R
  refine sv_ gz23_1_0 (yf0_ rfl (F.of h3)) fun a104 e => ?_
  have h4 := pt_ F e; replace F := pu_ F e; clear e
  refine sv_ gz23_1_1 (yk0_ rfl h4 B101) fun a105 e => ?_
  clear h4; have h5 := pt_ F e; replace F := pu_ F e; clear e
  refine st_end ?_
  replace h0 := F.of h0; replace h3 := F.of h3; have R := F.r; clear F
  change (cz23_4).wp _ _ _ _
  refine wp_block (id := 0) (c := cz23_5) ?_
  refine wp_seq (x := cz23_6) (y := cz23_45) ?_
  refine wp_block (id := 4) (c := cz23_7) ?_
  refine wp_seq (x := cz23_8) (y := cz23_42) ?_
  refine wp_block (id := 3) (c := cz23_9) ?_
  refine wp_seq (x := cz23_10) (y := cz23_39) ?_
  refine wp_block (id := 2) (c := cz23_11) ?_
  refine wp_seq (x := cz23_12) (y := cz23_38) ?_
  refine wp_block (id := 1) (c := cz23_13) ?_
  refine wp_seq (x := cz23_14) (y := cz23_37) ?_
  refine wp_seq (x := cz23_15) (y := cz23_20) ?_
  refine wp_seq (x := cz23_16) (y := cz23_17) ?_
  change (Code.region 2 Oz23_2 false).wp _ _ _ _
  refine reg_in (l := [0, 1]) rfl ?_
  have F : FE_ _ [] a105 a105 := ⟨R, Ag_.refl _⟩; clear R
  have Y : (execOp a105.eval oz23_2_0).run Tryz.prog w102 = .ok (.value (.bool false)) w102 := by have r5 := F.of h5; have e1 : (t.k == 1) = false := (by rw [HK.out]; rfl); unfold oz23_2_0; go_simp
  refine sv_ gz23_2_0 Y fun a106 e => ?_; clear Y
  have h7 := pt_ F e; replace F := pu_ F e; clear e
  refine sv_ gz23_2_1 (ya_ rfl h7) fun a107 e => ?_
  clear h7; have h6 := pt_ F e; replace F := pu_ F e; clear e
  refine st_end ?_
  replace h0 := F.of h0; replace h3 := F.of h3; replace h5 := F.of h5; have R := F.r; clear F
  change (cz23_17).wp _ _ _ _
  refine wp_cond_false (x := cz23_18) (y := Code.skip) (eval_slot h6) ?_
  refine wp_skip ?_
  change (cz23_20).wp _ _ _ _
  refine wp_seq (x := cz23_21) (y := cz23_26) ?_
  refine wp_seq (x := cz23_22) (y := cz23_23) ?_
  change (Code.region 3 Oz23_3 false).wp _ _ _ _
  refine reg_in (l := [0, 1]) rfl ?_
  have F : FE_ _ [] a107 a107 := ⟨R, Ag_.refl _⟩; clear R
  have Y : (execOp a107.eval oz23_3_0).run Tryz.prog w102 = .ok (.value (.bool false)) w102 := by have r5 := F.of h5; have e1 : (t.k == 2) = false := (by rw [HK.out]; rfl); unfold oz23_3_0; go_simp
  refine sv_ gz23_3_0 Y fun a108 e => ?_; clear Y
  have h9 := pt_ F e; replace F := pu_ F e; clear e
  refine sv_ gz23_3_1 (ya_ rfl h9) fun a109 e => ?_
  clear h9; have h8 := pt_ F e; replace F := pu_ F e; clear e
  refine st_end ?_
  replace h0 := F.of h0; replace h3 := F.of h3; replace h5 := F.of h5; clear h6; have R := F.r; clear F
  change (cz23_23).wp _ _ _ _
  refine wp_cond_false (x := cz23_24) (y := Code.skip) (eval_slot h8) ?_
  refine wp_skip ?_
  change (cz23_26).wp _ _ _ _
  refine wp_seq (x := cz23_27) (y := cz23_32) ?_
  refine wp_seq (x := cz23_28) (y := cz23_29) ?_
  change (Code.region 4 Oz23_4 false).wp _ _ _ _
  refine reg_in (l := [0, 1]) rfl ?_
  have F : FE_ _ [] a109 a109 := ⟨R, Ag_.refl _⟩; clear R
  have Y : (execOp a109.eval oz23_4_0).run Tryz.prog w102 = .ok (.value (.bool true)) w102 := by have r5 := F.of h5; have e1 : (t.k == 3) = true := (by rw [HK.out]; rfl); unfold oz23_4_0; go_simp
  refine sv_ gz23_4_0 Y fun a110 e => ?_; clear Y
  have h11 := pt_ F e; replace F := pu_ F e; clear e
  refine sv_ gz23_4_1 (ya_ rfl h11) fun a111 e => ?_
  clear h11; have h10 := pt_ F e; replace F := pu_ F e; clear e
  refine st_end ?_
  replace h0 := F.of h0; replace h3 := F.of h3; replace h5 := F.of h5; clear h8; have R := F.r; clear F
  change (cz23_29).wp _ _ _ _
  refine wp_cond_true (x := cz23_30) (y := Code.skip) (eval_slot h10) ?_
  refine wp_exit ?_
  change (cz23_42).wp _ _ _ _
  refine wp_seq (x := cz23_43) (y := cz23_44) ?_
  change (Code.region 8 Oz23_8 false).wp _ _ _ _
  refine reg_in (l := [0, 1, 2, 3]) rfl ?_
  have F : FE_ _ [] a111 a111 := ⟨R, Ag_.refl _⟩; clear R
  refine sv_ gz23_8_0 (ym_ rfl (F.of h0)) fun a112 e => ?_
  have h25 := pt_ F e; replace F := pu_ F e; clear e
  refine sv_ gz23_8_1 (yf1_ rfl (F.of h3)) fun a113 e => ?_
  have h26 := pt_ F e; replace F := pu_ F e; replace h25 := so_ e h25; clear e
  refine sv_ gz23_8_2 (yk1_ rfl h26 B101) fun a114 e => ?_
  clear h26; have h27 := pt_ F e; replace F := pu_ F e; replace h25 := so_ e h25; clear e
  refine st_call gz23_8_3 rfl (wanted_free rfl) (yc2_ enz23_1033 rfl h25 h27) ((watom_any (L := t.nm) (HW.out.on KP) (HV.out.on (KX.less fun g hg => ⟨Nat.lt_of_lt_of_le hg HBW, fun h => absurd hg (Nat.not_lt.2 (HB0.out g h))⟩)) (by have h := HL.out; rw [tree_3 HK.out, tx_a] at h; exact h) HNL.out).mono ?_)
  rintro e9 w115 ⟨rfl, ⟨RR2, hw, hr⟩, kf⟩
  have N_b101 : ¬ RR b101 := fun h => absurd (HW.out.rr b101 h).2 (Nat.not_lt.2 LKP_b101)
  have l_b101 := B101.lt; replace B101 := B101.keep kf ⟨l_b101, N_b101⟩
  replace N_b101 : ¬ RR2 b101 := fun h => (hr b101 h).elim N_b101 (fun h => absurd l_b101 (Nat.not_lt.2 h)); clear l_b101
  have HR2 : Hid (∀ k, RR2 k → R0 k ∨ W.heap.size ≤ k) := Lib.hid fun k hk => (hr k hk).elim (HRR.out k) (fun h => .inr (Nat.le_trans KX.size h))
  replace KX := KX.trans (kf.less fun g hg => ⟨Nat.lt_of_lt_of_le hg.1 KX.size, fun h => (HRR.out g h).elim hg.2 (fun h => absurd hg.1 (Nat.not_lt.2 h))⟩)
  clear HW HRR hr kf KP; have HW := Lib.hid hw; clear hw; have HRR := HR2; clear HR2
  obtain ⟨RR, hRR⟩ : ∃ q, q = RR2 := ⟨_, rfl⟩; rw [← hRR] at HW HRR N_b101; clear hRR RR2
  have kk := trivial
  clear kk
  have KP := Keep.refl (fun g => g < w115.heap.size) w115
  refine ⟨_, rfl, fun a116 e => ?_⟩
  clear h25 h27; replace F := pu_ F e; clear e
  refine st_end ?_
  replace h0 := F.of h0; replace h3 := F.of h3; clear h5; clear h10; have R := F.r; clear F
  change (cz23_44).wp _ _ _ _
  refine wp_exit ?_
  change bodyPost Tryz.prog Tryz.f23 (fun e w' => e = .returned (.tuple #[]) ∧ Wr B R0 W w' b (l0 ++ t.tree.tx bareC)) .normal a116 w115
  refine bodyPost_end (results_none rfl _ _ _) R.defers ?_
  exact ⟨rfl, ⟨RR, by have hw := HW.out.on KP; rw [tree_3 HK.out, tx_a]; exact hw, HRR.out⟩, KX⟩
set_option maxRecDepth 100000 in
set_option maxHeartbeats 4000000 in
theorem term4_w {k : Nat} {W : World} {B b c : Nat} {R0 S : Nat → Prop} {l0 : List UInt8} {t : Tm} {a : Option Addr} {f0 : Act} {w0 : World} (R : FrS 32 f0) (h0 : f0.tmps[0]? = some (.pointer (some ⟨b, 0, none⟩))) (h1 : f0.tmps[1]? = some (.agg #[.int .i64 t.k, .string (str t.nm), .int .i64 t.i, .slice a t.args.length c])) (KP : Keep (fun g => g < W.heap.size) W w0)  (HW : Hid (WAt B R0 W b l0)) (HV : Hid (VarsAt B W)) (IHS : Hid (TermsW k)) (IHL : Hid (ListW k)) (HNS : Hid (t.tree.ns ≤ k + 1)) (HR : Hid (t.right = true)) (HK : Hid (t.k = 4)) (HNL : Hid (t.nm.length ≤ 4611686018427387904)) (HDJ : Hid (DJ S R0 W)) (HT : Hid (TmS S W t a c)) (HL : Hid (l0.length + (t.tree.tx bareC).length ≤ 140737488355328)) : cz23_0.wp Tryz.prog (bodyPost Tryz.prog Tryz.f23 (fun e w' => e = .returned (.tuple #[]) ∧ Wr B R0 W w' b (l0 ++ t.tree.tx bareC))) f0 w0 := by
  have HBW := HW.out.le; have HB0 : Hid (∀ k, R0 k → B ≤ k) := Lib.hid fun k hk => (HW.out.rr k hk).1; have HRR : Hid (∀ k, R0 k → R0 k ∨ W.heap.size ≤ k) := Lib.hid fun k hk => .inl hk
  have KX : Keep (fun g => g < W.heap.size ∧ ¬ R0 g) W w0 := KP.less fun g hg => hg.1
  obtain ⟨RR, hRR⟩ : ∃ q, q = R0 := ⟨_, rfl⟩; have HW2 : Hid (WAt B RR W b l0) := Lib.hid (by rw [hRR]; exact HW.out); have HR3 : Hid (∀ k, RR k → R0 k ∨ W.heap.size ≤ k) := Lib.hid (by rw [hRR]; exact HRR.out); clear HW HRR hRR; have HW := HW2; have HRR := HR3; clear HW2 HR3
  refine wp_seq (x := cz23_1) (y := cz23_2) ?_
  change (Code.region 0 Oz23_0 false).wp _ _ _ _
  refine reg_in (l := [0]) rfl ?_
  have F : FE_ _ [] f0 f0 := ⟨R, Ag_.refl _⟩; clear R
  have Y : (execOp f0.eval oz23_0_0).run Tryz.prog w0 = .ok (.value (.pointer (some ⟨w0.heap.size, 0, none⟩))) (w0.alloc (.cells #[.int .i64 t.k, .string (str t.nm), .int .i64 t.i, .slice a t.args.length c] 24)) := by have r1 := F.of h1; unfold oz23_0_0; go_simp
  have B101 := Blk.new w0 24 #[.int .i64 t.k, .string (str t.nm), .int .i64 t.i, .slice a t.args.length c]
  obtain ⟨w102, hw⟩ : ∃ x, x = w0.alloc (.cells #[.int .i64 t.k, .string (str t.nm), .int .i64 t.i, .slice a t.args.length c] 24) := ⟨_, rfl⟩; rw [← hw] at Y B101
  obtain ⟨b101, hb⟩ : ∃ x, x = w0.heap.size := ⟨_, rfl⟩; rw [← hb] at Y B101
  have LKP_b101 := lk_ hb KP; replace KP := ka_ hw KP; have LKX_b101 := lk_ hb KX; replace KX := ka_ hw KX; clear hw hb
  refine sv_ gz23_0_0 Y fun a103 e => ?_; clear Y
  have h3 := pt_ F e; replace F := pu_ F e; clear e
  refine st_end ?_
  replace h0 := F.of h0; clear h1; have R := F.r; clear F
  change (cz23_2).wp _ _ _ _
  refine wp_seq (x := cz23_3) (y := cz23_4) ?_
  change (Code.region 1 Oz23_1 false).wp _ _ _ _
  refine reg_in (l := [0, 1]) rfl ?_
  have F : FE_ _ [] a103 a103 := ⟨R, Ag_.refl _⟩; clear R
  refine sv_ gz23_1_0 (yf0_ rfl (F.of h3)) fun a104 e => ?_
  have h4 := pt_ F e; replace F := pu_ F e; clear e
  refine sv_ gz23_1_1 (yk0_ rfl h4 B101) fun a105 e => ?_
  clear h4; have h5 := pt_ F e; replace F := pu_ F e; clear e
  refine st_end ?_
  replace h0 := F.of h0; replace h3 := F.of h3; have R := F.r; clear F
  change (cz23_4).wp _ _ _ _
  refine wp_block (id := 0) (c := cz23_5) ?_
  refine wp_seq (x := cz23_6) (y := cz23_45) ?_
  refine wp_block (id := 4) (c := cz23_7) ?_
  refine wp_seq (x := cz23_8) (y := cz23_42) ?_
  refine wp_block (id := 3) (c := cz23_9) ?_
  refine wp_seq (x := cz23_10) (y := cz23_39) ?_
  refine wp_block (id := 2) (c := cz23_11) ?_
  refine wp_seq (x := cz23_12) (y := cz23_38) ?_
  refine wp_block (id := 1) (c := cz23_13) ?_
  refine wp_seq (x := cz23_14) (y := cz23_37) ?_
  refine wp_seq (x := cz23_15) (y := cz23_20) ?_
  refine wp_seq (x := cz23_16) (y := cz23_17) ?_
  change (Code.region 2 Oz23_2 false).wp _ _ _ _
  refine reg_in (l := [0, 1]) rfl ?_
  have F : FE_ _ [] a105 a105 := ⟨R, Ag_.refl _⟩; clear R
  have Y : (execOp a105.eval oz23_2_0).run Tryz.prog w102 = .ok (.value (.bool false)) w102 := by have r5 := F.of h5; have e1 : (t.k == 1) = false := (by rw [HK.out]; rfl); unfold oz23_2_0; go_simp
  refine sv_ gz23_2_0 Y fun a106 e => ?_; clear Y
  have h7 := pt_ F e; replace F := pu_ F e; clear e
  refine sv_ gz23_2_1 (ya_ rfl h7) fun a107 e => ?_
  clear h7; have h6 := pt_ F e; replace F := pu_ F e; clear e
  refine st_end ?_
  replace h0 := F.of h0; replace h3 := F.of h3; replace h5 := F.of h5; have R := F.r; clear F
  change (cz23_17).wp _ _ _ _
  refine wp_cond_false (x := cz23_18) (y := Code.skip) (eval_slot h6) ?_
  refine wp_skip ?_
  change (cz23_20).wp _ _ _ _
  refine wp_seq (x := cz23_21) (y := cz23_26) ?_
  refine wp_seq (x := cz23_22) (y := cz23_23) ?_
  change (Code.region 3 Oz23_3 false).wp _ _ _ _
  refine reg_in (l := [0, 1]) rfl ?_
  have F : FE_ _ [] a107 a107 := ⟨R, Ag_.refl _⟩; clear R
  have Y : (execOp a107.eval oz23_3_0).run Tryz.prog w102 = .ok (.value (.bool false)) w102 := by have r5 := F.of h5; have e1 : (t.k == 2) = false := (by rw [HK.out]; rfl); unfold oz23_3_0; go_simp
  refine sv_ gz23_3_0 Y fun a108 e => ?_; clear Y
  have h9 := pt_ F e; replace F := pu_ F e; clear e
  refine sv_ gz23_3_1 (ya_ rfl h9) fun a109 e => ?_
  clear h9; have h8 := pt_ F e; replace F := pu_ F e; clear e
  refine st_end ?_
  replace h0 := F.of h0; replace h3 := F.of h3; replace h5 := F.of h5; clear h6; have R := F.r; clear F
  change (cz23_23).wp _ _ _ _
  refine wp_cond_false (x := cz23_24) (y := Code.skip) (eval_slot h8) ?_
  refine wp_skip ?_
  change (cz23_26).wp _ _ _ _
  refine wp_seq (x := cz23_27) (y := cz23_32) ?_
  refine wp_seq (x := cz23_28) (y := cz23_29) ?_
  change (Code.region 4 Oz23_4 false).wp _ _ _ _
  refine reg_in (l := [0, 1]) rfl ?_
  have F : FE_ _ [] a109 a109 := ⟨R, Ag_.refl _⟩; clear R
  have Y : (execOp a109.eval oz23_4_0).run Tryz.prog w102 = .ok (.value (.bool false)) w102 := by have r5 := F.of h5; have e1 : (t.k == 3) = false := (by rw [HK.out]; rfl); unfold oz23_4_0; go_simp
  refine sv_ gz23_4_0 Y fun a110 e => ?_; clear Y
  have h11 := pt_ F e; replace F := pu_ F e; clear e
  refine sv_ gz23_4_1 (ya_ rfl h11) fun a111 e => ?_
  clear h11; have h10 := pt_ F e; replace F := pu_ F e; clear e
  refine st_end ?_
  replace h0 := F.of h0; replace h3 := F.of h3; replace h5 := F.of h5; clear h8; have R := F.r; clear F
  change (cz23_29).wp _ _ _ _
  refine wp_cond_false (x := cz23_30) (y := Code.skip) (eval_slot h10) ?_
  refine wp_skip ?_
  change (cz23_32).wp _ _ _ _
  refine wp_seq (x := cz23_33) (y := cz23_34) ?_
  change (Code.region 5 Oz23_5 false).wp _ _ _ _
  refine reg_in (l := [0, 1]) rfl ?_
  have F : FE_ _ [] a111 a111 := ⟨R, Ag_.refl _⟩; clear R
  have Y : (execOp a111.eval oz23_5_0).run Tryz.prog w102 = .ok (.value (.bool true)) w102 := by have r5 := F.of h5; have e1 : (t.k == 4) = true := (by rw [HK.out]; rfl); unfold oz23_5_0; go_simp
  refine sv_ gz23_5_0 Y fun a112 e => ?_; clear Y
  have h13 := pt_ F e; replace F := pu_ F e; clear e
  refine sv_ gz23_5_1 (ya_ rfl h13) fun a113 e => ?_
  clear h13; have h12 := pt_ F e; replace F := pu_ F e; clear e
  refine st_end ?_
  replace h0 := F.of h0; replace h3 := F.of h3; clear h5; clear h10; have R := F.r; clear F
  change (cz23_34).wp _ _ _ _
  refine wp_cond_true (x := cz23_35) (y := Code.skip) (eval_slot h12) ?_
  refine wp_exit ?_
  change (cz23_45).wp _ _ _ _
  refine wp_seq (x := cz23_46) (y := cz23_47) ?_
  change (Code.region 9 Oz23_9 false).wp _ _ _ _
  refine reg_in (l := [0, 1, 2]) rfl ?_
  have F : FE_ _ [] a113 a113 := ⟨R, Ag_.refl _⟩; clear R
  refine sv_ gz23_9_0 (ym_ rfl (F.of h0)) fun a114 e => ?_
  have h29 := pt_ F e; replace F := pu_ F e; clear e
  refine sv_ gz23_9_1 (yl4_ rfl (F.of h3) B101) fun a115 e => ?_
  have h30 := pt_ F e; replace F := pu_ F e; replace h29 := so_ e h29; clear e
  refine st_call gz23_9_2 rfl (wanted_free rfl) (yc2_ enz23_1039 rfl h29 h30) ((comp_of IHS.out IHL.out HNS.out HR.out HK.out (HW.out.on KP) (HV.out.on (KX.less fun g hg => ⟨Nat.lt_of_lt_of_le hg HBW, fun h => absurd hg (Nat.not_lt.2 (HB0.out g h))⟩)) (HDJ.out.next HRR.out KX.size) (HT.out.keep (HDJ.out.keep KX)) HL.out).mono ?_)
  rintro e9 w116 ⟨rfl, ⟨RR2, hw, hr⟩, kf⟩
  have N_b101 : ¬ RR b101 := fun h => absurd (HW.out.rr b101 h).2 (Nat.not_lt.2 LKP_b101)
  have l_b101 := B101.lt; replace B101 := B101.keep kf ⟨l_b101, N_b101⟩
  replace N_b101 : ¬ RR2 b101 := fun h => (hr b101 h).elim N_b101 (fun h => absurd l_b101 (Nat.not_lt.2 h)); clear l_b101
  have HR2 : Hid (∀ k, RR2 k → R0 k ∨ W.heap.size ≤ k) := Lib.hid fun k hk => (hr k hk).elim (HRR.out k) (fun h => .inr (Nat.le_trans KX.size h))
  replace KX := KX.trans (kf.less fun g hg => ⟨Nat.lt_of_lt_of_le hg.1 KX.size, fun h => (HRR.out g h).elim hg.2 (fun h => absurd hg.1 (Nat.not_lt.2 h))⟩)
  clear HW HRR hr kf KP; have HW := Lib.hid hw; clear hw; have HRR := HR2; clear HR2
  obtain ⟨RR, hRR⟩ : ∃ q, q = RR2 := ⟨_, rfl⟩; rw [← hRR] at HW HRR N_b101; clear hRR RR2
  have kk := trivial
  clear kk
  have KP := Keep.refl (fun g => g < w116.heap.size) w116
  refine ⟨_, rfl, fun a117 e => ?_⟩
  clear h29 h30; replace F := pu_ F e; clear e
  refine st_end ?_
  clear h0; clear h3; clear h12; have R := F.r; clear F
  change (cz23_47).wp _ _ _ _
  refine wp_exit ?_
  change bodyPost Tryz.prog Tryz.f23 (fun e w' => e = .returned (.tuple #[]) ∧ Wr B R0 W w' b (l0 ++ t.tree.tx bareC)) .normal a117 w116
  refine bodyPost_end (results_none rfl _ _ _) R.defers ?_
  exact ⟨rfl, ⟨RR, HW.out.on KP, HRR.out⟩, KX⟩
theorem ok_nm {t : Tm} (h : t.ok = true) (hk : t.k = 3 ∨ t.k = 4) : t.nm.length ≤ 64 := by
  rcases hk with hk | hk
  · rw [t.ok_eq, if_neg (by omega), if_neg (by omega), if_neg (by omega), if_pos hk] at h
    simpa using h
  · exact (Tm.ok_args h hk).2.2.2
theorem term_succ {k : Nat} (ihs : TermsW k) (ihl : ListW k) : TermW (k + 1) := fun W B b R0 S l0 t a c hns hr hw hv hd hT hl => by
  refine enter_sx Tryz.func23 bodyz23 rfl (by show (2 : Nat) ≤ 32; decide) fun f0 R0' hs => ?_
  have hok := (right_of.1 hr).1
  rcases Tm.ok_kind hok with hk | hk | hk | hk
  · exact term1_w R0' (hs 0 _ rfl) (hs 1 _ rfl) (Keep.refl _ W) (Lib.hid hw) (Lib.hid hv) (Lib.hid hns) (Lib.hid hk) (Lib.hid hT) (Lib.hid hl)
  · exact term2_w R0' (hs 0 _ rfl) (hs 1 _ rfl) (Keep.refl _ W) (Lib.hid hw) (Lib.hid hv) (Lib.hid hns) (Lib.hid hk) (Lib.hid hT) (Lib.hid hl)
  · exact term3_w R0' (hs 0 _ rfl) (hs 1 _ rfl) (Keep.refl _ W) (Lib.hid hw) (Lib.hid hv) (Lib.hid ihs) (Lib.hid ihl) (Lib.hid hns) (Lib.hid hr) (Lib.hid hk) (Lib.hid (Nat.le_trans (ok_nm hok (.inl hk)) (by decide))) (Lib.hid hd) (Lib.hid hT) (Lib.hid hl)
  · exact term4_w R0' (hs 0 _ rfl) (hs 1 _ rfl) (Keep.refl _ W) (Lib.hid hw) (Lib.hid hv) (Lib.hid ihs) (Lib.hid ihl) (Lib.hid hns) (Lib.hid hr) (Lib.hid hk) (Lib.hid (Nat.le_trans (ok_nm hok (.inr hk)) (by decide))) (Lib.hid hd) (Lib.hid hT) (Lib.hid hl)
theorem term_all : ∀ k, TermW k
  | 0 => fun W B b R0 S l0 t a c hns => by have := ns_pos t.tree; omega
  | k + 1 => term_succ (terms_of (term_all k)) (list_of (term_all k) (terms_of (term_all k)))
end Go.Proofs.YtfkbbbjicaedmaaGreatDoor
