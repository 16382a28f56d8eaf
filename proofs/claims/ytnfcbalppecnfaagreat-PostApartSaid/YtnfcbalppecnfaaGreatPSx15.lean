/-
  The document's Like and SameAll, of terms that are alike: walked with letter frames. No condition but where the terms lie.
-/
import Derived.Test.YtnfcbalppecnfaaGreatPSx7
import Derived.Test.YtnfcbalppecnfaaGreatPSx5
namespace Go.Proofs.YtnfcbalppecnfaaGreat
open Go.RowKit Go.Maps
set_option linter.unusedVariables false
set_option linter.unusedSimpArgs false
def o36_0_0 : Oper := ⟨some 2, Op.box 28 (Operand.tmp 0), 0, "ref.go:413", #[], none⟩
def o36_0_1 : Oper := ⟨some 3, Op.box 28 (Operand.tmp 1), 0, "ref.go:413", #[], none⟩
def o36_0_2 : Oper := ⟨some 4, Op.assign (Operand.const (Value.bool false)), 4, "ref.go:413", #[], none⟩
def O36_0 : Array Oper := List.toArray (o36_0_0 :: o36_0_1 :: o36_0_2 :: [])
theorem g36_0_0 : O36_0[0]? = some o36_0_0 := rfl
theorem g36_0_1 : O36_0[1]? = some o36_0_1 := rfl
theorem g36_0_2 : O36_0[2]? = some o36_0_2 := rfl
def c36_1 : Code := Code.region 0 O36_0 false
def o36_1_0 : Oper := ⟨some 5, Op.fieldAddr 28 (Operand.tmp 2) 0, 0, "ref.go:414", #[], none⟩
def o36_1_1 : Oper := ⟨some 6, Op.load 3 (Operand.tmp 5), 3, "ref.go:414", #[ed_ 0], none⟩
def o36_1_2 : Oper := ⟨some 7, Op.binOp Go.BinOp.eql 3 (Operand.tmp 6) (Operand.const (Value.int IntKind.i64 0)) 3, 4, "ref.go:414", #[ed_ 1], none⟩
def o36_1_3 : Oper := ⟨some 8, Op.move (Operand.tmp 7), 4, "ref.go:414", #[ed_ 2], none⟩
def o36_1_4 : Oper := ⟨some 9, Op.fieldAddr 28 (Operand.tmp 3) 0, 0, "ref.go:414", #[eg_ 3], some (3, false)⟩
def o36_1_5 : Oper := ⟨some 10, Op.load 3 (Operand.tmp 9), 3, "ref.go:414", #[ed_ 4, eg_ 3], some (3, false)⟩
def o36_1_6 : Oper := ⟨some 11, Op.binOp Go.BinOp.eql 3 (Operand.tmp 10) (Operand.const (Value.int IntKind.i64 0)) 3, 4, "ref.go:414", #[ed_ 5, eg_ 3], some (3, false)⟩
def o36_1_7 : Oper := ⟨some 12, Op.pick (Operand.tmp 8) (Operand.const (Value.bool true)) (Operand.tmp 11), 4, "ref.go:414", #[ed_ 3, ed_ 6], none⟩
def O36_1 : Array Oper := List.toArray (o36_1_0 :: o36_1_1 :: o36_1_2 :: o36_1_3 :: o36_1_4 :: o36_1_5 :: o36_1_6 :: o36_1_7 :: [])
theorem g36_1_0 : O36_1[0]? = some o36_1_0 := rfl
theorem g36_1_1 : O36_1[1]? = some o36_1_1 := rfl
theorem g36_1_2 : O36_1[2]? = some o36_1_2 := rfl
theorem g36_1_3 : O36_1[3]? = some o36_1_3 := rfl
theorem g36_1_4 : O36_1[4]? = some o36_1_4 := rfl
theorem g36_1_5 : O36_1[5]? = some o36_1_5 := rfl
theorem g36_1_6 : O36_1[6]? = some o36_1_6 := rfl
theorem g36_1_7 : O36_1[7]? = some o36_1_7 := rfl
def c36_4 : Code := Code.region 1 O36_1 false
def o36_2_0 : Oper := ⟨some 13, Op.fieldAddr 28 (Operand.tmp 2) 0, 0, "ref.go:415", #[], none⟩
def o36_2_1 : Oper := ⟨some 14, Op.load 3 (Operand.tmp 13), 3, "ref.go:415", #[ed_ 0], none⟩
def o36_2_2 : Oper := ⟨some 15, Op.fieldAddr 28 (Operand.tmp 3) 0, 0, "ref.go:415", #[], none⟩
def o36_2_3 : Oper := ⟨some 16, Op.load 3 (Operand.tmp 15), 3, "ref.go:415", #[ed_ 2], none⟩
def o36_2_4 : Oper := ⟨some 17, Op.binOp Go.BinOp.eql 3 (Operand.tmp 14) (Operand.tmp 16) 3, 4, "ref.go:415", #[ed_ 1, ed_ 3], none⟩
def o36_2_5 : Oper := ⟨some 4, Op.assign (Operand.tmp 17), 4, "ref.go:415", #[ed_ 4, ep_ 0, ep_ 1, ep_ 2, ep_ 3, ep_ 4], none⟩
def O36_2 : Array Oper := List.toArray (o36_2_0 :: o36_2_1 :: o36_2_2 :: o36_2_3 :: o36_2_4 :: o36_2_5 :: [])
theorem g36_2_0 : O36_2[0]? = some o36_2_0 := rfl
theorem g36_2_1 : O36_2[1]? = some o36_2_1 := rfl
theorem g36_2_2 : O36_2[2]? = some o36_2_2 := rfl
theorem g36_2_3 : O36_2[3]? = some o36_2_3 := rfl
theorem g36_2_4 : O36_2[4]? = some o36_2_4 := rfl
theorem g36_2_5 : O36_2[5]? = some o36_2_5 := rfl
def c36_7 : Code := Code.region 2 O36_2 false
def c36_6 : Code := Code.seq c36_7 Code.ret
def c36_5 : Code := Code.cond (Operand.tmp 12) c36_6 Code.skip
def c36_3 : Code := Code.seq c36_4 c36_5
def o36_3_0 : Oper := ⟨some 18, Op.load 28 (Operand.tmp 2), 28, "ref.go:417", #[], none⟩
def o36_3_1 : Oper := ⟨some 19, Op.load 28 (Operand.tmp 3), 28, "ref.go:417", #[], none⟩
def o36_3_2 : Oper := ⟨some 20, Op.call { callee := Callee.value (Operand.func 33), args := #[Operand.tmp 18, Operand.tmp 19], argTypes := #[28, 28] }, 4, "ref.go:417", #[ed_ 0, ed_ 1], none⟩
def o36_3_3 : Oper := ⟨some 4, Op.assign (Operand.tmp 20), 4, "ref.go:417", #[ed_ 2, ec_ 2, ep_ 0, ep_ 1, ep_ 2], none⟩
def O36_3 : Array Oper := List.toArray (o36_3_0 :: o36_3_1 :: o36_3_2 :: o36_3_3 :: [])
theorem g36_3_0 : O36_3[0]? = some o36_3_0 := rfl
theorem g36_3_1 : O36_3[1]? = some o36_3_1 := rfl
theorem g36_3_2 : O36_3[2]? = some o36_3_2 := rfl
theorem g36_3_3 : O36_3[3]? = some o36_3_3 := rfl
def c36_11 : Code := Code.region 3 O36_3 false
def c36_10 : Code := Code.seq c36_11 Code.ret
def c36_2 : Code := Code.seq c36_3 c36_10
def c36_0 : Code := Code.seq c36_1 c36_2
theorem en36_38 : Enters Tryz.prog 33 := enters_of Tryz.func33 (by kernel_rfl) rfl
theorem body36 : Tryz.f20.body = some c36_0 := by kernel_rfl
set_option maxRecDepth 100000 in
set_option maxHeartbeats 4000000 in
theorem like_z {W : World} {t u : Tm} {a b : Option Addr} {c d : Nat} {f0 : Act} {w0 : World} (R : FrS 21 f0) (h0 : f0.tmps[0]? = some (.agg #[.int .i64 t.k, .string (str t.nm), .int .i64 t.i, .slice a t.args.length c])) (h1 : f0.tmps[1]? = some (.agg #[.int .i64 u.k, .string (str u.nm), .int .i64 u.i, .slice b u.args.length d])) (K1 : Keep (fun g => g < W.heap.size) W w0)  (HZ : Hid (t.k = 0 ∧ u.k = 0)) : c36_0.wp Tryz.prog (bodyPost Tryz.prog Tryz.f20 (fun e w' => e = .returned (.bool true) ∧ Keep (fun g => g < W.heap.size) W w')) f0 w0 := by
  refine wp_seq (x := c36_1) (y := c36_2) ?_
  change (Code.region 0 O36_0 false).wp _ _ _ _
  refine reg_in (l := [0, 1, 2]) rfl ?_
  have F : FE_ _ [] f0 f0 := ⟨R, Ag_.refl _⟩; clear R
  have Y : (execOp f0.eval o36_0_0).run Tryz.prog w0 = .ok (.value (.pointer (some ⟨w0.heap.size, 0, none⟩))) (w0.alloc (.cells #[.int .i64 t.k, .string (str t.nm), .int .i64 t.i, .slice a t.args.length c] 28)) := by have r0 := F.of h0; unfold o36_0_0; go_simp
  have B1 := Blk.new w0 28 #[.int .i64 t.k, .string (str t.nm), .int .i64 t.i, .slice a t.args.length c]
  obtain ⟨w2, hw⟩ : ∃ x, x = w0.alloc (.cells #[.int .i64 t.k, .string (str t.nm), .int .i64 t.i, .slice a t.args.length c] 28) := ⟨_, rfl⟩; rw [← hw] at Y B1
  obtain ⟨b1, hb⟩ : ∃ x, x = w0.heap.size := ⟨_, rfl⟩; rw [← hb] at Y B1
  have LK1_b1 := lk_ hb K1; replace K1 := ka_ hw K1; clear hw hb
  refine sv_ g36_0_0 Y fun a3 e => ?_; clear Y
  have h2 := pt_ F e; replace F := pu_ F e; clear e
  have Y : (execOp a3.eval o36_0_1).run Tryz.prog w2 = .ok (.value (.pointer (some ⟨w2.heap.size, 0, none⟩))) (w2.alloc (.cells #[.int .i64 u.k, .string (str u.nm), .int .i64 u.i, .slice b u.args.length d] 28)) := by have r1 := F.of h1; unfold o36_0_1; go_simp
  have B4 := Blk.new w2 28 #[.int .i64 u.k, .string (str u.nm), .int .i64 u.i, .slice b u.args.length d]
  obtain ⟨w5, hw⟩ : ∃ x, x = w2.alloc (.cells #[.int .i64 u.k, .string (str u.nm), .int .i64 u.i, .slice b u.args.length d] 28) := ⟨_, rfl⟩; rw [← hw] at Y B4
  obtain ⟨b4, hb⟩ : ∃ x, x = w2.heap.size := ⟨_, rfl⟩; rw [← hb] at Y B4
  have Nb1_b4 := nb_ hb B1; replace B1 := ba_ hw B1; have LK1_b4 := lk_ hb K1; replace K1 := ka_ hw K1; clear hw hb
  refine sv_ g36_0_1 Y fun a6 e => ?_; clear Y
  have h3 := pt_ F e; replace F := pu_ F e; replace h2 := so_ e h2; clear e
  have Y : (execOp a6.eval o36_0_2).run Tryz.prog w5 = .ok (.value (.bool false)) w5 := by unfold o36_0_2; go_simp
  refine sv_ g36_0_2 Y fun a7 e => ?_; clear Y
  have h4 := pt_ F e; replace F := pu_ F e; replace h2 := so_ e h2; replace h3 := so_ e h3; clear e
  refine st_end ?_
  clear h0; clear h1; have R := F.r; clear F
  change (c36_2).wp _ _ _ _
  refine wp_seq (x := c36_3) (y := c36_10) ?_
  refine wp_seq (x := c36_4) (y := c36_5) ?_
  change (Code.region 1 O36_1 false).wp _ _ _ _
  refine reg_in (l := [0, 1, 2, 3, 4, 5, 6, 7]) rfl ?_
  have F : FE_ _ [] a7 a7 := ⟨R, Ag_.refl _⟩; clear R
  refine sv_ g36_1_0 (yf0_ rfl (F.of h2)) fun a8 e => ?_
  have h5 := pt_ F e; replace F := pu_ F e; clear e
  refine sv_ g36_1_1 (yk0_ rfl h5 B1) fun a9 e => ?_
  clear h5; have h6 := pt_ F e; replace F := pu_ F e; clear e
  have Y : (execOp a9.eval o36_1_2).run Tryz.prog w5 = .ok (.value (.bool true)) w5 := by have hk := HZ.out.1; unfold o36_1_2; go_simp
  refine sv_ g36_1_2 Y fun a10 e => ?_; clear Y
  clear h6; have h7 := pt_ F e; replace F := pu_ F e; clear e
  refine sv_ g36_1_3 (ym_ rfl h7) fun a11 e => ?_
  clear h7; have h8 := pt_ F e; replace F := pu_ F e; clear e
  refine st_not g36_1_4 rfl (wanted_is (j := 3) (d := 8) rfl rfl h8 rfl) fun a12 e => ?_
  have h9 := pt_ F e; replace F := pu_ F e; replace h8 := so_ e h8; clear e
  refine st_not g36_1_5 rfl (wanted_is (j := 3) (d := 8) rfl rfl h8 rfl) fun a13 e => ?_
  clear h9; have h10 := pt_ F e; replace F := pu_ F e; replace h8 := so_ e h8; clear e
  refine st_not g36_1_6 rfl (wanted_is (j := 3) (d := 8) rfl rfl h8 rfl) fun a14 e => ?_
  clear h10; have h11 := pt_ F e; replace F := pu_ F e; replace h8 := so_ e h8; clear e
  have Y : (execOp a14.eval o36_1_7).run Tryz.prog w5 = .ok (.value (.bool true)) w5 := by unfold o36_1_7; go_simp
  refine sv_ g36_1_7 Y fun a15 e => ?_; clear Y
  clear h8 h11; have h12 := pt_ F e; replace F := pu_ F e; clear e
  refine st_end ?_
  replace h2 := F.of h2; replace h3 := F.of h3; replace h4 := F.of h4; have R := F.r; clear F
  change (c36_5).wp _ _ _ _
  refine wp_cond_true (x := c36_6) (y := Code.skip) (eval_slot h12) ?_
  refine wp_seq (x := c36_7) (y := Code.ret) ?_
  change (Code.region 2 O36_2 false).wp _ _ _ _
  refine reg_in (l := [0, 1, 2, 3, 4, 5]) rfl ?_
  have F : FE_ _ [] a15 a15 := ⟨R, Ag_.refl _⟩; clear R
  refine sv_ g36_2_0 (yf0_ rfl (F.of h2)) fun a16 e => ?_
  have h13 := pt_ F e; replace F := pu_ F e; clear e
  refine sv_ g36_2_1 (yk0_ rfl h13 B1) fun a17 e => ?_
  clear h13; have h14 := pt_ F e; replace F := pu_ F e; clear e
  refine sv_ g36_2_2 (yf0_ rfl (F.of h3)) fun a18 e => ?_
  have h15 := pt_ F e; replace F := pu_ F e; replace h14 := so_ e h14; clear e
  refine sv_ g36_2_3 (yk0_ rfl h15 B4) fun a19 e => ?_
  clear h15; have h16 := pt_ F e; replace F := pu_ F e; replace h14 := so_ e h14; clear e
  have Y : (execOp a19.eval o36_2_4).run Tryz.prog w5 = .ok (.value (.bool true)) w5 := by have hk1 := HZ.out.1; have hk2 := HZ.out.2; unfold o36_2_4; go_simp
  refine sv_ g36_2_4 Y fun a20 e => ?_; clear Y
  clear h14 h16; have h17 := pt_ F e; replace F := pu_ F e; clear e
  refine sv_ g36_2_5 (ya_ rfl h17) fun a21 e => ?_
  clear h17 h4; have h4 := pt_ F e; replace F := pu_ F e; clear e
  refine st_end ?_
  replace h2 := F.of h2; replace h3 := F.of h3; clear h12; have R := F.r; clear F
  change (Code.ret).wp _ _ _ _
  refine wp_ret ?_
  change bodyPost Tryz.prog Tryz.f20 (fun e w' => e = .returned (.bool true) ∧ Keep (fun g => g < W.heap.size) W w') .ret a21 w5
  refine ret_one rfl R h4 ?_
  exact ⟨rfl, K1⟩
set_option maxRecDepth 100000 in
set_option maxHeartbeats 4000000 in
theorem like_r {W : World} {t u : Tm} {a b : Option Addr} {c d : Nat} {f0 : Act} {w0 : World} (R : FrS 21 f0) (h0 : f0.tmps[0]? = some (.agg #[.int .i64 t.k, .string (str t.nm), .int .i64 t.i, .slice a t.args.length c])) (h1 : f0.tmps[1]? = some (.agg #[.int .i64 u.k, .string (str u.nm), .int .i64 u.i, .slice b u.args.length d])) (K1 : Keep (fun g => g < W.heap.size) W w0)  (HZ : Hid (¬ t.k = 0 ∧ ¬ u.k = 0)) (HT : Hid (TmAt W.heap.size W t a c)) (HU : Hid (TmAt W.heap.size W u b d)) (HR : Hid (t.right = true ∧ u.right = true ∧ t.tree = u.tree)) : c36_0.wp Tryz.prog (bodyPost Tryz.prog Tryz.f20 (fun e w' => e = .returned (.bool true) ∧ Keep (fun g => g < W.heap.size) W w')) f0 w0 := by
  refine wp_seq (x := c36_1) (y := c36_2) ?_
  change (Code.region 0 O36_0 false).wp _ _ _ _
  refine reg_in (l := [0, 1, 2]) rfl ?_
  have F : FE_ _ [] f0 f0 := ⟨R, Ag_.refl _⟩; clear R
  have Y : (execOp f0.eval o36_0_0).run Tryz.prog w0 = .ok (.value (.pointer (some ⟨w0.heap.size, 0, none⟩))) (w0.alloc (.cells #[.int .i64 t.k, .string (str t.nm), .int .i64 t.i, .slice a t.args.length c] 28)) := by have r0 := F.of h0; unfold o36_0_0; go_simp
  have B22 := Blk.new w0 28 #[.int .i64 t.k, .string (str t.nm), .int .i64 t.i, .slice a t.args.length c]
  obtain ⟨w23, hw⟩ : ∃ x, x = w0.alloc (.cells #[.int .i64 t.k, .string (str t.nm), .int .i64 t.i, .slice a t.args.length c] 28) := ⟨_, rfl⟩; rw [← hw] at Y B22
  obtain ⟨b22, hb⟩ : ∃ x, x = w0.heap.size := ⟨_, rfl⟩; rw [← hb] at Y B22
  have LK1_b22 := lk_ hb K1; replace K1 := ka_ hw K1; clear hw hb
  refine sv_ g36_0_0 Y fun a24 e => ?_; clear Y
  have h2 := pt_ F e; replace F := pu_ F e; clear e
  have Y : (execOp a24.eval o36_0_1).run Tryz.prog w23 = .ok (.value (.pointer (some ⟨w23.heap.size, 0, none⟩))) (w23.alloc (.cells #[.int .i64 u.k, .string (str u.nm), .int .i64 u.i, .slice b u.args.length d] 28)) := by have r1 := F.of h1; unfold o36_0_1; go_simp
  have B25 := Blk.new w23 28 #[.int .i64 u.k, .string (str u.nm), .int .i64 u.i, .slice b u.args.length d]
  obtain ⟨w26, hw⟩ : ∃ x, x = w23.alloc (.cells #[.int .i64 u.k, .string (str u.nm), .int .i64 u.i, .slice b u.args.length d] 28) := ⟨_, rfl⟩; rw [← hw] at Y B25
  obtain ⟨b25, hb⟩ : ∃ x, x = w23.heap.size := ⟨_, rfl⟩; rw [← hb] at Y B25
  have Nb22_b25 := nb_ hb B22; replace B22 := ba_ hw B22; have LK1_b25 := lk_ hb K1; replace K1 := ka_ hw K1; clear hw hb
  refine sv_ g36_0_1 Y fun a27 e => ?_; clear Y
  have h3 := pt_ F e; replace F := pu_ F e; replace h2 := so_ e h2; clear e
  have Y : (execOp a27.eval o36_0_2).run Tryz.prog w26 = .ok (.value (.bool false)) w26 := by unfold o36_0_2; go_simp
  refine sv_ g36_0_2 Y fun a28 e => ?_; clear Y
  have h4 := pt_ F e; replace F := pu_ F e; replace h2 := so_ e h2; replace h3 := so_ e h3; clear e
  refine st_end ?_
  clear h0; clear h1; have R := F.r; clear F
  change (c36_2).wp _ _ _ _
  refine wp_seq (x := c36_3) (y := c36_10) ?_
  refine wp_seq (x := c36_4) (y := c36_5) ?_
  change (Code.region 1 O36_1 false).wp _ _ _ _
  refine reg_in (l := [0, 1, 2, 3, 4, 5, 6, 7]) rfl ?_
  have F : FE_ _ [] a28 a28 := ⟨R, Ag_.refl _⟩; clear R
  refine sv_ g36_1_0 (yf0_ rfl (F.of h2)) fun a29 e => ?_
  have h5 := pt_ F e; replace F := pu_ F e; clear e
  refine sv_ g36_1_1 (yk0_ rfl h5 B22) fun a30 e => ?_
  clear h5; have h6 := pt_ F e; replace F := pu_ F e; clear e
  have Y : (execOp a30.eval o36_1_2).run Tryz.prog w26 = .ok (.value (.bool false)) w26 := by have hk := HZ.out.1; unfold o36_1_2; go_simp
  refine sv_ g36_1_2 Y fun a31 e => ?_; clear Y
  clear h6; have h7 := pt_ F e; replace F := pu_ F e; clear e
  refine sv_ g36_1_3 (ym_ rfl h7) fun a32 e => ?_
  clear h7; have h8 := pt_ F e; replace F := pu_ F e; clear e
  refine st_val g36_1_4 rfl (wanted_is (j := 3) (d := 8) rfl rfl h8 rfl) (yf0_ rfl (F.of h3)) fun a33 e => ?_
  have h9 := pt_ F e; replace F := pu_ F e; replace h8 := so_ e h8; clear e
  refine st_val g36_1_5 rfl (wanted_is (j := 3) (d := 8) rfl rfl h8 rfl) (yk0_ rfl h9 B25) fun a34 e => ?_
  clear h9; have h10 := pt_ F e; replace F := pu_ F e; replace h8 := so_ e h8; clear e
  have Y : (execOp a34.eval o36_1_6).run Tryz.prog w26 = .ok (.value (.bool false)) w26 := by have hk := HZ.out.2; unfold o36_1_6; go_simp
  refine st_val g36_1_6 rfl (wanted_is (j := 3) (d := 8) rfl rfl h8 rfl) Y fun a35 e => ?_; clear Y
  clear h10; have h11 := pt_ F e; replace F := pu_ F e; replace h8 := so_ e h8; clear e
  have Y : (execOp a35.eval o36_1_7).run Tryz.prog w26 = .ok (.value (.bool false)) w26 := by unfold o36_1_7; go_simp
  refine sv_ g36_1_7 Y fun a36 e => ?_; clear Y
  clear h8 h11; have h12 := pt_ F e; replace F := pu_ F e; clear e
  refine st_end ?_
  replace h2 := F.of h2; replace h3 := F.of h3; replace h4 := F.of h4; have R := F.r; clear F
  change (c36_5).wp _ _ _ _
  refine wp_cond_false (x := c36_6) (y := Code.skip) (eval_slot h12) ?_
  refine wp_skip ?_
  change (c36_10).wp _ _ _ _
  refine wp_seq (x := c36_11) (y := Code.ret) ?_
  change (Code.region 3 O36_3 false).wp _ _ _ _
  refine reg_in (l := [0, 1, 2, 3]) rfl ?_
  have F : FE_ _ [] a36 a36 := ⟨R, Ag_.refl _⟩; clear R
  refine sv_ g36_3_0 (yl4_ rfl (F.of h2) B22) fun a37 e => ?_
  have h18 := pt_ F e; replace F := pu_ F e; clear e
  refine sv_ g36_3_1 (yl4_ rfl (F.of h3) B25) fun a38 e => ?_
  have h19 := pt_ F e; replace F := pu_ F e; replace h18 := so_ e h18; clear e
  refine st_call g36_3_2 rfl (wanted_free rfl) (yc2_ en36_38 rfl h18 h19) ((refsame_sx (HT.out.on K1) (HU.out.on K1) HR.out.1 HR.out.2.1 HR.out.2.2).mono ?_)
  rintro e9 w39 ⟨rfl, kk⟩
  replace K1 := keep_onto K1 kk
  replace B22 := blk_on B22 kk
  replace B25 := blk_on B25 kk
  clear kk
  refine ⟨_, rfl, fun a40 e => ?_⟩
  clear h18 h19; have h20 := pt_ F e; replace F := pu_ F e; clear e
  refine sv_ g36_3_3 (ya_ rfl h20) fun a41 e => ?_
  clear h20 h4; have h4 := pt_ F e; replace F := pu_ F e; clear e
  refine st_end ?_
  clear h2; clear h3; clear h12; have R := F.r; clear F
  change (Code.ret).wp _ _ _ _
  refine wp_ret ?_
  change bodyPost Tryz.prog Tryz.f20 (fun e w' => e = .returned (.bool true) ∧ Keep (fun g => g < W.heap.size) W w') .ret a41 w39
  refine ret_one rfl R h4 ?_
  exact ⟨rfl, K1⟩
theorem right_kind {t : Tm} (h : t.right = true) : ¬ t.k = 0 := fun e => by
  rcases Tm.ok_kind (right_of.1 h).1 with h | h | h | h <;> omega
theorem refLike_any {W : World} {t u : Tm} {a b : Option Addr} {c d : Nat} (hT : TmAt W.heap.size W t a c) (hU : TmAt W.heap.size W u b d) (h : (t.k = 0 ∧ u.k = 0) ∨ (t.right = true ∧ u.right = true ∧ t.tree = u.tree)) : Calls Tryz.prog 20 #[tv t a c, tv u b d] W fun e w' => e = .returned (.bool true) ∧ Keep (fun g => g < W.heap.size) W w' := by
  refine enter_sx Tryz.func20 body36 rfl (by show (2 : Nat) ≤ 21; decide) fun f0 R hs => ?_
  rcases h with h | h
  · exact like_z R (hs 0 _ rfl) (hs 1 _ rfl) (Keep.refl _ W) (Lib.hid h)
  · exact like_r R (hs 0 _ rfl) (hs 1 _ rfl) (Keep.refl _ W) (Lib.hid ⟨right_kind h.1, right_kind h.2.1⟩) (Lib.hid hT) (Lib.hid hU) (Lib.hid h)
end Go.Proofs.YtnfcbalppecnfaaGreat
