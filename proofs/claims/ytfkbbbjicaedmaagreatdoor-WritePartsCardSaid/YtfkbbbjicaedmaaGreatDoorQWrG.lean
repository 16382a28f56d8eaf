/-
  A name is written, in quotes where it needs them; an atom. Condition: fewer than 2^47 bytes; the listed variables.
-/
import Derived.Test.YtfkbbbjicaedmaaGreatDoorQWrF
import Derived.Test.YtfkbbbjicaedmaaGreatDoorQSx7
namespace Go.Proofs.YtfkbbbjicaedmaaGreatDoor
open Go.RowKit Go.Maps
set_option linter.unusedVariables false
set_option linter.unusedSimpArgs false
theorem take_esc {L : List UInt8} {j : Nat} {c : UInt8} (h : L[j]? = some c) : (L.take (j + 1)).flatMap escX = (L.take j).flatMap escX ++ escX c := by
  obtain ⟨hlt, rfl⟩ := List.getElem?_eq_some_iff.1 h
  rw [List.take_succ_eq_append_getElem hlt, List.flatMap_append]
  simp
theorem esc_len (L : List UInt8) {j : Nat} {c : UInt8} (h : L[j]? = some c) : ((L.take j).flatMap escX).length + 1 ≤ (L.flatMap escX).length := by
  obtain ⟨hlt, e⟩ := List.getElem?_eq_some_iff.1 h
  have h1 : L.flatMap escX = (L.take j).flatMap escX ++ (L.drop j).flatMap escX := by rw [← List.flatMap_append, List.take_append_drop]
  rw [h1, List.length_append, List.drop_eq_getElem_cons hlt, List.flatMap_cons, List.length_append]
  obtain ⟨d, r, hd, _⟩ := esc_head L[j]
  rw [hd]; simp; omega
def VarsAt (B : Nat) (W : World) : Prop := ∀ w', Keep (fun g => g < B) W w' → LxVars w'
def oz42_0_0 : Oper := ⟨some 6, Op.move (Operand.tmp 1), 9, "writer.go:43", #[], none⟩
def oz42_0_1 : Oper := ⟨some 7, Op.call { callee := Callee.value (Operand.func 50), args := #[Operand.tmp 6], argTypes := #[9] }, 4, "writer.go:43", #[ed_ 0], none⟩
def Oz42_0 : Array Oper := List.toArray (oz42_0_0 :: oz42_0_1 :: [])
theorem gz42_0_0 : Oz42_0[0]? = some oz42_0_0 := rfl
theorem gz42_0_1 : Oz42_0[1]? = some oz42_0_1 := rfl
def cz42_2 : Code := Code.region 0 Oz42_0 false
def oz42_1_0 : Oper := ⟨some 8, Op.move (Operand.tmp 0), 57, "writer.go:44", #[], none⟩
def oz42_1_1 : Oper := ⟨some 9, Op.nilCheck (Operand.tmp 8), 0, "writer.go:44", #[ed_ 0], none⟩
def oz42_1_2 : Oper := ⟨some 10, Op.fieldAddr 46 (Operand.tmp 9) 0, 0, "writer.go:44", #[ed_ 1], none⟩
def oz42_1_3 : Oper := ⟨some 11, Op.move (Operand.tmp 1), 9, "writer.go:44", #[], none⟩
def oz42_1_4 : Oper := ⟨some 12, Op.call { callee := Callee.value (Operand.func 37), args := #[Operand.tmp 10, Operand.tmp 11], argTypes := #[44, 9] }, 61, "writer.go:44", #[ed_ 2, ed_ 3], none⟩
def Oz42_1 : Array Oper := List.toArray (oz42_1_0 :: oz42_1_1 :: oz42_1_2 :: oz42_1_3 :: oz42_1_4 :: [])
theorem gz42_1_0 : Oz42_1[0]? = some oz42_1_0 := rfl
theorem gz42_1_1 : Oz42_1[1]? = some oz42_1_1 := rfl
theorem gz42_1_2 : Oz42_1[2]? = some oz42_1_2 := rfl
theorem gz42_1_3 : Oz42_1[3]? = some oz42_1_3 := rfl
theorem gz42_1_4 : Oz42_1[4]? = some oz42_1_4 := rfl
def cz42_5 : Code := Code.region 1 Oz42_1 false
def cz42_4 : Code := Code.seq cz42_5 Code.ret
def cz42_3 : Code := Code.cond (Operand.tmp 7) cz42_4 Code.skip
def cz42_1 : Code := Code.seq cz42_2 cz42_3
def oz42_2_0 : Oper := ⟨some 13, Op.move (Operand.tmp 0), 57, "writer.go:47", #[], none⟩
def oz42_2_1 : Oper := ⟨some 14, Op.nilCheck (Operand.tmp 13), 0, "writer.go:47", #[ed_ 0], none⟩
def oz42_2_2 : Oper := ⟨some 15, Op.fieldAddr 46 (Operand.tmp 14) 0, 0, "writer.go:47", #[ed_ 1], none⟩
def oz42_2_3 : Oper := ⟨some 16, Op.call { callee := Callee.value (Operand.func 36), args := #[Operand.tmp 15, Operand.const (Value.int IntKind.u8 39)], argTypes := #[44, 5] }, 59, "writer.go:47", #[ed_ 2], none⟩
def Oz42_2 : Array Oper := List.toArray (oz42_2_0 :: oz42_2_1 :: oz42_2_2 :: oz42_2_3 :: [])
theorem gz42_2_0 : Oz42_2[0]? = some oz42_2_0 := rfl
theorem gz42_2_1 : Oz42_2[1]? = some oz42_2_1 := rfl
theorem gz42_2_2 : Oz42_2[2]? = some oz42_2_2 := rfl
theorem gz42_2_3 : Oz42_2[3]? = some oz42_2_3 := rfl
def cz42_9 : Code := Code.region 2 Oz42_2 false
def oz42_3_0 : Oper := ⟨some 17, Op.move (Operand.tmp 1), 9, "writer.go:48", #[], none⟩
def oz42_3_1 : Oper := ⟨some 18, Op.convert 9 42 (Operand.tmp 17), 42, "writer.go:48", #[ed_ 0], none⟩
def oz42_3_2 : Oper := ⟨some 19, Op.call { callee := Callee.builtin Go.Builtin.len, args := #[Operand.tmp 18], argTypes := #[42] }, 3, "writer.go:48", #[ed_ 1], none⟩
def oz42_3_3 : Oper := ⟨some 20, Op.move (Operand.const (Value.int IntKind.i64 0)), 3, "writer.go:48", #[], none⟩
def Oz42_3 : Array Oper := List.toArray (oz42_3_0 :: oz42_3_1 :: oz42_3_2 :: oz42_3_3 :: [])
theorem gz42_3_0 : Oz42_3[0]? = some oz42_3_0 := rfl
theorem gz42_3_1 : Oz42_3[1]? = some oz42_3_1 := rfl
theorem gz42_3_2 : Oz42_3[2]? = some oz42_3_2 := rfl
theorem gz42_3_3 : Oz42_3[3]? = some oz42_3_3 := rfl
def cz42_12 : Code := Code.region 3 Oz42_3 false
def oz42_4_0 : Oper := ⟨some 21, Op.binOp Go.BinOp.lss 3 (Operand.tmp 20) (Operand.tmp 19) 3, 0, "writer.go:48", #[], none⟩
def Oz42_4 : Array Oper := List.toArray (oz42_4_0 :: [])
theorem gz42_4_0 : Oz42_4[0]? = some oz42_4_0 := rfl
def cz42_16 : Code := Code.region 4 Oz42_4 false
def cz42_20 : Code := Code.exit 0
def cz42_18 : Code := Code.cond (Operand.tmp 21) Code.skip cz42_20
def oz42_5_0 : Oper := ⟨some 22, Op.indexAddr 42 (Operand.tmp 18) (Operand.tmp 20), 0, "writer.go:48", #[], none⟩
def oz42_5_1 : Oper := ⟨some 23, Op.load 5 (Operand.tmp 22), 5, "writer.go:48", #[ed_ 0], none⟩
def oz42_5_2 : Oper := ⟨some 5, Op.assign (Operand.tmp 23), 5, "writer.go:48", #[ed_ 1, ep_ 0, ep_ 1], none⟩
def Oz42_5 : Array Oper := List.toArray (oz42_5_0 :: oz42_5_1 :: oz42_5_2 :: [])
theorem gz42_5_0 : Oz42_5[0]? = some oz42_5_0 := rfl
theorem gz42_5_1 : Oz42_5[1]? = some oz42_5_1 := rfl
theorem gz42_5_2 : Oz42_5[2]? = some oz42_5_2 := rfl
def cz42_24 : Code := Code.region 5 Oz42_5 false
def oz42_6_0 : Oper := ⟨some 24, Op.move (Operand.tmp 0), 57, "writer.go:49", #[], none⟩
def oz42_6_1 : Oper := ⟨some 25, Op.move (Operand.tmp 5), 5, "writer.go:49", #[], none⟩
def oz42_6_2 : Oper := ⟨some 26, Op.call { callee := Callee.value (Operand.func 51), args := #[Operand.tmp 24, Operand.tmp 25], argTypes := #[57, 5] }, 0, "writer.go:49", #[ed_ 0, ed_ 1], none⟩
def Oz42_6 : Array Oper := List.toArray (oz42_6_0 :: oz42_6_1 :: oz42_6_2 :: [])
theorem gz42_6_0 : Oz42_6[0]? = some oz42_6_0 := rfl
theorem gz42_6_1 : Oz42_6[1]? = some oz42_6_1 := rfl
theorem gz42_6_2 : Oz42_6[2]? = some oz42_6_2 := rfl
def cz42_25 : Code := Code.region 6 Oz42_6 false
def cz42_23 : Code := Code.seq cz42_24 cz42_25
def cz42_22 : Code := Code.block 1 cz42_23
def oz42_7_0 : Oper := ⟨some 27, Op.binOp Go.BinOp.add 3 (Operand.tmp 20) (Operand.const (Value.int IntKind.i64 1)) 3, 3, "writer.go:48", #[], none⟩
def oz42_7_1 : Oper := ⟨some 20, Op.move (Operand.tmp 27), 3, "writer.go:48", #[ed_ 0], none⟩
def Oz42_7 : Array Oper := List.toArray (oz42_7_0 :: oz42_7_1 :: [])
theorem gz42_7_0 : Oz42_7[0]? = some oz42_7_0 := rfl
theorem gz42_7_1 : Oz42_7[1]? = some oz42_7_1 := rfl
def cz42_26 : Code := Code.region 7 Oz42_7 false
def cz42_21 : Code := Code.seq cz42_22 cz42_26
def cz42_17 : Code := Code.seq cz42_18 cz42_21
def cz42_15 : Code := Code.seq cz42_16 cz42_17
def cz42_14 : Code := Code.loop cz42_15
def cz42_13 : Code := Code.block 0 cz42_14
def cz42_11 : Code := Code.seq cz42_12 cz42_13
def oz42_8_0 : Oper := ⟨some 28, Op.move (Operand.tmp 0), 57, "writer.go:51", #[], none⟩
def oz42_8_1 : Oper := ⟨some 29, Op.nilCheck (Operand.tmp 28), 0, "writer.go:51", #[ed_ 0], none⟩
def oz42_8_2 : Oper := ⟨some 30, Op.fieldAddr 46 (Operand.tmp 29) 0, 0, "writer.go:51", #[ed_ 1], none⟩
def oz42_8_3 : Oper := ⟨some 31, Op.call { callee := Callee.value (Operand.func 36), args := #[Operand.tmp 30, Operand.const (Value.int IntKind.u8 39)], argTypes := #[44, 5] }, 59, "writer.go:51", #[ed_ 2], none⟩
def Oz42_8 : Array Oper := List.toArray (oz42_8_0 :: oz42_8_1 :: oz42_8_2 :: oz42_8_3 :: [])
theorem gz42_8_0 : Oz42_8[0]? = some oz42_8_0 := rfl
theorem gz42_8_1 : Oz42_8[1]? = some oz42_8_1 := rfl
theorem gz42_8_2 : Oz42_8[2]? = some oz42_8_2 := rfl
theorem gz42_8_3 : Oz42_8[3]? = some oz42_8_3 := rfl
def cz42_27 : Code := Code.region 8 Oz42_8 false
def cz42_10 : Code := Code.seq cz42_11 cz42_27
def cz42_8 : Code := Code.seq cz42_9 cz42_10
def cz42_0 : Code := Code.seq cz42_1 cz42_8
theorem enz42_1037 : Enters Tryz.prog 37 := enters_of Tryz.func37 (by kernel_rfl) rfl
theorem enz42_1050 : Enters Tryz.prog 50 := enters_of Tryz.func50 (by kernel_rfl) rfl
theorem enz42_1051 : Enters Tryz.prog 51 := enters_of Tryz.func51 (by kernel_rfl) rfl
theorem bodyz42 : Tryz.f42.body = some cz42_0 := by kernel_rfl
set_option maxRecDepth 100000 in
set_option maxHeartbeats 4000000 in
theorem name_w {W : World} {B b : Nat} {R0 : Nat → Prop} {l0 L : List UInt8} {f0 : Act} {w0 : World} (R : FrS 32 f0) (h0 : f0.tmps[0]? = some (.pointer (some ⟨b, 0, none⟩))) (h1 : f0.tmps[1]? = some (.string (str L))) (KP : Keep (fun g => g < W.heap.size) W w0)  (HW : Hid (WAt B R0 W b l0)) (HV : Hid (VarsAt B W)) (HL : Hid (l0.length + (funX bareC L).length ≤ 140737488355328)) (HLN : Hid (L.length ≤ 4611686018427387904)) : cz42_0.wp Tryz.prog (bodyPost Tryz.prog Tryz.f42 (fun e w' => e = .returned (.tuple #[]) ∧ Wr B R0 W w' b (l0 ++ funX bareC L))) f0 w0 := by
  have HBW := HW.out.le; have HB0 : Hid (∀ k, R0 k → B ≤ k) := Lib.hid fun k hk => (HW.out.rr k hk).1; have HRR : Hid (∀ k, R0 k → R0 k ∨ W.heap.size ≤ k) := Lib.hid fun k hk => .inl hk
  have KX : Keep (fun g => g < W.heap.size ∧ ¬ R0 g) W w0 := KP.less fun g hg => hg.1
  obtain ⟨RR, hRR⟩ : ∃ q, q = R0 := ⟨_, rfl⟩; have HW2 : Hid (WAt B RR W b l0) := Lib.hid (by rw [hRR]; exact HW.out); have HR3 : Hid (∀ k, RR k → R0 k ∨ W.heap.size ≤ k) := Lib.hid (by rw [hRR]; exact HRR.out); clear HW HRR hRR; have HW := HW2; have HRR := HR3; clear HW2 HR3
  refine wp_seq (x := cz42_1) (y := cz42_8) ?_
  refine wp_seq (x := cz42_2) (y := cz42_3) ?_
  change (Code.region 0 Oz42_0 false).wp _ _ _ _
  refine reg_in (l := [0, 1]) rfl ?_
  have F : FE_ _ [] f0 f0 := ⟨R, Ag_.refl _⟩; clear R
  refine sv_ gz42_0_0 (ym_ rfl (F.of h1)) fun a101 e => ?_
  have h6 := pt_ F e; replace F := pu_ F e; clear e
  obtain ⟨bl, hbl⟩ : ∃ q, bareC L = q := ⟨_, rfl⟩; have hcall := bare_k L (HV.out _ (KX.less fun g hg => ⟨Nat.lt_of_lt_of_le hg HBW, fun h => absurd hg (Nat.not_lt.2 (HB0.out g h))⟩)); rw [hbl] at hcall
  refine st_call gz42_0_1 rfl (wanted_free rfl) (yc1_ enz42_1050 rfl h6) ((hcall).mono ?_)
  rintro e9 w102 ⟨rfl, kk⟩
  replace KP := keep_onto KP kk
  replace KX := KX.trans kk.all
  clear hcall
  clear kk
  refine ⟨_, rfl, fun a103 e => ?_⟩
  clear h6; have h7 := pt_ F e; replace F := pu_ F e; clear e
  refine st_end ?_
  replace h0 := F.of h0; replace h1 := F.of h1; have R := F.r; clear F
  change (cz42_3).wp _ _ _ _
  cases bl with
  | false =>
    refine wp_cond_false (x := cz42_4) (y := Code.skip) (eval_slot h7) ?_
    refine wp_skip ?_
    change (cz42_8).wp _ _ _ _
    refine wp_seq (x := cz42_9) (y := cz42_10) ?_
    change (Code.region 2 Oz42_2 false).wp _ _ _ _
    have HF : Hid (funX bareC L = 39 :: (L.flatMap escX ++ [39])) := Lib.hid (by unfold funX; rw [if_neg (by rw [hbl]; decide)]; rfl); clear hbl; have HL2 : Hid (l0.length + (L.flatMap escX).length + 2 ≤ 140737488355328) := Lib.hid (by have h := HL.out; rw [HF.out] at h; simp only [List.length_append, List.length_cons, List.length_nil] at h; omega)
    refine reg_in (l := [0, 1, 2, 3]) rfl ?_
    have F : FE_ _ [] a103 a103 := ⟨R, Ag_.refl _⟩; clear R
    refine sv_ gz42_2_0 (ym_ rfl (F.of h0)) fun a104 e => ?_
    have h13 := pt_ F e; replace F := pu_ F e; clear e
    have Y : (execOp a104.eval oz42_2_1).run Tryz.prog w102 = .ok (.value (.pointer (some ⟨b, 0, none⟩))) w102 := by unfold oz42_2_1; go_simp
    refine sv_ gz42_2_1 Y fun a105 e => ?_; clear Y
    clear h13; have h14 := pt_ F e; replace F := pu_ F e; clear e
    have Y : (execOp a105.eval oz42_2_2).run Tryz.prog w102 = .ok (.value (.pointer (some ⟨b, 0, none⟩))) w102 := by unfold oz42_2_2; go_simp
    refine sv_ gz42_2_2 Y fun a106 e => ?_; clear Y
    clear h14; have h15 := pt_ F e; replace F := pu_ F e; clear e
    have Y : (execOp a106.eval oz42_2_3).run Tryz.prog w102 = .ok (.enter 36 #[.pointer (some ⟨b, 0, none⟩), .int .u8 39]) w102 := by unfold oz42_2_3; go_simp
    refine st_call gz42_2_3 rfl (wanted_free rfl) Y ((wbyte_any (HW.out.on KP) 39 (by have h := HL2.out; omega)).mono ?_); clear Y
    rintro e9 w107 ⟨rfl, ⟨RR2, hw, hr⟩, kf⟩
    have HR2 : Hid (∀ k, RR2 k → R0 k ∨ W.heap.size ≤ k) := Lib.hid fun k hk => (hr k hk).elim (HRR.out k) (fun h => .inr (Nat.le_trans KX.size h))
    replace KX := KX.trans (kf.less fun g hg => ⟨Nat.lt_of_lt_of_le hg.1 KX.size, fun h => (HRR.out g h).elim hg.2 (fun h => absurd hg.1 (Nat.not_lt.2 h))⟩)
    clear HW HRR hr kf KP; have HW := Lib.hid hw; clear hw; have HRR := HR2; clear HR2
    obtain ⟨RR, hRR⟩ : ∃ q, q = RR2 := ⟨_, rfl⟩; rw [← hRR] at HW HRR; clear hRR RR2
    have kk := trivial
    clear kk
    have KP := Keep.refl (fun g => g < w107.heap.size) w107
    refine ⟨_, rfl, fun a108 e => ?_⟩
    clear h15; replace F := pu_ F e; clear e
    refine st_end ?_
    replace h0 := F.of h0; replace h1 := F.of h1; clear h7; have R := F.r; clear F
    change (cz42_10).wp _ _ _ _
    refine wp_seq (x := cz42_11) (y := cz42_27) ?_
    refine wp_seq (x := cz42_12) (y := cz42_13) ?_
    change (Code.region 3 Oz42_3 false).wp _ _ _ _
    refine reg_in (l := [0, 1, 2, 3]) rfl ?_
    have F : FE_ _ [] a108 a108 := ⟨R, Ag_.refl _⟩; clear R
    refine sv_ gz42_3_0 (ym_ rfl (F.of h1)) fun a109 e => ?_
    have h17 := pt_ F e; replace F := pu_ F e; clear e
    obtain ⟨bb, cb, wc, hcv, hle, hby, kk⟩ := conv_bytes w107 L
    have Y : (execOp a109.eval oz42_3_1).run Tryz.prog w107 = .ok (.value (.slice (some ⟨bb, 0, none⟩) (L.length : Nat) cb)) wc := by unfold oz42_3_1; unfold execOp; simp only [eval_slot h17]; rw [Sem.run_bind, hcv]; rfl
    have LKP_bb : w107.heap.size ≤ bb := Nat.le_trans KP.size hle; have Ybb := hby; clear hcv hby hle
    replace KP := keep_onto KP kk; replace KX := KX.trans kk.all; clear kk
    refine sv_ gz42_3_1 Y fun a110 e => ?_; clear Y
    clear h17; have h18 := pt_ F e; replace F := pu_ F e; clear e
    have Y : (execOp a110.eval oz42_3_2).run Tryz.prog wc = .ok (.value (.int .i64 L.length)) wc := by unfold oz42_3_2; go_simp
    refine sv_ gz42_3_2 Y fun a111 e => ?_; clear Y
    have h19 := pt_ F e; replace F := pu_ F e; replace h18 := so_ e h18; clear e
    have Y : (execOp a111.eval oz42_3_3).run Tryz.prog wc = .ok (.value (.int .i64 0)) wc := by unfold oz42_3_3; go_simp
    refine sv_ gz42_3_3 Y fun a112 e => ?_; clear Y
    have h20 := pt_ F e; replace F := pu_ F e; replace h18 := so_ e h18; replace h19 := so_ e h19; clear e
    refine st_end ?_
    replace h0 := F.of h0; clear h1; have R := F.r; clear F
    change (cz42_13).wp _ _ _ _
    refine wp_block (id := 0) (c := cz42_14) ?_
    have NB9 : ¬ RR bb := fun h => absurd (HW.out.rr bb h).2 (Nat.not_lt.2 LKP_bb)
    have HWR := Lib.hid (HW.out.on KP); clear HW KP; have HW := HWR; clear HWR
    refine wp_loop_ghost (c := cz42_15) (fun n fX wX => ∃ j : Nat, ∃ RR : Nat → Prop, n = L.length - j ∧ FrS 32 fX ∧ fX.tmps[0]? = some (.pointer (some ⟨b, 0, none⟩)) ∧ fX.tmps[18]? = some (.slice (some ⟨bb, 0, none⟩) L.length cb) ∧ fX.tmps[19]? = some (.int .i64 L.length) ∧ fX.tmps[20]? = some (.int .i64 (j : Int)) ∧ Keep (fun g => g < W.heap.size ∧ ¬ R0 g) W wX ∧ j ≤ L.length ∧ Hid (WAt B RR wX b (l0 ++ [39] ++ (L.take j).flatMap escX)) ∧ Hid (∀ k, RR k → R0 k ∨ W.heap.size ≤ k) ∧ BytesAt wX bb L ∧ ¬ RR bb) (L.length - 0) ⟨0, _, rfl, R, h0, h18, h19, h20, KX, Nat.zero_le _, (Lib.hid (by simpa using HW.out)), HRR, Ybb, NB9⟩ ?_
    clear R h0 h18 h19 h20 KX
    rintro n115 a113 w114 ⟨j, RR, rfl, R, h0, h18, h19, h20, KX, hj, HW, HRR, Ybb, NB9⟩
    have KP := Keep.refl (fun g => g < w114.heap.size) w114
    have N_bb := NB9; clear NB9
    refine wp_seq (x := cz42_16) (y := cz42_17) ?_
    change (Code.region 4 Oz42_4 false).wp _ _ _ _
    refine reg_in (l := [0]) rfl ?_
    have F : FE_ _ [] a113 a113 := ⟨R, Ag_.refl _⟩; clear R
    obtain ⟨b116, hb116⟩ : ∃ x, (decide ((j : Int) < (L.length : Int))) = x := ⟨_, rfl⟩
    have Y : (execOp a113.eval oz42_4_0).run Tryz.prog w114 = .ok (.value (.bool b116)) w114 := by have r19 := F.of h19; have r20 := F.of h20; rw [← hb116]; unfold oz42_4_0; go_simp
    refine sv_ gz42_4_0 Y fun a117 e => ?_; clear Y
    have h21 := pt_ F e; replace F := pu_ F e; clear e
    refine st_end ?_
    replace h0 := F.of h0; replace h18 := F.of h18; replace h19 := F.of h19; replace h20 := F.of h20; have R := F.r; clear F
    change (cz42_17).wp _ _ _ _
    refine wp_seq (x := cz42_18) (y := cz42_21) ?_
    cases b116 with
    | false =>
      have fb116 := hb116; clear hb116
      simp only [decide_eq_true_eq, decide_eq_false_iff_not, bne_iff_ne, bne_eq_false_iff_eq, beq_iff_eq, beq_eq_false_iff_ne, ne_eq, Bool.not_eq_true', Bool.not_eq_false', Bool.not_eq_eq_eq_not, Bool.not_true, Bool.not_false] at fb116
      refine wp_cond_false (x := Code.skip) (y := cz42_20) (eval_slot h21) ?_
      refine wp_exit ?_
      change (cz42_27).wp _ _ _ _
      change (Code.region 8 Oz42_8 false).wp _ _ _ _
      refine reg_in (l := [0, 1, 2, 3]) rfl ?_
      have F : FE_ _ [] a117 a117 := ⟨R, Ag_.refl _⟩; clear R
      refine sv_ gz42_8_0 (ym_ rfl (F.of h0)) fun a118 e => ?_
      have h28 := pt_ F e; replace F := pu_ F e; clear e
      have Y : (execOp a118.eval oz42_8_1).run Tryz.prog w114 = .ok (.value (.pointer (some ⟨b, 0, none⟩))) w114 := by unfold oz42_8_1; go_simp
      refine sv_ gz42_8_1 Y fun a119 e => ?_; clear Y
      clear h28; have h29 := pt_ F e; replace F := pu_ F e; clear e
      have Y : (execOp a119.eval oz42_8_2).run Tryz.prog w114 = .ok (.value (.pointer (some ⟨b, 0, none⟩))) w114 := by unfold oz42_8_2; go_simp
      refine sv_ gz42_8_2 Y fun a120 e => ?_; clear Y
      clear h29; have h30 := pt_ F e; replace F := pu_ F e; clear e
      have Y : (execOp a120.eval oz42_8_3).run Tryz.prog w114 = .ok (.enter 36 #[.pointer (some ⟨b, 0, none⟩), .int .u8 39]) w114 := by unfold oz42_8_3; go_simp
      obtain rfl : j = L.length := by omega
      refine st_call gz42_8_3 rfl (wanted_free rfl) Y ((wbyte_any (HW.out.on KP) 39 (by have h := HL2.out; rw [List.take_length]; simp only [List.length_append, List.length_cons, List.length_nil]; omega)).mono ?_); clear Y
      rintro e9 w121 ⟨rfl, ⟨RR2, hw, hr⟩, kf⟩
      have l_bb := Ybb.1; replace Ybb := Ybb.keep kf ⟨l_bb, N_bb⟩
      replace N_bb : ¬ RR2 bb := fun h => (hr bb h).elim N_bb (fun h => absurd l_bb (Nat.not_lt.2 h)); clear l_bb
      have HR2 : Hid (∀ k, RR2 k → R0 k ∨ W.heap.size ≤ k) := Lib.hid fun k hk => (hr k hk).elim (HRR.out k) (fun h => .inr (Nat.le_trans KX.size h))
      replace KX := KX.trans (kf.less fun g hg => ⟨Nat.lt_of_lt_of_le hg.1 KX.size, fun h => (HRR.out g h).elim hg.2 (fun h => absurd hg.1 (Nat.not_lt.2 h))⟩)
      clear HW HRR hr kf KP; have HW := Lib.hid hw; clear hw; have HRR := HR2; clear HR2
      obtain ⟨RR, hRR⟩ : ∃ q, q = RR2 := ⟨_, rfl⟩; rw [← hRR] at HW HRR N_bb; clear hRR RR2
      have kk := trivial
      clear kk
      have KP := Keep.refl (fun g => g < w121.heap.size) w121
      refine ⟨_, rfl, fun a122 e => ?_⟩
      clear h30; replace F := pu_ F e; clear e
      refine st_end ?_
      replace h0 := F.of h0; replace h18 := F.of h18; replace h19 := F.of h19; replace h20 := F.of h20; replace h21 := F.of h21; have R := F.r; clear F
      change bodyPost Tryz.prog Tryz.f42 (fun e w' => e = .returned (.tuple #[]) ∧ Wr B R0 W w' b (l0 ++ funX bareC L)) .normal a122 w121
      refine bodyPost_end (results_none rfl _ _ _) R.defers ?_
      exact ⟨rfl, ⟨RR, by have hw := HW.out.on KP; rw [HF.out]; simpa using hw, HRR.out⟩, KX⟩
    | true =>
      have fb116 := hb116; clear hb116
      simp only [decide_eq_true_eq, decide_eq_false_iff_not, bne_iff_ne, bne_eq_false_iff_eq, beq_iff_eq, beq_eq_false_iff_ne, ne_eq, Bool.not_eq_true', Bool.not_eq_false', Bool.not_eq_eq_eq_not, Bool.not_true, Bool.not_false] at fb116
      refine wp_cond_true (x := Code.skip) (y := cz42_20) (eval_slot h21) ?_
      refine wp_skip ?_
      change (cz42_21).wp _ _ _ _
      refine wp_seq (x := cz42_22) (y := cz42_26) ?_
      refine wp_block (id := 1) (c := cz42_23) ?_
      refine wp_seq (x := cz42_24) (y := cz42_25) ?_
      change (Code.region 5 Oz42_5 false).wp _ _ _ _
      refine reg_in (l := [0, 1, 2]) rfl ?_
      have F : FE_ _ [] a117 a117 := ⟨R, Ag_.refl _⟩; clear R
      obtain ⟨c, hc⟩ : ∃ c, L[j]? = some c := ⟨_, List.getElem?_eq_getElem (by omega)⟩; have HC := Lib.hid hc; clear hc; have hltA : (j : Int) < (L.length : Int) := by omega
      have Y : (execOp a117.eval oz42_5_0).run Tryz.prog w114 = .ok (.value (.pointer (some ⟨bb, j, none⟩))) w114 := by have r18 := F.of h18; have r20 := F.of h20; unfold oz42_5_0; go_simp
      refine sv_ gz42_5_0 Y fun a123 e => ?_; clear Y
      have h22 := pt_ F e; replace F := pu_ F e; clear e
      have Y : (execOp a123.eval oz42_5_1).run Tryz.prog w114 = .ok (.value (.int .u8 (c.toNat : Int))) w114 := by have c0 := Ybb.2 j c HC.out; unfold oz42_5_1; go_simp
      refine sv_ gz42_5_1 Y fun a124 e => ?_; clear Y
      have h23 := pt_ F e; replace F := pu_ F e; replace h22 := so_ e h22; clear e
      refine sv_ gz42_5_2 (ya_ rfl h23) fun a125 e => ?_
      have h5 := pt_ F e; replace F := pu_ F e; replace h22 := so_ e h22; replace h23 := so_ e h23; clear e
      refine st_end ?_
      replace h0 := F.of h0; replace h18 := F.of h18; replace h19 := F.of h19; replace h20 := F.of h20; replace h21 := F.of h21; have R := F.r; clear F
      change (cz42_25).wp _ _ _ _
      change (Code.region 6 Oz42_6 false).wp _ _ _ _
      refine reg_in (l := [0, 1, 2]) rfl ?_
      have F : FE_ _ [] a125 a125 := ⟨R, Ag_.refl _⟩; clear R
      refine sv_ gz42_6_0 (ym_ rfl (F.of h0)) fun a126 e => ?_
      have h24 := pt_ F e; replace F := pu_ F e; clear e
      refine sv_ gz42_6_1 (ym_ rfl (F.of h5)) fun a127 e => ?_
      have h25 := pt_ F e; replace F := pu_ F e; replace h24 := so_ e h24; clear e
      refine st_call gz42_6_2 rfl (wanted_free rfl) (yc2_ enz42_1051 rfl h24 h25) ((winq_any (HW.out.on KP) c (by have h := HL2.out; have h2 := esc_len L HC.out; simp only [List.length_append, List.length_cons, List.length_nil]; omega)).mono ?_)
      rintro e9 w128 ⟨rfl, ⟨RR2, hw, hr⟩, kf⟩
      have l_bb := Ybb.1; replace Ybb := Ybb.keep kf ⟨l_bb, N_bb⟩
      replace N_bb : ¬ RR2 bb := fun h => (hr bb h).elim N_bb (fun h => absurd l_bb (Nat.not_lt.2 h)); clear l_bb
      have HR2 : Hid (∀ k, RR2 k → R0 k ∨ W.heap.size ≤ k) := Lib.hid fun k hk => (hr k hk).elim (HRR.out k) (fun h => .inr (Nat.le_trans KX.size h))
      replace KX := KX.trans (kf.less fun g hg => ⟨Nat.lt_of_lt_of_le hg.1 KX.size, fun h => (HRR.out g h).elim hg.2 (fun h => absurd hg.1 (Nat.not_lt.2 h))⟩)
      clear HW HRR hr kf KP; have HW := Lib.hid hw; clear hw; have HRR := HR2; clear HR2
      obtain ⟨RR, hRR⟩ : ∃ q, q = RR2 := ⟨_, rfl⟩; rw [← hRR] at HW HRR N_bb; clear hRR RR2
      have kk := trivial
      clear kk
      have KP := Keep.refl (fun g => g < w128.heap.size) w128
      refine ⟨_, rfl, fun a129 e => ?_⟩
      replace F := pu_ F e; replace h24 := so_ e h24; replace h25 := so_ e h25; clear e
      refine st_end ?_
      replace h0 := F.of h0; replace h5 := F.of h5; replace h18 := F.of h18; replace h19 := F.of h19; replace h20 := F.of h20; replace h21 := F.of h21; replace h22 := F.of h22; replace h23 := F.of h23; have R := F.r; clear F
      change (cz42_26).wp _ _ _ _
      change (Code.region 7 Oz42_7 false).wp _ _ _ _
      refine reg_in (l := [0, 1]) rfl ?_
      have F : FE_ _ [] a129 a129 := ⟨R, Ag_.refl _⟩; clear R
      have Y : (execOp a129.eval oz42_7_0).run Tryz.prog w128 = .ok (.value (.int .i64 ((j : Int) + 1))) w128 := by have r20 := F.of h20; have hwj : IntKind.i64.wrap ((j : Int) + 1) = (j : Int) + 1 := (by rw [IntKind.wrap_i64]; have := HLN.out; omega); unfold oz42_7_0; go_simp
      refine sv_ gz42_7_0 Y fun a130 e => ?_; clear Y
      have h27 := pt_ F e; replace F := pu_ F e; clear e
      refine sv_ gz42_7_1 (ym_ rfl h27) fun a131 e => ?_
      clear h20; have h20 := pt_ F e; replace F := pu_ F e; replace h27 := so_ e h27; clear e
      refine st_end ?_
      replace h0 := F.of h0; replace h5 := F.of h5; replace h18 := F.of h18; replace h19 := F.of h19; replace h21 := F.of h21; replace h22 := F.of h22; replace h23 := F.of h23; replace h24 := F.of h24; replace h25 := F.of h25; have R := F.r; clear F
      have HWR := Lib.hid (HW.out.on KP); clear HW KP; have HW := HWR; clear HWR
      exact ⟨_, by omega, j + 1, _, rfl, R, h0, h18, h19, h20, KX, (by omega), (Lib.hid (by have h := HW.out; rw [List.append_assoc, ← take_esc HC.out] at h; exact h)), HRR, Ybb, N_bb⟩
  | true =>
    refine wp_cond_true (x := cz42_4) (y := Code.skip) (eval_slot h7) ?_
    refine wp_seq (x := cz42_5) (y := Code.ret) ?_
    change (Code.region 1 Oz42_1 false).wp _ _ _ _
    have HF : Hid (funX bareC L = L) := Lib.hid (by unfold funX; rw [if_pos hbl]); clear hbl
    refine reg_in (l := [0, 1, 2, 3, 4]) rfl ?_
    have F : FE_ _ [] a103 a103 := ⟨R, Ag_.refl _⟩; clear R
    refine sv_ gz42_1_0 (ym_ rfl (F.of h0)) fun a132 e => ?_
    have h8 := pt_ F e; replace F := pu_ F e; clear e
    have Y : (execOp a132.eval oz42_1_1).run Tryz.prog w102 = .ok (.value (.pointer (some ⟨b, 0, none⟩))) w102 := by unfold oz42_1_1; go_simp
    refine sv_ gz42_1_1 Y fun a133 e => ?_; clear Y
    clear h8; have h9 := pt_ F e; replace F := pu_ F e; clear e
    have Y : (execOp a133.eval oz42_1_2).run Tryz.prog w102 = .ok (.value (.pointer (some ⟨b, 0, none⟩))) w102 := by unfold oz42_1_2; go_simp
    refine sv_ gz42_1_2 Y fun a134 e => ?_; clear Y
    clear h9; have h10 := pt_ F e; replace F := pu_ F e; clear e
    refine sv_ gz42_1_3 (ym_ rfl (F.of h1)) fun a135 e => ?_
    have h11 := pt_ F e; replace F := pu_ F e; replace h10 := so_ e h10; clear e
    refine st_call gz42_1_4 rfl (wanted_free rfl) (yc2_ enz42_1037 rfl h10 h11) ((wstr_any (HW.out.on KP) L (by have h := HL.out; rw [HF.out] at h; exact h)).mono ?_)
    rintro e9 w136 ⟨rfl, ⟨RR2, hw, hr⟩, kf⟩
    have HR2 : Hid (∀ k, RR2 k → R0 k ∨ W.heap.size ≤ k) := Lib.hid fun k hk => (hr k hk).elim (HRR.out k) (fun h => .inr (Nat.le_trans KX.size h))
    replace KX := KX.trans (kf.less fun g hg => ⟨Nat.lt_of_lt_of_le hg.1 KX.size, fun h => (HRR.out g h).elim hg.2 (fun h => absurd hg.1 (Nat.not_lt.2 h))⟩)
    clear HW HRR hr kf KP; have HW := Lib.hid hw; clear hw; have HRR := HR2; clear HR2
    obtain ⟨RR, hRR⟩ : ∃ q, q = RR2 := ⟨_, rfl⟩; rw [← hRR] at HW HRR; clear hRR RR2
    have kk := trivial
    clear kk
    have KP := Keep.refl (fun g => g < w136.heap.size) w136
    refine ⟨_, rfl, fun a137 e => ?_⟩
    clear h10 h11; replace F := pu_ F e; clear e
    refine st_end ?_
    replace h0 := F.of h0; replace h1 := F.of h1; clear h7; have R := F.r; clear F
    change (Code.ret).wp _ _ _ _
    refine wp_ret ?_
    change bodyPost Tryz.prog Tryz.f42 (fun e w' => e = .returned (.tuple #[]) ∧ Wr B R0 W w' b (l0 ++ funX bareC L)) .ret a137 w136
    refine bodyPost_ret (results_none rfl _ _ _) R.defers ?_
    exact ⟨rfl, ⟨RR, by have hw := HW.out.on KP; rw [HF.out]; exact hw, HRR.out⟩, KX⟩
theorem wname_any {W : World} {B b : Nat} {R0 : Nat → Prop} {l0 L : List UInt8} (h : WAt B R0 W b l0) (hv : VarsAt B W) (hl : l0.length + (funX bareC L).length ≤ 140737488355328) (hn : L.length ≤ 4611686018427387904) : Calls Tryz.prog 42 #[.pointer (some ⟨b, 0, none⟩), .string (str L)] W fun e w' => e = .returned (.tuple #[]) ∧ Wr B R0 W w' b (l0 ++ funX bareC L) := by
  refine enter_sx Tryz.func42 bodyz42 rfl (by show (2 : Nat) ≤ 32; decide) fun f0 R0' hs => ?_
  exact name_w R0' (hs 0 _ rfl) (hs 1 _ rfl) (Keep.refl _ W) (Lib.hid h) (Lib.hid hv) (Lib.hid hl) (Lib.hid hn)
end Go.Proofs.YtfkbbbjicaedmaaGreatDoor
