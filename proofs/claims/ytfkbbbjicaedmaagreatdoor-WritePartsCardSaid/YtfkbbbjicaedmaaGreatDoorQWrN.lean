/-
  Which names and terms can be told; write.Name and write.Text, whatever they are asked. Condition: the listed variables.
-/
import Derived.Test.YtfkbbbjicaedmaaGreatDoorQWrM
namespace Go.Proofs.YtfkbbbjicaedmaaGreatDoor
open Go.RowKit Go.Maps
set_option linter.unusedVariables false
set_option linter.unusedSimpArgs false
theorem wanted_un {ops : Array Oper} {o : Oper} {a : Act} {j d : Nat} {want : Bool} (hg : o.guard = some (j, want)) (hj : (ops[j]?).bind (·.dst) = some d) (h : a.tmps[d]? = some undef) : Region.wanted o (yielded ops a.tmps) = false := by
  unfold Region.wanted yielded
  rw [hg]
  simp only [hj, Option.bind_some, h]
  rfl
theorem tell_step {L : List UInt8} {j : Nat} {c : UInt8} (h : tellX (L.take j) = true) (hc : L[j]? = some c) (ho : (c.toNat : Int) = 9 ∨ (c.toNat : Int) = 10 ∨ (32 ≤ (c.toNat : Int) ∧ (c.toNat : Int) ≤ 126)) : tellX (L.take (j + 1)) = true := by
  obtain ⟨hlt, rfl⟩ := List.getElem?_eq_some_iff.1 hc
  unfold tellX at h ⊢
  rw [List.take_succ_eq_append_getElem hlt, List.all_append, h, Bool.true_and]
  simp only [List.all_cons, List.all_nil, Bool.and_true, Bool.or_eq_true, beq_iff_eq, Bool.and_eq_true, decide_eq_true_eq]
  rcases ho with h1 | h1 | h1
  · exact .inl (.inl (UInt8.toNat_inj.1 (by rw [show (9 : UInt8).toNat = 9 by rfl]; omega)))
  · exact .inl (.inr (UInt8.toNat_inj.1 (by rw [show (10 : UInt8).toNat = 10 by rfl]; omega)))
  · exact .inr ⟨by omega, by omega⟩
theorem tell_no {L : List UInt8} {j : Nat} {c : UInt8} (hc : L[j]? = some c) (h9 : (c.toNat : Int) ≠ 9) (h10 : (c.toNat : Int) ≠ 10) (h : (c.toNat : Int) < 32 ∨ 126 < (c.toNat : Int)) : tellX L = false := by
  unfold tellX
  rw [List.all_eq_false]
  refine ⟨c, List.mem_of_getElem? hc, ?_⟩
  simp only [Bool.or_eq_true, beq_iff_eq, Bool.and_eq_true, decide_eq_true_eq, not_or, not_and]
  exact ⟨⟨fun e => h9 (by rw [e]; rfl), fun e => h10 (by rw [e]; rfl)⟩, fun h1 => by omega⟩
theorem VarsAt.up {B B' : Nat} {W w : World} (h : VarsAt B W) (hB : B ≤ B') (k : Keep (fun g => g < B) W w) : VarsAt B' w := fun w' k' => h w' (k.trans (k'.less fun g hg => Nat.lt_of_lt_of_le hg hB))
theorem WAt.new {w : World} {b : Nat} (hb : Blk w b 46 #[.pointer none, .slice none 0 0]) : WAt b (fun g => g = b) w b [] :=
  ⟨⟨_, _, hb, .inl rfl, ⟨rfl, .inl ⟨rfl, rfl⟩⟩, fun k hk => by simp [Value.ownBlock] at hk⟩, rfl, fun k hk => ⟨Nat.le_of_eq hk.symm, by rw [hk]; exact hb.lt⟩, Nat.le_of_lt hb.lt⟩
def nmV (L : List UInt8) : List UInt8 × Int := if 64 < L.length then ([], 2) else if tellX L = true then (atmX bareC L, 0) else ([], 80)
def txV (t : Tm) : List UInt8 × Int := if t.right = true then (if t.tree.tell = true then (t.tree.tx bareC, 0) else ([], 80)) else ([], 70)
def oz32_0_0 : Oper := ⟨some 2, Op.assign (Operand.const (Value.bool false)), 4, "write.go:52", #[], none⟩
def Oz32_0 : Array Oper := List.toArray (oz32_0_0 :: [])
theorem gz32_0_0 : Oz32_0[0]? = some oz32_0_0 := rfl
def cz32_1 : Code := Code.region 0 Oz32_0 false
def oz32_1_0 : Oper := ⟨some 5, Op.move (Operand.tmp 0), 9, "write.go:53", #[], none⟩
def oz32_1_1 : Oper := ⟨some 6, Op.convert 9 42 (Operand.tmp 5), 42, "write.go:53", #[ed_ 0], none⟩
def oz32_1_2 : Oper := ⟨some 7, Op.call { callee := Callee.builtin Go.Builtin.len, args := #[Operand.tmp 6], argTypes := #[42] }, 3, "write.go:53", #[ed_ 1], none⟩
def oz32_1_3 : Oper := ⟨some 8, Op.move (Operand.const (Value.int IntKind.i64 0)), 3, "write.go:53", #[], none⟩
def Oz32_1 : Array Oper := List.toArray (oz32_1_0 :: oz32_1_1 :: oz32_1_2 :: oz32_1_3 :: [])
theorem gz32_1_0 : Oz32_1[0]? = some oz32_1_0 := rfl
theorem gz32_1_1 : Oz32_1[1]? = some oz32_1_1 := rfl
theorem gz32_1_2 : Oz32_1[2]? = some oz32_1_2 := rfl
theorem gz32_1_3 : Oz32_1[3]? = some oz32_1_3 := rfl
def cz32_4 : Code := Code.region 1 Oz32_1 false
def oz32_2_0 : Oper := ⟨some 9, Op.binOp Go.BinOp.lss 3 (Operand.tmp 8) (Operand.tmp 7) 3, 0, "write.go:53", #[], none⟩
def Oz32_2 : Array Oper := List.toArray (oz32_2_0 :: [])
theorem gz32_2_0 : Oz32_2[0]? = some oz32_2_0 := rfl
def cz32_8 : Code := Code.region 2 Oz32_2 false
def cz32_12 : Code := Code.exit 0
def cz32_10 : Code := Code.cond (Operand.tmp 9) Code.skip cz32_12
def oz32_3_0 : Oper := ⟨some 10, Op.indexAddr 42 (Operand.tmp 6) (Operand.tmp 8), 0, "write.go:53", #[], none⟩
def oz32_3_1 : Oper := ⟨some 11, Op.load 5 (Operand.tmp 10), 5, "write.go:53", #[ed_ 0], none⟩
def oz32_3_2 : Oper := ⟨some 4, Op.assign (Operand.tmp 11), 5, "write.go:53", #[ed_ 1, ep_ 0, ep_ 1], none⟩
def Oz32_3 : Array Oper := List.toArray (oz32_3_0 :: oz32_3_1 :: oz32_3_2 :: [])
theorem gz32_3_0 : Oz32_3[0]? = some oz32_3_0 := rfl
theorem gz32_3_1 : Oz32_3[1]? = some oz32_3_1 := rfl
theorem gz32_3_2 : Oz32_3[2]? = some oz32_3_2 := rfl
def cz32_16 : Code := Code.region 3 Oz32_3 false
def oz32_4_0 : Oper := ⟨some 12, Op.move (Operand.tmp 4), 5, "write.go:54", #[], none⟩
def oz32_4_1 : Oper := ⟨some 13, Op.binOp Go.BinOp.neq 5 (Operand.tmp 12) (Operand.const (Value.int IntKind.u8 9)) 5, 4, "write.go:54", #[ed_ 0], none⟩
def oz32_4_2 : Oper := ⟨some 14, Op.move (Operand.tmp 13), 4, "write.go:54", #[ed_ 1], none⟩
def oz32_4_3 : Oper := ⟨some 15, Op.move (Operand.tmp 4), 5, "write.go:54", #[eg_ 2], some (2, true)⟩
def oz32_4_4 : Oper := ⟨some 16, Op.binOp Go.BinOp.neq 5 (Operand.tmp 15) (Operand.const (Value.int IntKind.u8 10)) 5, 4, "write.go:54", #[ed_ 3, eg_ 2], some (2, true)⟩
def oz32_4_5 : Oper := ⟨some 17, Op.pick (Operand.tmp 14) (Operand.tmp 16) (Operand.const (Value.bool false)), 4, "write.go:54", #[ed_ 2, ed_ 4], none⟩
def oz32_4_6 : Oper := ⟨some 18, Op.move (Operand.tmp 17), 4, "write.go:54", #[ed_ 5, ec_ 2], none⟩
def oz32_4_7 : Oper := ⟨some 19, Op.move (Operand.tmp 4), 5, "write.go:54", #[eg_ 6], some (6, true)⟩
def oz32_4_8 : Oper := ⟨some 20, Op.binOp Go.BinOp.lss 5 (Operand.tmp 19) (Operand.const (Value.int IntKind.u8 32)) 5, 4, "write.go:54", #[ed_ 7, eg_ 6], some (6, true)⟩
def oz32_4_9 : Oper := ⟨some 21, Op.move (Operand.tmp 20), 4, "write.go:54", #[ed_ 8, ec_ 6, eg_ 6], some (6, true)⟩
def oz32_4_10 : Oper := ⟨some 22, Op.move (Operand.tmp 4), 5, "write.go:54", #[eg_ 9], some (9, false)⟩
def oz32_4_11 : Oper := ⟨some 23, Op.binOp Go.BinOp.gtr 5 (Operand.tmp 22) (Operand.const (Value.int IntKind.u8 126)) 5, 4, "write.go:54", #[ed_ 10, eg_ 9], some (9, false)⟩
def oz32_4_12 : Oper := ⟨some 24, Op.pick (Operand.tmp 21) (Operand.const (Value.bool true)) (Operand.tmp 23), 4, "write.go:54", #[ed_ 9, ed_ 11, eg_ 6], some (6, true)⟩
def oz32_4_13 : Oper := ⟨some 25, Op.pick (Operand.tmp 18) (Operand.tmp 24) (Operand.const (Value.bool false)), 4, "write.go:54", #[ed_ 6, ed_ 12], none⟩
def Oz32_4 : Array Oper := List.toArray (oz32_4_0 :: oz32_4_1 :: oz32_4_2 :: oz32_4_3 :: oz32_4_4 :: oz32_4_5 :: oz32_4_6 :: oz32_4_7 :: oz32_4_8 :: oz32_4_9 :: oz32_4_10 :: oz32_4_11 :: oz32_4_12 :: oz32_4_13 :: [])
theorem gz32_4_0 : Oz32_4[0]? = some oz32_4_0 := rfl
theorem gz32_4_1 : Oz32_4[1]? = some oz32_4_1 := rfl
theorem gz32_4_2 : Oz32_4[2]? = some oz32_4_2 := rfl
theorem gz32_4_3 : Oz32_4[3]? = some oz32_4_3 := rfl
theorem gz32_4_4 : Oz32_4[4]? = some oz32_4_4 := rfl
theorem gz32_4_5 : Oz32_4[5]? = some oz32_4_5 := rfl
theorem gz32_4_6 : Oz32_4[6]? = some oz32_4_6 := rfl
theorem gz32_4_7 : Oz32_4[7]? = some oz32_4_7 := rfl
theorem gz32_4_8 : Oz32_4[8]? = some oz32_4_8 := rfl
theorem gz32_4_9 : Oz32_4[9]? = some oz32_4_9 := rfl
theorem gz32_4_10 : Oz32_4[10]? = some oz32_4_10 := rfl
theorem gz32_4_11 : Oz32_4[11]? = some oz32_4_11 := rfl
theorem gz32_4_12 : Oz32_4[12]? = some oz32_4_12 := rfl
theorem gz32_4_13 : Oz32_4[13]? = some oz32_4_13 := rfl
def cz32_18 : Code := Code.region 4 Oz32_4 false
def oz32_5_0 : Oper := ⟨some 2, Op.assign (Operand.const (Value.bool false)), 4, "write.go:55", #[], none⟩
def Oz32_5 : Array Oper := List.toArray (oz32_5_0 :: [])
theorem gz32_5_0 : Oz32_5[0]? = some oz32_5_0 := rfl
def cz32_21 : Code := Code.region 5 Oz32_5 false
def cz32_20 : Code := Code.seq cz32_21 Code.ret
def cz32_19 : Code := Code.cond (Operand.tmp 25) cz32_20 Code.skip
def cz32_17 : Code := Code.seq cz32_18 cz32_19
def cz32_15 : Code := Code.seq cz32_16 cz32_17
def cz32_14 : Code := Code.block 1 cz32_15
def oz32_6_0 : Oper := ⟨some 26, Op.binOp Go.BinOp.add 3 (Operand.tmp 8) (Operand.const (Value.int IntKind.i64 1)) 3, 3, "write.go:53", #[], none⟩
def oz32_6_1 : Oper := ⟨some 8, Op.move (Operand.tmp 26), 3, "write.go:53", #[ed_ 0], none⟩
def Oz32_6 : Array Oper := List.toArray (oz32_6_0 :: oz32_6_1 :: [])
theorem gz32_6_0 : Oz32_6[0]? = some oz32_6_0 := rfl
theorem gz32_6_1 : Oz32_6[1]? = some oz32_6_1 := rfl
def cz32_24 : Code := Code.region 6 Oz32_6 false
def cz32_13 : Code := Code.seq cz32_14 cz32_24
def cz32_9 : Code := Code.seq cz32_10 cz32_13
def cz32_7 : Code := Code.seq cz32_8 cz32_9
def cz32_6 : Code := Code.loop cz32_7
def cz32_5 : Code := Code.block 0 cz32_6
def cz32_3 : Code := Code.seq cz32_4 cz32_5
def oz32_7_0 : Oper := ⟨some 2, Op.assign (Operand.const (Value.bool true)), 4, "write.go:58", #[], none⟩
def Oz32_7 : Array Oper := List.toArray (oz32_7_0 :: [])
theorem gz32_7_0 : Oz32_7[0]? = some oz32_7_0 := rfl
def cz32_26 : Code := Code.region 7 Oz32_7 false
def cz32_25 : Code := Code.seq cz32_26 Code.ret
def cz32_2 : Code := Code.seq cz32_3 cz32_25
def cz32_0 : Code := Code.seq cz32_1 cz32_2
theorem bodyz32 : Tryz.f32.body = some cz32_0 := by kernel_rfl
set_option maxRecDepth 100000 in
set_option maxHeartbeats 4000000 in
theorem isTell_w {W : World} {L : List UInt8} {f0 : Act} {w0 : World} (R : FrS 27 f0) (h0 : f0.tmps[0]? = some (.string (str L))) (K1 : Keep (fun g => g < W.heap.size) W w0)  (HLN : Hid (L.length ≤ 4611686018427387904)) : cz32_0.wp Tryz.prog (bodyPost Tryz.prog Tryz.f32 (fun e w' => e = .returned (.bool (tellX L)) ∧ Keep (fun g => g < W.heap.size) W w')) f0 w0 := by
  refine wp_seq (x := cz32_1) (y := cz32_2) ?_
  change (Code.region 0 Oz32_0 false).wp _ _ _ _
  refine reg_in (l := [0]) rfl ?_
  have F : FE_ _ [] f0 f0 := ⟨R, Ag_.refl _⟩; clear R
  have Y : (execOp f0.eval oz32_0_0).run Tryz.prog w0 = .ok (.value (.bool false)) w0 := by unfold oz32_0_0; go_simp
  refine sv_ gz32_0_0 Y fun a101 e => ?_; clear Y
  have h2 := pt_ F e; replace F := pu_ F e; clear e
  refine st_end ?_
  replace h0 := F.of h0; have R := F.r; clear F
  change (cz32_2).wp _ _ _ _
  refine wp_seq (x := cz32_3) (y := cz32_25) ?_
  refine wp_seq (x := cz32_4) (y := cz32_5) ?_
  change (Code.region 1 Oz32_1 false).wp _ _ _ _
  refine reg_in (l := [0, 1, 2, 3]) rfl ?_
  have F : FE_ _ [] a101 a101 := ⟨R, Ag_.refl _⟩; clear R
  refine sv_ gz32_1_0 (ym_ rfl (F.of h0)) fun a102 e => ?_
  have h5 := pt_ F e; replace F := pu_ F e; clear e
  obtain ⟨bb, cb, wc, hcv, hle, hby, kk⟩ := conv_bytes w0 L
  have Y : (execOp a102.eval oz32_1_1).run Tryz.prog w0 = .ok (.value (.slice (some ⟨bb, 0, none⟩) (L.length : Nat) cb)) wc := by unfold oz32_1_1; unfold execOp; simp only [eval_slot h5]; rw [Sem.run_bind, hcv]; rfl
  have Ybb := hby; clear hcv hby hle; replace K1 := keep_onto K1 kk; clear kk
  refine sv_ gz32_1_1 Y fun a103 e => ?_; clear Y
  clear h5; have h6 := pt_ F e; replace F := pu_ F e; clear e
  have Y : (execOp a103.eval oz32_1_2).run Tryz.prog wc = .ok (.value (.int .i64 L.length)) wc := by unfold oz32_1_2; go_simp
  refine sv_ gz32_1_2 Y fun a104 e => ?_; clear Y
  have h7 := pt_ F e; replace F := pu_ F e; replace h6 := so_ e h6; clear e
  have Y : (execOp a104.eval oz32_1_3).run Tryz.prog wc = .ok (.value (.int .i64 0)) wc := by unfold oz32_1_3; go_simp
  refine sv_ gz32_1_3 Y fun a105 e => ?_; clear Y
  have h8 := pt_ F e; replace F := pu_ F e; replace h6 := so_ e h6; replace h7 := so_ e h7; clear e
  refine st_end ?_
  clear h0; replace h2 := F.of h2; have R := F.r; clear F
  change (cz32_5).wp _ _ _ _
  refine wp_block (id := 0) (c := cz32_6) ?_
  refine wp_loop_ghost (c := cz32_7) (fun n fX wX => ∃ j : Nat, n = L.length - j ∧ FrS 27 fX ∧ fX.tmps[2]? = some (.bool false) ∧ fX.tmps[6]? = some (.slice (some ⟨bb, 0, none⟩) L.length cb) ∧ fX.tmps[7]? = some (.int .i64 L.length) ∧ fX.tmps[8]? = some (.int .i64 (j : Int)) ∧ Keep (fun g => g < W.heap.size) W wX ∧ j ≤ L.length ∧ Hid (tellX (L.take j) = true) ∧ BytesAt wX bb L) (L.length - 0) ⟨0, rfl, R, h2, h6, h7, h8, K1, Nat.zero_le _, (Lib.hid rfl), Ybb⟩ ?_
  clear R h2 h6 h7 h8 K1
  rintro n108 a106 w107 ⟨j, rfl, R, h2, h6, h7, h8, K1, hj, HG, Ybb⟩
  refine wp_seq (x := cz32_8) (y := cz32_9) ?_
  change (Code.region 2 Oz32_2 false).wp _ _ _ _
  refine reg_in (l := [0]) rfl ?_
  have F : FE_ _ [] a106 a106 := ⟨R, Ag_.refl _⟩; clear R
  obtain ⟨b109, hb109⟩ : ∃ x, (decide ((j : Int) < (L.length : Int))) = x := ⟨_, rfl⟩
  have Y : (execOp a106.eval oz32_2_0).run Tryz.prog w107 = .ok (.value (.bool b109)) w107 := by have r7 := F.of h7; have r8 := F.of h8; rw [← hb109]; unfold oz32_2_0; go_simp
  refine sv_ gz32_2_0 Y fun a110 e => ?_; clear Y
  have h9 := pt_ F e; replace F := pu_ F e; clear e
  refine st_end ?_
  replace h2 := F.of h2; replace h6 := F.of h6; replace h7 := F.of h7; replace h8 := F.of h8; have R := F.r; clear F
  change (cz32_9).wp _ _ _ _
  refine wp_seq (x := cz32_10) (y := cz32_13) ?_
  cases b109 with
  | false =>
    have fb109 := hb109; clear hb109
    simp only [decide_eq_true_eq, decide_eq_false_iff_not, bne_iff_ne, bne_eq_false_iff_eq, beq_iff_eq, beq_eq_false_iff_ne, ne_eq, Bool.not_eq_true', Bool.not_eq_false', Bool.not_eq_eq_eq_not, Bool.not_true, Bool.not_false] at fb109
    refine wp_cond_false (x := Code.skip) (y := cz32_12) (eval_slot h9) ?_
    refine wp_exit ?_
    change (cz32_25).wp _ _ _ _
    refine wp_seq (x := cz32_26) (y := Code.ret) ?_
    change (Code.region 7 Oz32_7 false).wp _ _ _ _
    refine reg_in (l := [0]) rfl ?_
    have F : FE_ _ [] a110 a110 := ⟨R, Ag_.refl _⟩; clear R
    have Y : (execOp a110.eval oz32_7_0).run Tryz.prog w107 = .ok (.value (.bool true)) w107 := by unfold oz32_7_0; go_simp
    refine sv_ gz32_7_0 Y fun a111 e => ?_; clear Y
    clear h2; have h2 := pt_ F e; replace F := pu_ F e; clear e
    refine st_end ?_
    replace h6 := F.of h6; replace h7 := F.of h7; replace h8 := F.of h8; replace h9 := F.of h9; have R := F.r; clear F
    change (Code.ret).wp _ _ _ _
    refine wp_ret ?_
    change bodyPost Tryz.prog Tryz.f32 (fun e w' => e = .returned (.bool (tellX L)) ∧ Keep (fun g => g < W.heap.size) W w') .ret a111 w107
    refine ret_one rfl R h2 ?_
    obtain rfl : j = L.length := by omega
    exact ⟨by have h := HG.out; rw [List.take_length] at h; rw [h], K1⟩
  | true =>
    have fb109 := hb109; clear hb109
    simp only [decide_eq_true_eq, decide_eq_false_iff_not, bne_iff_ne, bne_eq_false_iff_eq, beq_iff_eq, beq_eq_false_iff_ne, ne_eq, Bool.not_eq_true', Bool.not_eq_false', Bool.not_eq_eq_eq_not, Bool.not_true, Bool.not_false] at fb109
    refine wp_cond_true (x := Code.skip) (y := cz32_12) (eval_slot h9) ?_
    refine wp_skip ?_
    change (cz32_13).wp _ _ _ _
    refine wp_seq (x := cz32_14) (y := cz32_24) ?_
    refine wp_block (id := 1) (c := cz32_15) ?_
    refine wp_seq (x := cz32_16) (y := cz32_17) ?_
    change (Code.region 3 Oz32_3 false).wp _ _ _ _
    refine reg_in (l := [0, 1, 2]) rfl ?_
    have F : FE_ _ [] a110 a110 := ⟨R, Ag_.refl _⟩; clear R
    obtain ⟨c, hc⟩ : ∃ c, L[j]? = some c := ⟨_, List.getElem?_eq_getElem (by omega)⟩; have HC := Lib.hid hc; clear hc; have hltA : (j : Int) < (L.length : Int) := by omega
    have Y : (execOp a110.eval oz32_3_0).run Tryz.prog w107 = .ok (.value (.pointer (some ⟨bb, j, none⟩))) w107 := by have r6 := F.of h6; have r8 := F.of h8; unfold oz32_3_0; go_simp
    refine sv_ gz32_3_0 Y fun a112 e => ?_; clear Y
    have h10 := pt_ F e; replace F := pu_ F e; clear e
    have Y : (execOp a112.eval oz32_3_1).run Tryz.prog w107 = .ok (.value (.int .u8 (c.toNat : Int))) w107 := by have c0 := Ybb.2 j c HC.out; unfold oz32_3_1; go_simp
    refine sv_ gz32_3_1 Y fun a113 e => ?_; clear Y
    have h11 := pt_ F e; replace F := pu_ F e; replace h10 := so_ e h10; clear e
    refine sv_ gz32_3_2 (ya_ rfl h11) fun a114 e => ?_
    have h4 := pt_ F e; replace F := pu_ F e; replace h10 := so_ e h10; replace h11 := so_ e h11; clear e
    refine st_end ?_
    replace h2 := F.of h2; replace h6 := F.of h6; replace h7 := F.of h7; replace h8 := F.of h8; replace h9 := F.of h9; have R := F.r; clear F
    change (cz32_17).wp _ _ _ _
    refine wp_seq (x := cz32_18) (y := cz32_19) ?_
    change (Code.region 4 Oz32_4 false).wp _ _ _ _
    refine reg_in (l := [0, 1, 2, 3, 4, 5, 6, 7, 8, 9, 10, 11, 12, 13]) rfl ?_
    have F : FE_ _ [] a114 a114 := ⟨R, Ag_.refl _⟩; clear R
    refine sv_ gz32_4_0 (ym_ rfl (F.of h4)) fun a115 e => ?_
    have h12 := pt_ F e; replace F := pu_ F e; clear e
    obtain ⟨b116, hb116⟩ : ∃ x, ((((c.toNat : Int) : Int) != (9 : Int))) = x := ⟨_, rfl⟩
    have Y : (execOp a115.eval oz32_4_1).run Tryz.prog w107 = .ok (.value (.bool b116)) w107 := by rw [← hb116]; unfold oz32_4_1; go_simp
    refine sv_ gz32_4_1 Y fun a117 e => ?_; clear Y
    have h13 := pt_ F e; replace F := pu_ F e; replace h12 := so_ e h12; clear e
    refine sv_ gz32_4_2 (ym_ rfl h13) fun a118 e => ?_
    have h14 := pt_ F e; replace F := pu_ F e; replace h12 := so_ e h12; replace h13 := so_ e h13; clear e
    cases b116 with
    | false =>
      have fb116 := hb116; clear hb116
      simp only [decide_eq_true_eq, decide_eq_false_iff_not, bne_iff_ne, bne_eq_false_iff_eq, beq_iff_eq, beq_eq_false_iff_ne, ne_eq, Bool.not_eq_true', Bool.not_eq_false', Bool.not_eq_eq_eq_not, Bool.not_true, Bool.not_false] at fb116
      refine st_not gz32_4_3 rfl (wanted_is (j := 2) (d := 14) rfl rfl h14 rfl) fun a119 e => ?_
      have h15 := pt_ F e; replace F := pu_ F e; replace h12 := so_ e h12; replace h13 := so_ e h13; replace h14 := so_ e h14; clear e
      refine st_not gz32_4_4 rfl (wanted_is (j := 2) (d := 14) rfl rfl h14 rfl) fun a120 e => ?_
      have h16 := pt_ F e; replace F := pu_ F e; replace h12 := so_ e h12; replace h13 := so_ e h13; replace h14 := so_ e h14; replace h15 := so_ e h15; clear e
      have Y : (execOp a120.eval oz32_4_5).run Tryz.prog w107 = .ok (.value (.bool false)) w107 := by unfold oz32_4_5; go_simp
      refine sv_ gz32_4_5 Y fun a121 e => ?_; clear Y
      have h17 := pt_ F e; replace F := pu_ F e; replace h12 := so_ e h12; replace h13 := so_ e h13; replace h14 := so_ e h14; replace h15 := so_ e h15; replace h16 := so_ e h16; clear e
      refine sv_ gz32_4_6 (ym_ rfl h17) fun a122 e => ?_
      have h18 := pt_ F e; replace F := pu_ F e; replace h12 := so_ e h12; replace h13 := so_ e h13; replace h14 := so_ e h14; replace h15 := so_ e h15; replace h16 := so_ e h16; replace h17 := so_ e h17; clear e
      refine st_not gz32_4_7 rfl (wanted_is (j := 6) (d := 18) rfl rfl h18 rfl) fun a123 e => ?_
      have h19 := pt_ F e; replace F := pu_ F e; replace h12 := so_ e h12; replace h13 := so_ e h13; replace h14 := so_ e h14; replace h15 := so_ e h15; replace h16 := so_ e h16; replace h17 := so_ e h17; replace h18 := so_ e h18; clear e
      refine st_not gz32_4_8 rfl (wanted_is (j := 6) (d := 18) rfl rfl h18 rfl) fun a124 e => ?_
      have h20 := pt_ F e; replace F := pu_ F e; replace h12 := so_ e h12; replace h13 := so_ e h13; replace h14 := so_ e h14; replace h15 := so_ e h15; replace h16 := so_ e h16; replace h17 := so_ e h17; replace h18 := so_ e h18; replace h19 := so_ e h19; clear e
      refine st_not gz32_4_9 rfl (wanted_is (j := 6) (d := 18) rfl rfl h18 rfl) fun a125 e => ?_
      have h21 := pt_ F e; replace F := pu_ F e; replace h12 := so_ e h12; replace h13 := so_ e h13; replace h14 := so_ e h14; replace h15 := so_ e h15; replace h16 := so_ e h16; replace h17 := so_ e h17; replace h18 := so_ e h18; replace h19 := so_ e h19; replace h20 := so_ e h20; clear e
      refine st_not gz32_4_10 rfl (wanted_un (j := 9) (d := 21) rfl rfl h21) fun a126 e => ?_
      have h22 := pt_ F e; replace F := pu_ F e; replace h12 := so_ e h12; replace h13 := so_ e h13; replace h14 := so_ e h14; replace h15 := so_ e h15; replace h16 := so_ e h16; replace h17 := so_ e h17; replace h18 := so_ e h18; replace h19 := so_ e h19; replace h20 := so_ e h20; replace h21 := so_ e h21; clear e
      refine st_not gz32_4_11 rfl (wanted_un (j := 9) (d := 21) rfl rfl h21) fun a127 e => ?_
      have h23 := pt_ F e; replace F := pu_ F e; replace h12 := so_ e h12; replace h13 := so_ e h13; replace h14 := so_ e h14; replace h15 := so_ e h15; replace h16 := so_ e h16; replace h17 := so_ e h17; replace h18 := so_ e h18; replace h19 := so_ e h19; replace h20 := so_ e h20; replace h21 := so_ e h21; replace h22 := so_ e h22; clear e
      refine st_not gz32_4_12 rfl (wanted_is (j := 6) (d := 18) rfl rfl h18 rfl) fun a128 e => ?_
      have h24 := pt_ F e; replace F := pu_ F e; replace h12 := so_ e h12; replace h13 := so_ e h13; replace h14 := so_ e h14; replace h15 := so_ e h15; replace h16 := so_ e h16; replace h17 := so_ e h17; replace h18 := so_ e h18; replace h19 := so_ e h19; replace h20 := so_ e h20; replace h21 := so_ e h21; replace h22 := so_ e h22; replace h23 := so_ e h23; clear e
      have Y : (execOp a128.eval oz32_4_13).run Tryz.prog w107 = .ok (.value (.bool false)) w107 := by unfold oz32_4_13; go_simp
      refine sv_ gz32_4_13 Y fun a129 e => ?_; clear Y
      have h25 := pt_ F e; replace F := pu_ F e; replace h12 := so_ e h12; replace h13 := so_ e h13; replace h14 := so_ e h14; replace h15 := so_ e h15; replace h16 := so_ e h16; replace h17 := so_ e h17; replace h18 := so_ e h18; replace h19 := so_ e h19; replace h20 := so_ e h20; replace h21 := so_ e h21; replace h22 := so_ e h22; replace h23 := so_ e h23; replace h24 := so_ e h24; clear e
      refine st_end ?_
      replace h2 := F.of h2; replace h4 := F.of h4; replace h6 := F.of h6; replace h7 := F.of h7; replace h8 := F.of h8; replace h9 := F.of h9; replace h10 := F.of h10; replace h11 := F.of h11; have R := F.r; clear F
      change (cz32_19).wp _ _ _ _
      refine wp_cond_false (x := cz32_20) (y := Code.skip) (eval_slot h25) ?_
      refine wp_skip ?_
      change (cz32_24).wp _ _ _ _
      change (Code.region 6 Oz32_6 false).wp _ _ _ _
      refine reg_in (l := [0, 1]) rfl ?_
      have F : FE_ _ [] a129 a129 := ⟨R, Ag_.refl _⟩; clear R
      have Y : (execOp a129.eval oz32_6_0).run Tryz.prog w107 = .ok (.value (.int .i64 ((j : Int) + 1))) w107 := by have r8 := F.of h8; have hwj : IntKind.i64.wrap ((j : Int) + 1) = (j : Int) + 1 := (by rw [IntKind.wrap_i64]; have := HLN.out; omega); unfold oz32_6_0; go_simp
      refine sv_ gz32_6_0 Y fun a130 e => ?_; clear Y
      have h26 := pt_ F e; replace F := pu_ F e; clear e
      refine sv_ gz32_6_1 (ym_ rfl h26) fun a131 e => ?_
      clear h8; have h8 := pt_ F e; replace F := pu_ F e; replace h26 := so_ e h26; clear e
      refine st_end ?_
      replace h2 := F.of h2; replace h4 := F.of h4; replace h6 := F.of h6; replace h7 := F.of h7; replace h9 := F.of h9; replace h10 := F.of h10; replace h11 := F.of h11; replace h12 := F.of h12; replace h13 := F.of h13; replace h14 := F.of h14; replace h15 := F.of h15; replace h16 := F.of h16; replace h17 := F.of h17; replace h18 := F.of h18; replace h19 := F.of h19; replace h20 := F.of h20; replace h21 := F.of h21; replace h22 := F.of h22; replace h23 := F.of h23; replace h24 := F.of h24; replace h25 := F.of h25; have R := F.r; clear F
      exact ⟨_, by omega, j + 1, rfl, R, h2, h6, h7, h8, K1, (by omega), (Lib.hid (tell_step HG.out HC.out (by omega))), Ybb⟩
    | true =>
      have fb116 := hb116; clear hb116
      simp only [decide_eq_true_eq, decide_eq_false_iff_not, bne_iff_ne, bne_eq_false_iff_eq, beq_iff_eq, beq_eq_false_iff_ne, ne_eq, Bool.not_eq_true', Bool.not_eq_false', Bool.not_eq_eq_eq_not, Bool.not_true, Bool.not_false] at fb116
      refine st_val gz32_4_3 rfl (wanted_is (j := 2) (d := 14) rfl rfl h14 rfl) (ym_ rfl (F.of h4)) fun a132 e => ?_
      have h15 := pt_ F e; replace F := pu_ F e; replace h12 := so_ e h12; replace h13 := so_ e h13; replace h14 := so_ e h14; clear e
      obtain ⟨b133, hb133⟩ : ∃ x, ((((c.toNat : Int) : Int) != (10 : Int))) = x := ⟨_, rfl⟩
      have Y : (execOp a132.eval oz32_4_4).run Tryz.prog w107 = .ok (.value (.bool b133)) w107 := by rw [← hb133]; unfold oz32_4_4; go_simp
      refine st_val gz32_4_4 rfl (wanted_is (j := 2) (d := 14) rfl rfl h14 rfl) Y fun a134 e => ?_; clear Y
      have h16 := pt_ F e; replace F := pu_ F e; replace h12 := so_ e h12; replace h13 := so_ e h13; replace h14 := so_ e h14; replace h15 := so_ e h15; clear e
      have Y : (execOp a134.eval oz32_4_5).run Tryz.prog w107 = .ok (.value (.bool b133)) w107 := by unfold oz32_4_5; go_simp
      refine sv_ gz32_4_5 Y fun a135 e => ?_; clear Y
      have h17 := pt_ F e; replace F := pu_ F e; replace h12 := so_ e h12; replace h13 := so_ e h13; replace h14 := so_ e h14; replace h15 := so_ e h15; replace h16 := so_ e h16; clear e
      refine sv_ gz32_4_6 (ym_ rfl h17) fun a136 e => ?_
      have h18 := pt_ F e; replace F := pu_ F e; replace h12 := so_ e h12; replace h13 := so_ e h13; replace h14 := so_ e h14; replace h15 := so_ e h15; replace h16 := so_ e h16; replace h17 := so_ e h17; clear e
      cases b133 with
      | false =>
        have fb133 := hb133; clear hb133
        simp only [decide_eq_true_eq, decide_eq_false_iff_not, bne_iff_ne, bne_eq_false_iff_eq, beq_iff_eq, beq_eq_false_iff_ne, ne_eq, Bool.not_eq_true', Bool.not_eq_false', Bool.not_eq_eq_eq_not, Bool.not_true, Bool.not_false] at fb133
        refine st_not gz32_4_7 rfl (wanted_is (j := 6) (d := 18) rfl rfl h18 rfl) fun a137 e => ?_
        have h19 := pt_ F e; replace F := pu_ F e; replace h12 := so_ e h12; replace h13 := so_ e h13; replace h14 := so_ e h14; replace h15 := so_ e h15; replace h16 := so_ e h16; replace h17 := so_ e h17; replace h18 := so_ e h18; clear e
        refine st_not gz32_4_8 rfl (wanted_is (j := 6) (d := 18) rfl rfl h18 rfl) fun a138 e => ?_
        have h20 := pt_ F e; replace F := pu_ F e; replace h12 := so_ e h12; replace h13 := so_ e h13; replace h14 := so_ e h14; replace h15 := so_ e h15; replace h16 := so_ e h16; replace h17 := so_ e h17; replace h18 := so_ e h18; replace h19 := so_ e h19; clear e
        refine st_not gz32_4_9 rfl (wanted_is (j := 6) (d := 18) rfl rfl h18 rfl) fun a139 e => ?_
        have h21 := pt_ F e; replace F := pu_ F e; replace h12 := so_ e h12; replace h13 := so_ e h13; replace h14 := so_ e h14; replace h15 := so_ e h15; replace h16 := so_ e h16; replace h17 := so_ e h17; replace h18 := so_ e h18; replace h19 := so_ e h19; replace h20 := so_ e h20; clear e
        refine st_not gz32_4_10 rfl (wanted_un (j := 9) (d := 21) rfl rfl h21) fun a140 e => ?_
        have h22 := pt_ F e; replace F := pu_ F e; replace h12 := so_ e h12; replace h13 := so_ e h13; replace h14 := so_ e h14; replace h15 := so_ e h15; replace h16 := so_ e h16; replace h17 := so_ e h17; replace h18 := so_ e h18; replace h19 := so_ e h19; replace h20 := so_ e h20; replace h21 := so_ e h21; clear e
        refine st_not gz32_4_11 rfl (wanted_un (j := 9) (d := 21) rfl rfl h21) fun a141 e => ?_
        have h23 := pt_ F e; replace F := pu_ F e; replace h12 := so_ e h12; replace h13 := so_ e h13; replace h14 := so_ e h14; replace h15 := so_ e h15; replace h16 := so_ e h16; replace h17 := so_ e h17; replace h18 := so_ e h18; replace h19 := so_ e h19; replace h20 := so_ e h20; replace h21 := so_ e h21; replace h22 := so_ e h22; clear e
        refine st_not gz32_4_12 rfl (wanted_is (j := 6) (d := 18) rfl rfl h18 rfl) fun a142 e => ?_
        have h24 := pt_ F e; replace F := pu_ F e; replace h12 := so_ e h12; replace h13 := so_ e h13; replace h14 := so_ e h14; replace h15 := so_ e h15; replace h16 := so_ e h16; replace h17 := so_ e h17; replace h18 := so_ e h18; replace h19 := so_ e h19; replace h20 := so_ e h20; replace h21 := so_ e h21; replace h22 := so_ e h22; replace h23 := so_ e h23; clear e
        have Y : (execOp a142.eval oz32_4_13).run Tryz.prog w107 = .ok (.value (.bool false)) w107 := by unfold oz32_4_13; go_simp
        refine sv_ gz32_4_13 Y fun a143 e => ?_; clear Y
        have h25 := pt_ F e; replace F := pu_ F e; replace h12 := so_ e h12; replace h13 := so_ e h13; replace h14 := so_ e h14; replace h15 := so_ e h15; replace h16 := so_ e h16; replace h17 := so_ e h17; replace h18 := so_ e h18; replace h19 := so_ e h19; replace h20 := so_ e h20; replace h21 := so_ e h21; replace h22 := so_ e h22; replace h23 := so_ e h23; replace h24 := so_ e h24; clear e
        refine st_end ?_
        replace h2 := F.of h2; replace h4 := F.of h4; replace h6 := F.of h6; replace h7 := F.of h7; replace h8 := F.of h8; replace h9 := F.of h9; replace h10 := F.of h10; replace h11 := F.of h11; have R := F.r; clear F
        change (cz32_19).wp _ _ _ _
        refine wp_cond_false (x := cz32_20) (y := Code.skip) (eval_slot h25) ?_
        refine wp_skip ?_
        change (cz32_24).wp _ _ _ _
        change (Code.region 6 Oz32_6 false).wp _ _ _ _
        refine reg_in (l := [0, 1]) rfl ?_
        have F : FE_ _ [] a143 a143 := ⟨R, Ag_.refl _⟩; clear R
        have Y : (execOp a143.eval oz32_6_0).run Tryz.prog w107 = .ok (.value (.int .i64 ((j : Int) + 1))) w107 := by have r8 := F.of h8; have hwj : IntKind.i64.wrap ((j : Int) + 1) = (j : Int) + 1 := (by rw [IntKind.wrap_i64]; have := HLN.out; omega); unfold oz32_6_0; go_simp
        refine sv_ gz32_6_0 Y fun a144 e => ?_; clear Y
        have h26 := pt_ F e; replace F := pu_ F e; clear e
        refine sv_ gz32_6_1 (ym_ rfl h26) fun a145 e => ?_
        clear h8; have h8 := pt_ F e; replace F := pu_ F e; replace h26 := so_ e h26; clear e
        refine st_end ?_
        replace h2 := F.of h2; replace h4 := F.of h4; replace h6 := F.of h6; replace h7 := F.of h7; replace h9 := F.of h9; replace h10 := F.of h10; replace h11 := F.of h11; replace h12 := F.of h12; replace h13 := F.of h13; replace h14 := F.of h14; replace h15 := F.of h15; replace h16 := F.of h16; replace h17 := F.of h17; replace h18 := F.of h18; replace h19 := F.of h19; replace h20 := F.of h20; replace h21 := F.of h21; replace h22 := F.of h22; replace h23 := F.of h23; replace h24 := F.of h24; replace h25 := F.of h25; have R := F.r; clear F
        exact ⟨_, by omega, j + 1, rfl, R, h2, h6, h7, h8, K1, (by omega), (Lib.hid (tell_step HG.out HC.out (by omega))), Ybb⟩
      | true =>
        have fb133 := hb133; clear hb133
        simp only [decide_eq_true_eq, decide_eq_false_iff_not, bne_iff_ne, bne_eq_false_iff_eq, beq_iff_eq, beq_eq_false_iff_ne, ne_eq, Bool.not_eq_true', Bool.not_eq_false', Bool.not_eq_eq_eq_not, Bool.not_true, Bool.not_false] at fb133
        refine st_val gz32_4_7 rfl (wanted_is (j := 6) (d := 18) rfl rfl h18 rfl) (ym_ rfl (F.of h4)) fun a146 e => ?_
        have h19 := pt_ F e; replace F := pu_ F e; replace h12 := so_ e h12; replace h13 := so_ e h13; replace h14 := so_ e h14; replace h15 := so_ e h15; replace h16 := so_ e h16; replace h17 := so_ e h17; replace h18 := so_ e h18; clear e
        obtain ⟨b147, hb147⟩ : ∃ x, (decide (((c.toNat : Int) : Int) < (32 : Int))) = x := ⟨_, rfl⟩
        have Y : (execOp a146.eval oz32_4_8).run Tryz.prog w107 = .ok (.value (.bool b147)) w107 := by rw [← hb147]; unfold oz32_4_8; go_simp
        refine st_val gz32_4_8 rfl (wanted_is (j := 6) (d := 18) rfl rfl h18 rfl) Y fun a148 e => ?_; clear Y
        have h20 := pt_ F e; replace F := pu_ F e; replace h12 := so_ e h12; replace h13 := so_ e h13; replace h14 := so_ e h14; replace h15 := so_ e h15; replace h16 := so_ e h16; replace h17 := so_ e h17; replace h18 := so_ e h18; replace h19 := so_ e h19; clear e
        refine st_val gz32_4_9 rfl (wanted_is (j := 6) (d := 18) rfl rfl h18 rfl) (ym_ rfl h20) fun a149 e => ?_
        have h21 := pt_ F e; replace F := pu_ F e; replace h12 := so_ e h12; replace h13 := so_ e h13; replace h14 := so_ e h14; replace h15 := so_ e h15; replace h16 := so_ e h16; replace h17 := so_ e h17; replace h18 := so_ e h18; replace h19 := so_ e h19; replace h20 := so_ e h20; clear e
        cases b147 with
        | false =>
          have fb147 := hb147; clear hb147
          simp only [decide_eq_true_eq, decide_eq_false_iff_not, bne_iff_ne, bne_eq_false_iff_eq, beq_iff_eq, beq_eq_false_iff_ne, ne_eq, Bool.not_eq_true', Bool.not_eq_false', Bool.not_eq_eq_eq_not, Bool.not_true, Bool.not_false] at fb147
          refine st_val gz32_4_10 rfl (wanted_is (j := 9) (d := 21) rfl rfl h21 rfl) (ym_ rfl (F.of h4)) fun a150 e => ?_
          have h22 := pt_ F e; replace F := pu_ F e; replace h12 := so_ e h12; replace h13 := so_ e h13; replace h14 := so_ e h14; replace h15 := so_ e h15; replace h16 := so_ e h16; replace h17 := so_ e h17; replace h18 := so_ e h18; replace h19 := so_ e h19; replace h20 := so_ e h20; replace h21 := so_ e h21; clear e
          obtain ⟨b151, hb151⟩ : ∃ x, (decide ((126 : Int) < ((c.toNat : Int) : Int))) = x := ⟨_, rfl⟩
          have Y : (execOp a150.eval oz32_4_11).run Tryz.prog w107 = .ok (.value (.bool b151)) w107 := by rw [← hb151]; unfold oz32_4_11; go_simp
          refine st_val gz32_4_11 rfl (wanted_is (j := 9) (d := 21) rfl rfl h21 rfl) Y fun a152 e => ?_; clear Y
          have h23 := pt_ F e; replace F := pu_ F e; replace h12 := so_ e h12; replace h13 := so_ e h13; replace h14 := so_ e h14; replace h15 := so_ e h15; replace h16 := so_ e h16; replace h17 := so_ e h17; replace h18 := so_ e h18; replace h19 := so_ e h19; replace h20 := so_ e h20; replace h21 := so_ e h21; replace h22 := so_ e h22; clear e
          have Y : (execOp a152.eval oz32_4_12).run Tryz.prog w107 = .ok (.value (.bool b151)) w107 := by unfold oz32_4_12; go_simp
          refine st_val gz32_4_12 rfl (wanted_is (j := 6) (d := 18) rfl rfl h18 rfl) Y fun a153 e => ?_; clear Y
          have h24 := pt_ F e; replace F := pu_ F e; replace h12 := so_ e h12; replace h13 := so_ e h13; replace h14 := so_ e h14; replace h15 := so_ e h15; replace h16 := so_ e h16; replace h17 := so_ e h17; replace h18 := so_ e h18; replace h19 := so_ e h19; replace h20 := so_ e h20; replace h21 := so_ e h21; replace h22 := so_ e h22; replace h23 := so_ e h23; clear e
          have Y : (execOp a153.eval oz32_4_13).run Tryz.prog w107 = .ok (.value (.bool b151)) w107 := by unfold oz32_4_13; go_simp
          refine sv_ gz32_4_13 Y fun a154 e => ?_; clear Y
          have h25 := pt_ F e; replace F := pu_ F e; replace h12 := so_ e h12; replace h13 := so_ e h13; replace h14 := so_ e h14; replace h15 := so_ e h15; replace h16 := so_ e h16; replace h17 := so_ e h17; replace h18 := so_ e h18; replace h19 := so_ e h19; replace h20 := so_ e h20; replace h21 := so_ e h21; replace h22 := so_ e h22; replace h23 := so_ e h23; replace h24 := so_ e h24; clear e
          refine st_end ?_
          replace h2 := F.of h2; replace h4 := F.of h4; replace h6 := F.of h6; replace h7 := F.of h7; replace h8 := F.of h8; replace h9 := F.of h9; replace h10 := F.of h10; replace h11 := F.of h11; have R := F.r; clear F
          change (cz32_19).wp _ _ _ _
          cases b151 with
          | false =>
            have fb151 := hb151; clear hb151
            simp only [decide_eq_true_eq, decide_eq_false_iff_not, bne_iff_ne, bne_eq_false_iff_eq, beq_iff_eq, beq_eq_false_iff_ne, ne_eq, Bool.not_eq_true', Bool.not_eq_false', Bool.not_eq_eq_eq_not, Bool.not_true, Bool.not_false] at fb151
            refine wp_cond_false (x := cz32_20) (y := Code.skip) (eval_slot h25) ?_
            refine wp_skip ?_
            change (cz32_24).wp _ _ _ _
            change (Code.region 6 Oz32_6 false).wp _ _ _ _
            refine reg_in (l := [0, 1]) rfl ?_
            have F : FE_ _ [] a154 a154 := ⟨R, Ag_.refl _⟩; clear R
            have Y : (execOp a154.eval oz32_6_0).run Tryz.prog w107 = .ok (.value (.int .i64 ((j : Int) + 1))) w107 := by have r8 := F.of h8; have hwj : IntKind.i64.wrap ((j : Int) + 1) = (j : Int) + 1 := (by rw [IntKind.wrap_i64]; have := HLN.out; omega); unfold oz32_6_0; go_simp
            refine sv_ gz32_6_0 Y fun a155 e => ?_; clear Y
            have h26 := pt_ F e; replace F := pu_ F e; clear e
            refine sv_ gz32_6_1 (ym_ rfl h26) fun a156 e => ?_
            clear h8; have h8 := pt_ F e; replace F := pu_ F e; replace h26 := so_ e h26; clear e
            refine st_end ?_
            replace h2 := F.of h2; replace h4 := F.of h4; replace h6 := F.of h6; replace h7 := F.of h7; replace h9 := F.of h9; replace h10 := F.of h10; replace h11 := F.of h11; replace h12 := F.of h12; replace h13 := F.of h13; replace h14 := F.of h14; replace h15 := F.of h15; replace h16 := F.of h16; replace h17 := F.of h17; replace h18 := F.of h18; replace h19 := F.of h19; replace h20 := F.of h20; replace h21 := F.of h21; replace h22 := F.of h22; replace h23 := F.of h23; replace h24 := F.of h24; replace h25 := F.of h25; have R := F.r; clear F
            exact ⟨_, by omega, j + 1, rfl, R, h2, h6, h7, h8, K1, (by omega), (Lib.hid (tell_step HG.out HC.out (by omega))), Ybb⟩
          | true =>
            have fb151 := hb151; clear hb151
            simp only [decide_eq_true_eq, decide_eq_false_iff_not, bne_iff_ne, bne_eq_false_iff_eq, beq_iff_eq, beq_eq_false_iff_ne, ne_eq, Bool.not_eq_true', Bool.not_eq_false', Bool.not_eq_eq_eq_not, Bool.not_true, Bool.not_false] at fb151
            refine wp_cond_true (x := cz32_20) (y := Code.skip) (eval_slot h25) ?_
            refine wp_seq (x := cz32_21) (y := Code.ret) ?_
            change (Code.region 5 Oz32_5 false).wp _ _ _ _
            refine reg_in (l := [0]) rfl ?_
            have F : FE_ _ [] a154 a154 := ⟨R, Ag_.refl _⟩; clear R
            have Y : (execOp a154.eval oz32_5_0).run Tryz.prog w107 = .ok (.value (.bool false)) w107 := by unfold oz32_5_0; go_simp
            refine sv_ gz32_5_0 Y fun a157 e => ?_; clear Y
            clear h2; have h2 := pt_ F e; replace F := pu_ F e; clear e
            refine st_end ?_
            replace h4 := F.of h4; replace h6 := F.of h6; replace h7 := F.of h7; replace h8 := F.of h8; replace h9 := F.of h9; replace h10 := F.of h10; replace h11 := F.of h11; replace h12 := F.of h12; replace h13 := F.of h13; replace h14 := F.of h14; replace h15 := F.of h15; replace h16 := F.of h16; replace h17 := F.of h17; replace h18 := F.of h18; replace h19 := F.of h19; replace h20 := F.of h20; replace h21 := F.of h21; replace h22 := F.of h22; replace h23 := F.of h23; replace h24 := F.of h24; replace h25 := F.of h25; have R := F.r; clear F
            change (Code.ret).wp _ _ _ _
            refine wp_ret ?_
            change bodyPost Tryz.prog Tryz.f32 (fun e w' => e = .returned (.bool (tellX L)) ∧ Keep (fun g => g < W.heap.size) W w') .ret a157 w107
            refine ret_one rfl R h2 ?_
            exact ⟨by rw [tell_no HC.out (by omega) (by omega) (by omega)], K1⟩
        | true =>
          have fb147 := hb147; clear hb147
          simp only [decide_eq_true_eq, decide_eq_false_iff_not, bne_iff_ne, bne_eq_false_iff_eq, beq_iff_eq, beq_eq_false_iff_ne, ne_eq, Bool.not_eq_true', Bool.not_eq_false', Bool.not_eq_eq_eq_not, Bool.not_true, Bool.not_false] at fb147
          refine st_not gz32_4_10 rfl (wanted_is (j := 9) (d := 21) rfl rfl h21 rfl) fun a158 e => ?_
          have h22 := pt_ F e; replace F := pu_ F e; replace h12 := so_ e h12; replace h13 := so_ e h13; replace h14 := so_ e h14; replace h15 := so_ e h15; replace h16 := so_ e h16; replace h17 := so_ e h17; replace h18 := so_ e h18; replace h19 := so_ e h19; replace h20 := so_ e h20; replace h21 := so_ e h21; clear e
          refine st_not gz32_4_11 rfl (wanted_is (j := 9) (d := 21) rfl rfl h21 rfl) fun a159 e => ?_
          have h23 := pt_ F e; replace F := pu_ F e; replace h12 := so_ e h12; replace h13 := so_ e h13; replace h14 := so_ e h14; replace h15 := so_ e h15; replace h16 := so_ e h16; replace h17 := so_ e h17; replace h18 := so_ e h18; replace h19 := so_ e h19; replace h20 := so_ e h20; replace h21 := so_ e h21; replace h22 := so_ e h22; clear e
          have Y : (execOp a159.eval oz32_4_12).run Tryz.prog w107 = .ok (.value (.bool true)) w107 := by unfold oz32_4_12; go_simp
          refine st_val gz32_4_12 rfl (wanted_is (j := 6) (d := 18) rfl rfl h18 rfl) Y fun a160 e => ?_; clear Y
          have h24 := pt_ F e; replace F := pu_ F e; replace h12 := so_ e h12; replace h13 := so_ e h13; replace h14 := so_ e h14; replace h15 := so_ e h15; replace h16 := so_ e h16; replace h17 := so_ e h17; replace h18 := so_ e h18; replace h19 := so_ e h19; replace h20 := so_ e h20; replace h21 := so_ e h21; replace h22 := so_ e h22; replace h23 := so_ e h23; clear e
          have Y : (execOp a160.eval oz32_4_13).run Tryz.prog w107 = .ok (.value (.bool true)) w107 := by unfold oz32_4_13; go_simp
          refine sv_ gz32_4_13 Y fun a161 e => ?_; clear Y
          have h25 := pt_ F e; replace F := pu_ F e; replace h12 := so_ e h12; replace h13 := so_ e h13; replace h14 := so_ e h14; replace h15 := so_ e h15; replace h16 := so_ e h16; replace h17 := so_ e h17; replace h18 := so_ e h18; replace h19 := so_ e h19; replace h20 := so_ e h20; replace h21 := so_ e h21; replace h22 := so_ e h22; replace h23 := so_ e h23; replace h24 := so_ e h24; clear e
          refine st_end ?_
          replace h2 := F.of h2; replace h4 := F.of h4; replace h6 := F.of h6; replace h7 := F.of h7; replace h8 := F.of h8; replace h9 := F.of h9; replace h10 := F.of h10; replace h11 := F.of h11; have R := F.r; clear F
          change (cz32_19).wp _ _ _ _
          refine wp_cond_true (x := cz32_20) (y := Code.skip) (eval_slot h25) ?_
          refine wp_seq (x := cz32_21) (y := Code.ret) ?_
          change (Code.region 5 Oz32_5 false).wp _ _ _ _
          refine reg_in (l := [0]) rfl ?_
          have F : FE_ _ [] a161 a161 := ⟨R, Ag_.refl _⟩; clear R
          have Y : (execOp a161.eval oz32_5_0).run Tryz.prog w107 = .ok (.value (.bool false)) w107 := by unfold oz32_5_0; go_simp
          refine sv_ gz32_5_0 Y fun a162 e => ?_; clear Y
          clear h2; have h2 := pt_ F e; replace F := pu_ F e; clear e
          refine st_end ?_
          replace h4 := F.of h4; replace h6 := F.of h6; replace h7 := F.of h7; replace h8 := F.of h8; replace h9 := F.of h9; replace h10 := F.of h10; replace h11 := F.of h11; replace h12 := F.of h12; replace h13 := F.of h13; replace h14 := F.of h14; replace h15 := F.of h15; replace h16 := F.of h16; replace h17 := F.of h17; replace h18 := F.of h18; replace h19 := F.of h19; replace h20 := F.of h20; replace h21 := F.of h21; replace h22 := F.of h22; replace h23 := F.of h23; replace h24 := F.of h24; replace h25 := F.of h25; have R := F.r; clear F
          change (Code.ret).wp _ _ _ _
          refine wp_ret ?_
          change bodyPost Tryz.prog Tryz.f32 (fun e w' => e = .returned (.bool (tellX L)) ∧ Keep (fun g => g < W.heap.size) W w') .ret a162 w107
          refine ret_one rfl R h2 ?_
          exact ⟨by rw [tell_no HC.out (by omega) (by omega) (by omega)], K1⟩
theorem isTell_any (W : World) (L : List UInt8) (hn : L.length ≤ 4611686018427387904) : Calls Tryz.prog 32 #[.string (str L)] W fun e w' => e = .returned (.bool (tellX L)) ∧ Keep (fun g => g < W.heap.size) W w' := by
  refine enter_sx Tryz.func32 bodyz32 rfl (by show (1 : Nat) ≤ 27; decide) fun f0 R0' hs => ?_
  exact isTell_w R0' (hs 0 _ rfl) (Keep.refl _ W) (Lib.hid hn)
def TellW (k : Nat) : Prop := ∀ (W : World) (t : Tm) (a : Option Addr) (c : Nat), t.tree.ns ≤ k → t.right = true → TmAt W.heap.size W t a c → Calls Tryz.prog 22 #[tv t a c] W fun e w' => e = .returned (.bool t.tree.tell) ∧ Keep (fun g => g < W.heap.size) W w'
def oz22_0_0 : Oper := ⟨some 1, Op.box 24 (Operand.tmp 0), 0, "write.go:36", #[], none⟩
def oz22_0_1 : Oper := ⟨some 2, Op.assign (Operand.const (Value.bool false)), 4, "write.go:36", #[], none⟩
def Oz22_0 : Array Oper := List.toArray (oz22_0_0 :: oz22_0_1 :: [])
theorem gz22_0_0 : Oz22_0[0]? = some oz22_0_0 := rfl
theorem gz22_0_1 : Oz22_0[1]? = some oz22_0_1 := rfl
def cz22_1 : Code := Code.region 0 Oz22_0 false
def oz22_1_0 : Oper := ⟨some 5, Op.fieldAddr 24 (Operand.tmp 1) 0, 0, "write.go:37", #[], none⟩
def oz22_1_1 : Oper := ⟨some 6, Op.load 3 (Operand.tmp 5), 3, "write.go:37", #[ed_ 0], none⟩
def Oz22_1 : Array Oper := List.toArray (oz22_1_0 :: oz22_1_1 :: [])
theorem gz22_1_0 : Oz22_1[0]? = some oz22_1_0 := rfl
theorem gz22_1_1 : Oz22_1[1]? = some oz22_1_1 := rfl
def cz22_4 : Code := Code.region 1 Oz22_1 false
def oz22_2_0 : Oper := ⟨some 8, Op.binOp Go.BinOp.eql 3 (Operand.tmp 6) (Operand.const (Value.int IntKind.i64 4)) 3, 4, "write.go:38", #[], none⟩
def oz22_2_1 : Oper := ⟨some 7, Op.assign (Operand.tmp 8), 4, "write.go:38", #[ed_ 0], none⟩
def Oz22_2 : Array Oper := List.toArray (oz22_2_0 :: oz22_2_1 :: [])
theorem gz22_2_0 : Oz22_2[0]? = some oz22_2_0 := rfl
theorem gz22_2_1 : Oz22_2[1]? = some oz22_2_1 := rfl
def cz22_13 : Code := Code.region 2 Oz22_2 false
def cz22_15 : Code := Code.exit 1
def cz22_14 : Code := Code.cond (Operand.tmp 7) cz22_15 Code.skip
def cz22_12 : Code := Code.seq cz22_13 cz22_14
def oz22_3_0 : Oper := ⟨some 10, Op.binOp Go.BinOp.eql 3 (Operand.tmp 6) (Operand.const (Value.int IntKind.i64 3)) 3, 4, "write.go:45", #[], none⟩
def oz22_3_1 : Oper := ⟨some 9, Op.assign (Operand.tmp 10), 4, "write.go:45", #[ed_ 0], none⟩
def Oz22_3 : Array Oper := List.toArray (oz22_3_0 :: oz22_3_1 :: [])
theorem gz22_3_0 : Oz22_3[0]? = some oz22_3_0 := rfl
theorem gz22_3_1 : Oz22_3[1]? = some oz22_3_1 := rfl
def cz22_18 : Code := Code.region 3 Oz22_3 false
def cz22_20 : Code := Code.exit 2
def cz22_19 : Code := Code.cond (Operand.tmp 9) cz22_20 Code.skip
def cz22_17 : Code := Code.seq cz22_18 cz22_19
def cz22_11 : Code := Code.seq cz22_12 cz22_17
def cz22_22 : Code := Code.exit 0
def cz22_10 : Code := Code.seq cz22_11 cz22_22
def cz22_9 : Code := Code.block 1 cz22_10
def oz22_4_0 : Oper := ⟨some 11, Op.fieldAddr 24 (Operand.tmp 1) 3, 0, "write.go:39", #[], none⟩
def oz22_4_1 : Oper := ⟨some 12, Op.load 22 (Operand.tmp 11), 22, "write.go:39", #[ed_ 0], none⟩
def oz22_4_2 : Oper := ⟨some 13, Op.call { callee := Callee.builtin Go.Builtin.len, args := #[Operand.tmp 12], argTypes := #[22] }, 3, "write.go:39", #[ed_ 1], none⟩
def oz22_4_3 : Oper := ⟨some 14, Op.move (Operand.const (Value.int IntKind.i64 0)), 3, "write.go:39", #[], none⟩
def Oz22_4 : Array Oper := List.toArray (oz22_4_0 :: oz22_4_1 :: oz22_4_2 :: oz22_4_3 :: [])
theorem gz22_4_0 : Oz22_4[0]? = some oz22_4_0 := rfl
theorem gz22_4_1 : Oz22_4[1]? = some oz22_4_1 := rfl
theorem gz22_4_2 : Oz22_4[2]? = some oz22_4_2 := rfl
theorem gz22_4_3 : Oz22_4[3]? = some oz22_4_3 := rfl
def cz22_24 : Code := Code.region 4 Oz22_4 false
def oz22_5_0 : Oper := ⟨some 15, Op.binOp Go.BinOp.lss 3 (Operand.tmp 14) (Operand.tmp 13) 3, 0, "write.go:39", #[], none⟩
def Oz22_5 : Array Oper := List.toArray (oz22_5_0 :: [])
theorem gz22_5_0 : Oz22_5[0]? = some oz22_5_0 := rfl
def cz22_28 : Code := Code.region 5 Oz22_5 false
def cz22_32 : Code := Code.exit 3
def cz22_30 : Code := Code.cond (Operand.tmp 15) Code.skip cz22_32
def oz22_6_0 : Oper := ⟨some 16, Op.indexAddr 22 (Operand.tmp 12) (Operand.tmp 14), 0, "write.go:39", #[], none⟩
def oz22_6_1 : Oper := ⟨some 17, Op.load 24 (Operand.tmp 16), 24, "write.go:39", #[ed_ 0], none⟩
def oz22_6_2 : Oper := ⟨some 4, Op.alloc 24, 0, "write.go:39", #[], none⟩
def oz22_6_3 : Oper := ⟨none, Op.store 24 (Operand.tmp 4) (Operand.tmp 17), 0, "write.go:39", #[ed_ 2, ed_ 1, ep_ 0, ep_ 1, ep_ 2], none⟩
def Oz22_6 : Array Oper := List.toArray (oz22_6_0 :: oz22_6_1 :: oz22_6_2 :: oz22_6_3 :: [])
theorem gz22_6_0 : Oz22_6[0]? = some oz22_6_0 := rfl
theorem gz22_6_1 : Oz22_6[1]? = some oz22_6_1 := rfl
theorem gz22_6_2 : Oz22_6[2]? = some oz22_6_2 := rfl
theorem gz22_6_3 : Oz22_6[3]? = some oz22_6_3 := rfl
def cz22_36 : Code := Code.region 6 Oz22_6 false
def oz22_7_0 : Oper := ⟨some 18, Op.load 24 (Operand.tmp 4), 24, "write.go:40", #[], none⟩
def oz22_7_1 : Oper := ⟨some 19, Op.call { callee := Callee.value (Operand.func 22), args := #[Operand.tmp 18], argTypes := #[24] }, 4, "write.go:40", #[ed_ 0], none⟩
def oz22_7_2 : Oper := ⟨some 20, Op.unOp Go.UnOp.not 4 (Operand.tmp 19), 4, "write.go:40", #[ed_ 1], none⟩
def Oz22_7 : Array Oper := List.toArray (oz22_7_0 :: oz22_7_1 :: oz22_7_2 :: [])
theorem gz22_7_0 : Oz22_7[0]? = some oz22_7_0 := rfl
theorem gz22_7_1 : Oz22_7[1]? = some oz22_7_1 := rfl
theorem gz22_7_2 : Oz22_7[2]? = some oz22_7_2 := rfl
def cz22_38 : Code := Code.region 7 Oz22_7 false
def oz22_8_0 : Oper := ⟨some 2, Op.assign (Operand.const (Value.bool false)), 4, "write.go:41", #[], none⟩
def Oz22_8 : Array Oper := List.toArray (oz22_8_0 :: [])
theorem gz22_8_0 : Oz22_8[0]? = some oz22_8_0 := rfl
def cz22_41 : Code := Code.region 8 Oz22_8 false
def cz22_40 : Code := Code.seq cz22_41 Code.ret
def cz22_39 : Code := Code.cond (Operand.tmp 20) cz22_40 Code.skip
def cz22_37 : Code := Code.seq cz22_38 cz22_39
def cz22_35 : Code := Code.seq cz22_36 cz22_37
def cz22_34 : Code := Code.block 4 cz22_35
def oz22_9_0 : Oper := ⟨some 21, Op.binOp Go.BinOp.add 3 (Operand.tmp 14) (Operand.const (Value.int IntKind.i64 1)) 3, 3, "write.go:39", #[], none⟩
def oz22_9_1 : Oper := ⟨some 14, Op.move (Operand.tmp 21), 3, "write.go:39", #[ed_ 0], none⟩
def Oz22_9 : Array Oper := List.toArray (oz22_9_0 :: oz22_9_1 :: [])
theorem gz22_9_0 : Oz22_9[0]? = some oz22_9_0 := rfl
theorem gz22_9_1 : Oz22_9[1]? = some oz22_9_1 := rfl
def cz22_44 : Code := Code.region 9 Oz22_9 false
def cz22_33 : Code := Code.seq cz22_34 cz22_44
def cz22_29 : Code := Code.seq cz22_30 cz22_33
def cz22_27 : Code := Code.seq cz22_28 cz22_29
def cz22_26 : Code := Code.loop cz22_27
def cz22_25 : Code := Code.block 3 cz22_26
def cz22_23 : Code := Code.seq cz22_24 cz22_25
def cz22_8 : Code := Code.seq cz22_9 cz22_23
def cz22_7 : Code := Code.block 2 cz22_8
def oz22_10_0 : Oper := ⟨some 22, Op.fieldAddr 24 (Operand.tmp 1) 1, 0, "write.go:46", #[], none⟩
def oz22_10_1 : Oper := ⟨some 23, Op.load 9 (Operand.tmp 22), 9, "write.go:46", #[ed_ 0], none⟩
def oz22_10_2 : Oper := ⟨some 24, Op.call { callee := Callee.value (Operand.func 32), args := #[Operand.tmp 23], argTypes := #[9] }, 4, "write.go:46", #[ed_ 1], none⟩
def oz22_10_3 : Oper := ⟨some 2, Op.assign (Operand.tmp 24), 4, "write.go:46", #[ed_ 2, ec_ 2, ep_ 0, ep_ 1, ep_ 2], none⟩
def Oz22_10 : Array Oper := List.toArray (oz22_10_0 :: oz22_10_1 :: oz22_10_2 :: oz22_10_3 :: [])
theorem gz22_10_0 : Oz22_10[0]? = some oz22_10_0 := rfl
theorem gz22_10_1 : Oz22_10[1]? = some oz22_10_1 := rfl
theorem gz22_10_2 : Oz22_10[2]? = some oz22_10_2 := rfl
theorem gz22_10_3 : Oz22_10[3]? = some oz22_10_3 := rfl
def cz22_47 : Code := Code.region 10 Oz22_10 false
def cz22_46 : Code := Code.seq cz22_47 Code.ret
def cz22_49 : Code := Code.exit 0
def cz22_45 : Code := Code.seq cz22_46 cz22_49
def cz22_6 : Code := Code.seq cz22_7 cz22_45
def cz22_5 : Code := Code.block 0 cz22_6
def cz22_3 : Code := Code.seq cz22_4 cz22_5
def oz22_11_0 : Oper := ⟨some 2, Op.assign (Operand.const (Value.bool true)), 4, "write.go:48", #[], none⟩
def Oz22_11 : Array Oper := List.toArray (oz22_11_0 :: [])
theorem gz22_11_0 : Oz22_11[0]? = some oz22_11_0 := rfl
def cz22_51 : Code := Code.region 11 Oz22_11 false
def cz22_50 : Code := Code.seq cz22_51 Code.ret
def cz22_2 : Code := Code.seq cz22_3 cz22_50
def cz22_0 : Code := Code.seq cz22_1 cz22_2
theorem enz22_1022 : Enters Tryz.prog 22 := enters_of Tryz.func22 (by kernel_rfl) rfl
theorem enz22_1032 : Enters Tryz.prog 32 := enters_of Tryz.func32 (by kernel_rfl) rfl
theorem bodyz22 : Tryz.f22.body = some cz22_0 := by kernel_rfl
set_option maxRecDepth 100000 in
set_option maxHeartbeats 4000000 in
theorem are1_w {k : Nat} {W : World} {t : Tm} {a : Option Addr} {c : Nat} {f0 : Act} {w0 : World} (R : FrS 25 f0) (h0 : f0.tmps[0]? = some (.agg #[.int .i64 t.k, .string (str t.nm), .int .i64 t.i, .slice a t.args.length c])) (K1 : Keep (fun g => g < W.heap.size) W w0)  (HK : Hid (t.k = 1)) : cz22_0.wp Tryz.prog (bodyPost Tryz.prog Tryz.f22 (fun e w' => e = .returned (.bool t.tree.tell) ∧ Keep (fun g => g < W.heap.size) W w')) f0 w0 := by
  refine wp_seq (x := cz22_1) (y := cz22_2) ?_
  change (Code.region 0 Oz22_0 false).wp _ _ _ _
  refine reg_in (l := [0, 1]) rfl ?_
  have F : FE_ _ [] f0 f0 := ⟨R, Ag_.refl _⟩; clear R
  have Y : (execOp f0.eval oz22_0_0).run Tryz.prog w0 = .ok (.value (.pointer (some ⟨w0.heap.size, 0, none⟩))) (w0.alloc (.cells #[.int .i64 t.k, .string (str t.nm), .int .i64 t.i, .slice a t.args.length c] 24)) := by have r0 := F.of h0; unfold oz22_0_0; go_simp
  have B101 := Blk.new w0 24 #[.int .i64 t.k, .string (str t.nm), .int .i64 t.i, .slice a t.args.length c]
  obtain ⟨w102, hw⟩ : ∃ x, x = w0.alloc (.cells #[.int .i64 t.k, .string (str t.nm), .int .i64 t.i, .slice a t.args.length c] 24) := ⟨_, rfl⟩; rw [← hw] at Y B101
  obtain ⟨b101, hb⟩ : ∃ x, x = w0.heap.size := ⟨_, rfl⟩; rw [← hb] at Y B101
  have LK1_b101 := lk_ hb K1; replace K1 := ka_ hw K1; clear hw hb
  refine sv_ gz22_0_0 Y fun a103 e => ?_; clear Y
  have h1 := pt_ F e; replace F := pu_ F e; clear e
  have Y : (execOp a103.eval oz22_0_1).run Tryz.prog w102 = .ok (.value (.bool false)) w102 := by unfold oz22_0_1; go_simp
  refine sv_ gz22_0_1 Y fun a104 e => ?_; clear Y
  have h2 := pt_ F e; replace F := pu_ F e; replace h1 := so_ e h1; clear e
  refine st_end ?_
  clear h0; have R := F.r; clear F
  change (cz22_2).wp _ _ _ _
  refine wp_seq (x := cz22_3) (y := cz22_50) ?_
  refine wp_seq (x := cz22_4) (y := cz22_5) ?_
  change (Code.region 1 Oz22_1 false).wp _ _ _ _
  refine reg_in (l := [0, 1]) rfl ?_
  have F : FE_ _ [] a104 a104 := ⟨R, Ag_.refl _⟩; clear R
  refine sv_ gz22_1_0 (yf0_ rfl (F.of h1)) fun a105 e => ?_
  have h5 := pt_ F e; replace F := pu_ F e; clear e
  refine sv_ gz22_1_1 (yk0_ rfl h5 B101) fun a106 e => ?_
  clear h5; have h6 := pt_ F e; replace F := pu_ F e; clear e
  refine st_end ?_
  replace h1 := F.of h1; replace h2 := F.of h2; have R := F.r; clear F
  change (cz22_5).wp _ _ _ _
  refine wp_block (id := 0) (c := cz22_6) ?_
  refine wp_seq (x := cz22_7) (y := cz22_45) ?_
  refine wp_block (id := 2) (c := cz22_8) ?_
  refine wp_seq (x := cz22_9) (y := cz22_23) ?_
  refine wp_block (id := 1) (c := cz22_10) ?_
  refine wp_seq (x := cz22_11) (y := cz22_22) ?_
  refine wp_seq (x := cz22_12) (y := cz22_17) ?_
  refine wp_seq (x := cz22_13) (y := cz22_14) ?_
  change (Code.region 2 Oz22_2 false).wp _ _ _ _
  refine reg_in (l := [0, 1]) rfl ?_
  have F : FE_ _ [] a106 a106 := ⟨R, Ag_.refl _⟩; clear R
  have Y : (execOp a106.eval oz22_2_0).run Tryz.prog w102 = .ok (.value (.bool false)) w102 := by have r6 := F.of h6; have e1 : (t.k == 4) = false := (by rw [HK.out]; rfl); unfold oz22_2_0; go_simp
  refine sv_ gz22_2_0 Y fun a107 e => ?_; clear Y
  have h8 := pt_ F e; replace F := pu_ F e; clear e
  refine sv_ gz22_2_1 (ya_ rfl h8) fun a108 e => ?_
  clear h8; have h7 := pt_ F e; replace F := pu_ F e; clear e
  refine st_end ?_
  replace h1 := F.of h1; replace h2 := F.of h2; replace h6 := F.of h6; have R := F.r; clear F
  change (cz22_14).wp _ _ _ _
  refine wp_cond_false (x := cz22_15) (y := Code.skip) (eval_slot h7) ?_
  refine wp_skip ?_
  change (cz22_17).wp _ _ _ _
  refine wp_seq (x := cz22_18) (y := cz22_19) ?_
  change (Code.region 3 Oz22_3 false).wp _ _ _ _
  refine reg_in (l := [0, 1]) rfl ?_
  have F : FE_ _ [] a108 a108 := ⟨R, Ag_.refl _⟩; clear R
  have Y : (execOp a108.eval oz22_3_0).run Tryz.prog w102 = .ok (.value (.bool false)) w102 := by have r6 := F.of h6; have e1 : (t.k == 3) = false := (by rw [HK.out]; rfl); unfold oz22_3_0; go_simp
  refine sv_ gz22_3_0 Y fun a109 e => ?_; clear Y
  have h10 := pt_ F e; replace F := pu_ F e; clear e
  refine sv_ gz22_3_1 (ya_ rfl h10) fun a110 e => ?_
  clear h10; have h9 := pt_ F e; replace F := pu_ F e; clear e
  refine st_end ?_
  replace h1 := F.of h1; replace h2 := F.of h2; clear h6; clear h7; have R := F.r; clear F
  change (cz22_19).wp _ _ _ _
  refine wp_cond_false (x := cz22_20) (y := Code.skip) (eval_slot h9) ?_
  refine wp_skip ?_
  change (cz22_22).wp _ _ _ _
  refine wp_exit ?_
  change (cz22_50).wp _ _ _ _
  refine wp_seq (x := cz22_51) (y := Code.ret) ?_
  change (Code.region 11 Oz22_11 false).wp _ _ _ _
  refine reg_in (l := [0]) rfl ?_
  have F : FE_ _ [] a110 a110 := ⟨R, Ag_.refl _⟩; clear R
  have Y : (execOp a110.eval oz22_11_0).run Tryz.prog w102 = .ok (.value (.bool true)) w102 := by unfold oz22_11_0; go_simp
  refine sv_ gz22_11_0 Y fun a111 e => ?_; clear Y
  clear h2; have h2 := pt_ F e; replace F := pu_ F e; clear e
  refine st_end ?_
  clear h1; clear h9; have R := F.r; clear F
  change (Code.ret).wp _ _ _ _
  refine wp_ret ?_
  change bodyPost Tryz.prog Tryz.f22 (fun e w' => e = .returned (.bool t.tree.tell) ∧ Keep (fun g => g < W.heap.size) W w') .ret a111 w102
  refine ret_one rfl R h2 ?_
  exact ⟨by rw [tree_1 HK.out]; rfl, K1⟩
set_option maxRecDepth 100000 in
set_option maxHeartbeats 4000000 in
theorem are2_w {k : Nat} {W : World} {t : Tm} {a : Option Addr} {c : Nat} {f0 : Act} {w0 : World} (R : FrS 25 f0) (h0 : f0.tmps[0]? = some (.agg #[.int .i64 t.k, .string (str t.nm), .int .i64 t.i, .slice a t.args.length c])) (K1 : Keep (fun g => g < W.heap.size) W w0)  (HK : Hid (t.k = 2)) : cz22_0.wp Tryz.prog (bodyPost Tryz.prog Tryz.f22 (fun e w' => e = .returned (.bool t.tree.tell) ∧ Keep (fun g => g < W.heap.size) W w')) f0 w0 := by
  refine wp_seq (x := cz22_1) (y := cz22_2) ?_
  change (Code.region 0 Oz22_0 false).wp _ _ _ _
  refine reg_in (l := [0, 1]) rfl ?_
  have F : FE_ _ [] f0 f0 := ⟨R, Ag_.refl _⟩; clear R
  have Y : (execOp f0.eval oz22_0_0).run Tryz.prog w0 = .ok (.value (.pointer (some ⟨w0.heap.size, 0, none⟩))) (w0.alloc (.cells #[.int .i64 t.k, .string (str t.nm), .int .i64 t.i, .slice a t.args.length c] 24)) := by have r0 := F.of h0; unfold oz22_0_0; go_simp
  have B101 := Blk.new w0 24 #[.int .i64 t.k, .string (str t.nm), .int .i64 t.i, .slice a t.args.length c]
  obtain ⟨w102, hw⟩ : ∃ x, x = w0.alloc (.cells #[.int .i64 t.k, .string (str t.nm), .int .i64 t.i, .slice a t.args.length c] 24) := ⟨_, rfl⟩; rw [← hw] at Y B101
  obtain ⟨b101, hb⟩ : ∃ x, x = w0.heap.size := ⟨_, rfl⟩; rw [← hb] at Y B101
  have LK1_b101 := lk_ hb K1; replace K1 := ka_ hw K1; clear hw hb
  refine sv_ gz22_0_0 Y fun a103 e => ?_; clear Y
  have h1 := pt_ F e; replace F := pu_ F e; clear e
  have Y : (execOp a103.eval oz22_0_1).run Tryz.prog w102 = .ok (.value (.bool false)) w102 := by unfold oz22_0_1; go_simp
  refine sv_ gz22_0_1 Y fun a104 e => ?_; clear Y
  have h2 := pt_ F e; replace F := pu_ F e; replace h1 := so_ e h1; clear e
  refine st_end ?_
  clear h0; have R := F.r; clear F
  change (cz22_2).wp _ _ _ _
  refine wp_seq (x := cz22_3) (y := cz22_50) ?_
  refine wp_seq (x := cz22_4) (y := cz22_5) ?_
  change (Code.region 1 Oz22_1 false).wp _ _ _ _
  refine reg_in (l := [0, 1]) rfl ?_
  have F : FE_ _ [] a104 a104 := ⟨R, Ag_.refl _⟩; clear R
  refine sv_ gz22_1_0 (yf0_ rfl (F.of h1)) fun a105 e => ?_
  have h5 := pt_ F e; replace F := pu_ F e; clear e
  refine sv_ gz22_1_1 (yk0_ rfl h5 B101) fun a106 e => ?_
  clear h5; have h6 := pt_ F e; replace F := pu_ F e; clear e
  refine st_end ?_
  replace h1 := F.of h1; replace h2 := F.of h2; have R := F.r; clear F
  change (cz22_5).wp _ _ _ _
  refine wp_block (id := 0) (c := cz22_6) ?_
  refine wp_seq (x := cz22_7) (y := cz22_45) ?_
  refine wp_block (id := 2) (c := cz22_8) ?_
  refine wp_seq (x := cz22_9) (y := cz22_23) ?_
  refine wp_block (id := 1) (c := cz22_10) ?_
  refine wp_seq (x := cz22_11) (y := cz22_22) ?_
  refine wp_seq (x := cz22_12) (y := cz22_17) ?_
  refine wp_seq (x := cz22_13) (y := cz22_14) ?_
  change (Code.region 2 Oz22_2 false).wp _ _ _ _
  refine reg_in (l := [0, 1]) rfl ?_
  have F : FE_ _ [] a106 a106 := ⟨R, Ag_.refl _⟩; clear R
  have Y : (execOp a106.eval oz22_2_0).run Tryz.prog w102 = .ok (.value (.bool false)) w102 := by have r6 := F.of h6; have e1 : (t.k == 4) = false := (by rw [HK.out]; rfl); unfold oz22_2_0; go_simp
  refine sv_ gz22_2_0 Y fun a107 e => ?_; clear Y
  have h8 := pt_ F e; replace F := pu_ F e; clear e
  refine sv_ gz22_2_1 (ya_ rfl h8) fun a108 e => ?_
  clear h8; have h7 := pt_ F e; replace F := pu_ F e; clear e
  refine st_end ?_
  replace h1 := F.of h1; replace h2 := F.of h2; replace h6 := F.of h6; have R := F.r; clear F
  change (cz22_14).wp _ _ _ _
  refine wp_cond_false (x := cz22_15) (y := Code.skip) (eval_slot h7) ?_
  refine wp_skip ?_
  change (cz22_17).wp _ _ _ _
  refine wp_seq (x := cz22_18) (y := cz22_19) ?_
  change (Code.region 3 Oz22_3 false).wp _ _ _ _
  refine reg_in (l := [0, 1]) rfl ?_
  have F : FE_ _ [] a108 a108 := ⟨R, Ag_.refl _⟩; clear R
  have Y : (execOp a108.eval oz22_3_0).run Tryz.prog w102 = .ok (.value (.bool false)) w102 := by have r6 := F.of h6; have e1 : (t.k == 3) = false := (by rw [HK.out]; rfl); unfold oz22_3_0; go_simp
  refine sv_ gz22_3_0 Y fun a109 e => ?_; clear Y
  have h10 := pt_ F e; replace F := pu_ F e; clear e
  refine sv_ gz22_3_1 (ya_ rfl h10) fun a110 e => ?_
  clear h10; have h9 := pt_ F e; replace F := pu_ F e; clear e
  refine st_end ?_
  replace h1 := F.of h1; replace h2 := F.of h2; clear h6; clear h7; have R := F.r; clear F
  change (cz22_19).wp _ _ _ _
  refine wp_cond_false (x := cz22_20) (y := Code.skip) (eval_slot h9) ?_
  refine wp_skip ?_
  change (cz22_22).wp _ _ _ _
  refine wp_exit ?_
  change (cz22_50).wp _ _ _ _
  refine wp_seq (x := cz22_51) (y := Code.ret) ?_
  change (Code.region 11 Oz22_11 false).wp _ _ _ _
  refine reg_in (l := [0]) rfl ?_
  have F : FE_ _ [] a110 a110 := ⟨R, Ag_.refl _⟩; clear R
  have Y : (execOp a110.eval oz22_11_0).run Tryz.prog w102 = .ok (.value (.bool true)) w102 := by unfold oz22_11_0; go_simp
  refine sv_ gz22_11_0 Y fun a111 e => ?_; clear Y
  clear h2; have h2 := pt_ F e; replace F := pu_ F e; clear e
  refine st_end ?_
  clear h1; clear h9; have R := F.r; clear F
  change (Code.ret).wp _ _ _ _
  refine wp_ret ?_
  change bodyPost Tryz.prog Tryz.f22 (fun e w' => e = .returned (.bool t.tree.tell) ∧ Keep (fun g => g < W.heap.size) W w') .ret a111 w102
  refine ret_one rfl R h2 ?_
  exact ⟨by rw [tree_2 HK.out]; rfl, K1⟩
set_option maxRecDepth 100000 in
set_option maxHeartbeats 4000000 in
theorem are3_w {k : Nat} {W : World} {t : Tm} {a : Option Addr} {c : Nat} {f0 : Act} {w0 : World} (R : FrS 25 f0) (h0 : f0.tmps[0]? = some (.agg #[.int .i64 t.k, .string (str t.nm), .int .i64 t.i, .slice a t.args.length c])) (K1 : Keep (fun g => g < W.heap.size) W w0)  (HNL : Hid (t.nm.length ≤ 4611686018427387904)) (HK : Hid (t.k = 3)) : cz22_0.wp Tryz.prog (bodyPost Tryz.prog Tryz.f22 (fun e w' => e = .returned (.bool t.tree.tell) ∧ Keep (fun g => g < W.heap.size) W w')) f0 w0 := by
  refine wp_seq (x := cz22_1) (y := cz22_2) ?_
  change (Code.region 0 Oz22_0 false).wp _ _ _ _
  refine reg_in (l := [0, 1]) rfl ?_
  have F : FE_ _ [] f0 f0 := ⟨R, Ag_.refl _⟩; clear R
  have Y : (execOp f0.eval oz22_0_0).run Tryz.prog w0 = .ok (.value (.pointer (some ⟨w0.heap.size, 0, none⟩))) (w0.alloc (.cells #[.int .i64 t.k, .string (str t.nm), .int .i64 t.i, .slice a t.args.length c] 24)) := by have r0 := F.of h0; unfold oz22_0_0; go_simp
  have B101 := Blk.new w0 24 #[.int .i64 t.k, .string (str t.nm), .int .i64 t.i, .slice a t.args.length c]
  obtain ⟨w102, hw⟩ : ∃ x, x = w0.alloc (.cells #[.int .i64 t.k, .string (str t.nm), .int .i64 t.i, .slice a t.args.length c] 24) := ⟨_, rfl⟩; rw [← hw] at Y B101
  obtain ⟨b101, hb⟩ : ∃ x, x = w0.heap.size := ⟨_, rfl⟩; rw [← hb] at Y B101
  have LK1_b101 := lk_ hb K1; replace K1 := ka_ hw K1; clear hw hb
  refine sv_ gz22_0_0 Y fun a103 e => ?_; clear Y
  have h1 := pt_ F e; replace F := pu_ F e; clear e
  have Y : (execOp a103.eval oz22_0_1).run Tryz.prog w102 = .ok (.value (.bool false)) w102 := by unfold oz22_0_1; go_simp
  refine sv_ gz22_0_1 Y fun a104 e => ?_; clear Y
  have h2 := pt_ F e; replace F := pu_ F e; replace h1 := so_ e h1; clear e
  refine st_end ?_
  clear h0; have R := F.r; clear F
  change (cz22_2).wp _ _ _ _
  refine wp_seq (x := cz22_3) (y := cz22_50) ?_
  refine wp_seq (x := cz22_4) (y := cz22_5) ?_
  change (Code.region 1 Oz22_1 false).wp _ _ _ _
  refine reg_in (l := [0, 1]) rfl ?_
  have F : FE_ _ [] a104 a104 := ⟨R, Ag_.refl _⟩; clear R
  refine sv_ gz22_1_0 (yf0_ rfl (F.of h1)) fun a105 e => ?_
  have h5 := pt_ F e; replace F := pu_ F e; clear e
  refine sv_ gz22_1_1 (yk0_ rfl h5 B101) fun a106 e => ?_
  clear h5; have h6 := pt_ F e; replace F := pu_ F e; clear e
  refine st_end ?_
  replace h1 := F.of h1; replace h2 := F.of h2; have R := F.r; clear F
  change (cz22_5).wp _ _ _ _
  refine wp_block (id := 0) (c := cz22_6) ?_
  refine wp_seq (x := cz22_7) (y := cz22_45) ?_
  refine wp_block (id := 2) (c := cz22_8) ?_
  refine wp_seq (x := cz22_9) (y := cz22_23) ?_
  refine wp_block (id := 1) (c := cz22_10) ?_
  refine wp_seq (x := cz22_11) (y := cz22_22) ?_
  refine wp_seq (x := cz22_12) (y := cz22_17) ?_
  refine wp_seq (x := cz22_13) (y := cz22_14) ?_
  change (Code.region 2 Oz22_2 false).wp _ _ _ _
  refine reg_in (l := [0, 1]) rfl ?_
  have F : FE_ _ [] a106 a106 := ⟨R, Ag_.refl _⟩; clear R
  have Y : (execOp a106.eval oz22_2_0).run Tryz.prog w102 = .ok (.value (.bool false)) w102 := by have r6 := F.of h6; have e1 : (t.k == 4) = false := (by rw [HK.out]; rfl); unfold oz22_2_0; go_simp
  refine sv_ gz22_2_0 Y fun a107 e => ?_; clear Y
  have h8 := pt_ F e; replace F := pu_ F e; clear e
  refine sv_ gz22_2_1 (ya_ rfl h8) fun a108 e => ?_
  clear h8; have h7 := pt_ F e; replace F := pu_ F e; clear e
  refine st_end ?_
  replace h1 := F.of h1; replace h2 := F.of h2; replace h6 := F.of h6; have R := F.r; clear F
  change (cz22_14).wp _ _ _ _
  refine wp_cond_false (x := cz22_15) (y := Code.skip) (eval_slot h7) ?_
  refine wp_skip ?_
  change (cz22_17).wp _ _ _ _
  refine wp_seq (x := cz22_18) (y := cz22_19) ?_
  change (Code.region 3 Oz22_3 false).wp _ _ _ _
  refine reg_in (l := [0, 1]) rfl ?_
  have F : FE_ _ [] a108 a108 := ⟨R, Ag_.refl _⟩; clear R
  have Y : (execOp a108.eval oz22_3_0).run Tryz.prog w102 = .ok (.value (.bool true)) w102 := by have r6 := F.of h6; have e1 : (t.k == 3) = true := (by rw [HK.out]; rfl); unfold oz22_3_0; go_simp
  refine sv_ gz22_3_0 Y fun a109 e => ?_; clear Y
  have h10 := pt_ F e; replace F := pu_ F e; clear e
  refine sv_ gz22_3_1 (ya_ rfl h10) fun a110 e => ?_
  clear h10; have h9 := pt_ F e; replace F := pu_ F e; clear e
  refine st_end ?_
  replace h1 := F.of h1; replace h2 := F.of h2; clear h6; clear h7; have R := F.r; clear F
  change (cz22_19).wp _ _ _ _
  refine wp_cond_true (x := cz22_20) (y := Code.skip) (eval_slot h9) ?_
  refine wp_exit ?_
  change (cz22_45).wp _ _ _ _
  refine wp_seq (x := cz22_46) (y := cz22_49) ?_
  refine wp_seq (x := cz22_47) (y := Code.ret) ?_
  change (Code.region 10 Oz22_10 false).wp _ _ _ _
  refine reg_in (l := [0, 1, 2, 3]) rfl ?_
  have F : FE_ _ [] a110 a110 := ⟨R, Ag_.refl _⟩; clear R
  refine sv_ gz22_10_0 (yf1_ rfl (F.of h1)) fun a111 e => ?_
  have h22 := pt_ F e; replace F := pu_ F e; clear e
  refine sv_ gz22_10_1 (yk1_ rfl h22 B101) fun a112 e => ?_
  clear h22; have h23 := pt_ F e; replace F := pu_ F e; clear e
  obtain ⟨bl, hbl⟩ : ∃ q, tellX t.nm = q := ⟨_, rfl⟩; have hcall := isTell_any w102 t.nm HNL.out; rw [hbl] at hcall
  refine st_call gz22_10_2 rfl (wanted_free rfl) (yc1_ enz22_1032 rfl h23) ((hcall).mono ?_)
  rintro e9 w113 ⟨rfl, kk⟩
  replace K1 := keep_onto K1 kk
  replace B101 := blk_on B101 kk
  clear hcall; have HBL := Lib.hid hbl; clear hbl
  clear kk
  refine ⟨_, rfl, fun a114 e => ?_⟩
  clear h23; have h24 := pt_ F e; replace F := pu_ F e; clear e
  refine sv_ gz22_10_3 (ya_ rfl h24) fun a115 e => ?_
  clear h24 h2; have h2 := pt_ F e; replace F := pu_ F e; clear e
  refine st_end ?_
  clear h1; clear h9; have R := F.r; clear F
  change (Code.ret).wp _ _ _ _
  refine wp_ret ?_
  change bodyPost Tryz.prog Tryz.f22 (fun e w' => e = .returned (.bool t.tree.tell) ∧ Keep (fun g => g < W.heap.size) W w') .ret a115 w113
  refine ret_one rfl R h2 ?_
  exact ⟨by rw [tree_3 HK.out]; show _ = Ending.returned (.bool (tellX t.nm)); rw [HBL.out], K1⟩
set_option maxRecDepth 100000 in
set_option maxHeartbeats 4000000 in
theorem are4_w {k : Nat} {W : World} {t : Tm} {a : Option Addr} {c : Nat} {f0 : Act} {w0 : World} (R : FrS 25 f0) (h0 : f0.tmps[0]? = some (.agg #[.int .i64 t.k, .string (str t.nm), .int .i64 t.i, .slice a t.args.length c])) (K1 : Keep (fun g => g < W.heap.size) W w0)  (IH : Hid (TellW k)) (HNS : Hid (t.tree.ns ≤ k + 1)) (HR : Hid (t.right = true)) (HT : Hid (TmAt W.heap.size W t a c)) (HNL : Hid (t.nm.length ≤ 4611686018427387904)) (HK : Hid (t.k = 4)) : cz22_0.wp Tryz.prog (bodyPost Tryz.prog Tryz.f22 (fun e w' => e = .returned (.bool t.tree.tell) ∧ Keep (fun g => g < W.heap.size) W w')) f0 w0 := by
  refine wp_seq (x := cz22_1) (y := cz22_2) ?_
  change (Code.region 0 Oz22_0 false).wp _ _ _ _
  refine reg_in (l := [0, 1]) rfl ?_
  have F : FE_ _ [] f0 f0 := ⟨R, Ag_.refl _⟩; clear R
  have Y : (execOp f0.eval oz22_0_0).run Tryz.prog w0 = .ok (.value (.pointer (some ⟨w0.heap.size, 0, none⟩))) (w0.alloc (.cells #[.int .i64 t.k, .string (str t.nm), .int .i64 t.i, .slice a t.args.length c] 24)) := by have r0 := F.of h0; unfold oz22_0_0; go_simp
  have B101 := Blk.new w0 24 #[.int .i64 t.k, .string (str t.nm), .int .i64 t.i, .slice a t.args.length c]
  obtain ⟨w102, hw⟩ : ∃ x, x = w0.alloc (.cells #[.int .i64 t.k, .string (str t.nm), .int .i64 t.i, .slice a t.args.length c] 24) := ⟨_, rfl⟩; rw [← hw] at Y B101
  obtain ⟨b101, hb⟩ : ∃ x, x = w0.heap.size := ⟨_, rfl⟩; rw [← hb] at Y B101
  have LK1_b101 := lk_ hb K1; replace K1 := ka_ hw K1; clear hw hb
  refine sv_ gz22_0_0 Y fun a103 e => ?_; clear Y
  have h1 := pt_ F e; replace F := pu_ F e; clear e
  have Y : (execOp a103.eval oz22_0_1).run Tryz.prog w102 = .ok (.value (.bool false)) w102 := by unfold oz22_0_1; go_simp
  refine sv_ gz22_0_1 Y fun a104 e => ?_; clear Y
  have h2 := pt_ F e; replace F := pu_ F e; replace h1 := so_ e h1; clear e
  refine st_end ?_
  clear h0; have R := F.r; clear F
  change (cz22_2).wp _ _ _ _
  refine wp_seq (x := cz22_3) (y := cz22_50) ?_
  refine wp_seq (x := cz22_4) (y := cz22_5) ?_
  change (Code.region 1 Oz22_1 false).wp _ _ _ _
  refine reg_in (l := [0, 1]) rfl ?_
  have F : FE_ _ [] a104 a104 := ⟨R, Ag_.refl _⟩; clear R
  refine sv_ gz22_1_0 (yf0_ rfl (F.of h1)) fun a105 e => ?_
  have h5 := pt_ F e; replace F := pu_ F e; clear e
  refine sv_ gz22_1_1 (yk0_ rfl h5 B101) fun a106 e => ?_
  clear h5; have h6 := pt_ F e; replace F := pu_ F e; clear e
  refine st_end ?_
  replace h1 := F.of h1; replace h2 := F.of h2; have R := F.r; clear F
  change (cz22_5).wp _ _ _ _
  refine wp_block (id := 0) (c := cz22_6) ?_
  refine wp_seq (x := cz22_7) (y := cz22_45) ?_
  refine wp_block (id := 2) (c := cz22_8) ?_
  refine wp_seq (x := cz22_9) (y := cz22_23) ?_
  refine wp_block (id := 1) (c := cz22_10) ?_
  refine wp_seq (x := cz22_11) (y := cz22_22) ?_
  refine wp_seq (x := cz22_12) (y := cz22_17) ?_
  refine wp_seq (x := cz22_13) (y := cz22_14) ?_
  change (Code.region 2 Oz22_2 false).wp _ _ _ _
  refine reg_in (l := [0, 1]) rfl ?_
  have F : FE_ _ [] a106 a106 := ⟨R, Ag_.refl _⟩; clear R
  have Y : (execOp a106.eval oz22_2_0).run Tryz.prog w102 = .ok (.value (.bool true)) w102 := by have r6 := F.of h6; have e1 : (t.k == 4) = true := (by rw [HK.out]; rfl); unfold oz22_2_0; go_simp
  refine sv_ gz22_2_0 Y fun a107 e => ?_; clear Y
  have h8 := pt_ F e; replace F := pu_ F e; clear e
  refine sv_ gz22_2_1 (ya_ rfl h8) fun a108 e => ?_
  clear h8; have h7 := pt_ F e; replace F := pu_ F e; clear e
  refine st_end ?_
  replace h1 := F.of h1; replace h2 := F.of h2; replace h6 := F.of h6; have R := F.r; clear F
  change (cz22_14).wp _ _ _ _
  refine wp_cond_true (x := cz22_15) (y := Code.skip) (eval_slot h7) ?_
  refine wp_exit ?_
  change (cz22_23).wp _ _ _ _
  refine wp_seq (x := cz22_24) (y := cz22_25) ?_
  change (Code.region 4 Oz22_4 false).wp _ _ _ _
  refine reg_in (l := [0, 1, 2, 3]) rfl ?_
  have F : FE_ _ [] a108 a108 := ⟨R, Ag_.refl _⟩; clear R
  refine sv_ gz22_4_0 (yf3_ rfl (F.of h1)) fun a109 e => ?_
  have h11 := pt_ F e; replace F := pu_ F e; clear e
  refine sv_ gz22_4_1 (yk3_ rfl h11 B101) fun a110 e => ?_
  clear h11; have h12 := pt_ F e; replace F := pu_ F e; clear e
  have Y : (execOp a110.eval oz22_4_2).run Tryz.prog w102 = .ok (.value (.int .i64 t.args.length)) w102 := by unfold oz22_4_2; go_simp
  refine sv_ gz22_4_2 Y fun a111 e => ?_; clear Y
  have h13 := pt_ F e; replace F := pu_ F e; replace h12 := so_ e h12; clear e
  have Y : (execOp a111.eval oz22_4_3).run Tryz.prog w102 = .ok (.value (.int .i64 0)) w102 := by unfold oz22_4_3; go_simp
  refine sv_ gz22_4_3 Y fun a112 e => ?_; clear Y
  have h14 := pt_ F e; replace F := pu_ F e; replace h12 := so_ e h12; replace h13 := so_ e h13; clear e
  refine st_end ?_
  replace h1 := F.of h1; replace h2 := F.of h2; clear h6; clear h7; have R := F.r; clear F
  change (cz22_25).wp _ _ _ _
  refine wp_block (id := 3) (c := cz22_26) ?_
  obtain ⟨ps, hps, hS⟩ := (TmS.of HT.out (Nat.le_refl _)).args; have hpl : ps.length = t.args.length := (by rw [← hps, List.length_map]); have HS := Lib.hid hS; have HPS := Lib.hid hps; clear hS hps
  refine wp_loop_ghost (c := cz22_27) (fun n fX wX => ∃ j : Nat, n = t.args.length - j ∧ FrS 25 fX ∧ fX.tmps[1]? = some (.pointer (some ⟨b101, 0, none⟩)) ∧ fX.tmps[2]? = some (.bool false) ∧ fX.tmps[12]? = some (.slice a t.args.length c) ∧ fX.tmps[13]? = some (.int .i64 t.args.length) ∧ fX.tmps[14]? = some (.int .i64 (j : Int)) ∧ Keep (fun g => g < W.heap.size) W wX ∧ Blk wX b101 24 #[.int .i64 t.k, .string (str t.nm), .int .i64 t.i, .slice a t.args.length c] ∧ j ≤ t.args.length ∧ Hid ((t.args.take j).all (fun x => x.tree.tell) = true)) (t.args.length - 0) ⟨0, rfl, R, h1, h2, h12, h13, h14, K1, B101, Nat.zero_le _, (Lib.hid rfl)⟩ ?_
  clear R h1 h2 h12 h13 h14 K1 B101
  rintro n115 a113 w114 ⟨j, rfl, R, h1, h2, h12, h13, h14, K1, B101, hj, HA⟩
  refine wp_seq (x := cz22_28) (y := cz22_29) ?_
  change (Code.region 5 Oz22_5 false).wp _ _ _ _
  refine reg_in (l := [0]) rfl ?_
  have F : FE_ _ [] a113 a113 := ⟨R, Ag_.refl _⟩; clear R
  obtain ⟨b116, hb116⟩ : ∃ x, (decide ((j : Int) < (t.args.length : Int))) = x := ⟨_, rfl⟩
  have Y : (execOp a113.eval oz22_5_0).run Tryz.prog w114 = .ok (.value (.bool b116)) w114 := by have r13 := F.of h13; have r14 := F.of h14; rw [← hb116]; unfold oz22_5_0; go_simp
  refine sv_ gz22_5_0 Y fun a117 e => ?_; clear Y
  have h15 := pt_ F e; replace F := pu_ F e; clear e
  refine st_end ?_
  replace h1 := F.of h1; replace h2 := F.of h2; replace h12 := F.of h12; replace h13 := F.of h13; replace h14 := F.of h14; have R := F.r; clear F
  change (cz22_29).wp _ _ _ _
  refine wp_seq (x := cz22_30) (y := cz22_33) ?_
  cases b116 with
  | false =>
    have fb116 := hb116; clear hb116
    simp only [decide_eq_true_eq, decide_eq_false_iff_not, bne_iff_ne, bne_eq_false_iff_eq, beq_iff_eq, beq_eq_false_iff_ne, ne_eq, Bool.not_eq_true', Bool.not_eq_false', Bool.not_eq_eq_eq_not, Bool.not_true, Bool.not_false] at fb116
    refine wp_cond_false (x := Code.skip) (y := cz22_32) (eval_slot h15) ?_
    refine wp_exit ?_
    change (cz22_45).wp _ _ _ _
    refine wp_seq (x := cz22_46) (y := cz22_49) ?_
    refine wp_seq (x := cz22_47) (y := Code.ret) ?_
    change (Code.region 10 Oz22_10 false).wp _ _ _ _
    refine reg_in (l := [0, 1, 2, 3]) rfl ?_
    have F : FE_ _ [] a117 a117 := ⟨R, Ag_.refl _⟩; clear R
    refine sv_ gz22_10_0 (yf1_ rfl (F.of h1)) fun a118 e => ?_
    have h22 := pt_ F e; replace F := pu_ F e; clear e
    refine sv_ gz22_10_1 (yk1_ rfl h22 B101) fun a119 e => ?_
    clear h22; have h23 := pt_ F e; replace F := pu_ F e; clear e
    obtain ⟨bl, hbl⟩ : ∃ q, tellX t.nm = q := ⟨_, rfl⟩; have hcall := isTell_any w114 t.nm HNL.out; rw [hbl] at hcall
    refine st_call gz22_10_2 rfl (wanted_free rfl) (yc1_ enz22_1032 rfl h23) ((hcall).mono ?_)
    rintro e9 w120 ⟨rfl, kk⟩
    replace K1 := keep_onto K1 kk
    replace B101 := blk_on B101 kk
    clear hcall; have HBL := Lib.hid hbl; clear hbl
    clear kk
    refine ⟨_, rfl, fun a121 e => ?_⟩
    clear h23; have h24 := pt_ F e; replace F := pu_ F e; clear e
    refine sv_ gz22_10_3 (ya_ rfl h24) fun a122 e => ?_
    clear h24 h2; have h2 := pt_ F e; replace F := pu_ F e; clear e
    refine st_end ?_
    clear h1; replace h12 := F.of h12; replace h13 := F.of h13; replace h14 := F.of h14; replace h15 := F.of h15; have R := F.r; clear F
    change (Code.ret).wp _ _ _ _
    refine wp_ret ?_
    change bodyPost Tryz.prog Tryz.f22 (fun e w' => e = .returned (.bool t.tree.tell) ∧ Keep (fun g => g < W.heap.size) W w') .ret a122 w120
    refine ret_one rfl R h2 ?_
    obtain rfl : j = t.args.length := by omega
    exact ⟨by rw [show t.tree.tell = bl by rw [tree_4 HK.out, T.tell, tellL_all, HBL.out]; have h := HA.out; rw [List.take_length] at h; rw [show (t.args.map Tm.tree).all T.tell = true by rw [List.all_map]; exact h, Bool.and_true]], K1⟩
  | true =>
    have fb116 := hb116; clear hb116
    simp only [decide_eq_true_eq, decide_eq_false_iff_not, bne_iff_ne, bne_eq_false_iff_eq, beq_iff_eq, beq_eq_false_iff_ne, ne_eq, Bool.not_eq_true', Bool.not_eq_false', Bool.not_eq_eq_eq_not, Bool.not_true, Bool.not_false] at fb116
    refine wp_cond_true (x := Code.skip) (y := cz22_32) (eval_slot h15) ?_
    refine wp_skip ?_
    change (cz22_33).wp _ _ _ _
    refine wp_seq (x := cz22_34) (y := cz22_44) ?_
    refine wp_block (id := 4) (c := cz22_35) ?_
    refine wp_seq (x := cz22_36) (y := cz22_37) ?_
    change (Code.region 6 Oz22_6 false).wp _ _ _ _
    refine reg_in (l := [0, 1, 2, 3]) rfl ?_
    have F : FE_ _ [] a117 a117 := ⟨R, Ag_.refl _⟩; clear R
    obtain ⟨p, hp⟩ : ∃ p, ps[j]? = some p := ⟨_, List.getElem?_eq_getElem (by omega)⟩; obtain ⟨bA, oA, hA, -, -⟩ := HS.out.mem hp; have HSA := Lib.hid hA; have HP := Lib.hid hp; have hltA : (j : Int) < (t.args.length : Int) := by omega
    have HX : Hid (t.args[j]? = some p.1) := Lib.hid (by rw [← HPS.out, List.getElem?_map, hp]; rfl); clear hp hA
    have Y : (execOp a117.eval oz22_6_0).run Tryz.prog w114 = .ok (.value (.pointer (some ⟨bA, oA + j * 4, none⟩))) w114 := by have r12 := F.of h12; have r14 := F.of h14; have hA := HSA.out; unfold oz22_6_0; go_simp
    refine sv_ gz22_6_0 Y fun a123 e => ?_; clear Y
    have h16 := pt_ F e; replace F := pu_ F e; clear e
    have Y : (execOp a123.eval oz22_6_1).run Tryz.prog w114 = .ok (.value (.agg #[.int .i64 p.1.k, .string (str p.1.nm), .int .i64 p.1.i, .slice p.2.1 p.1.args.length p.2.2])) w114 := by obtain ⟨⟨c0, c1, c2, c3⟩, -⟩ := (HS.out.keep K1).at_ HSA.out HP.out; unfold oz22_6_1; go_simp
    refine sv_ gz22_6_1 Y fun a124 e => ?_; clear Y
    have h17 := pt_ F e; replace F := pu_ F e; replace h16 := so_ e h16; clear e
    have Y : (execOp a124.eval oz22_6_2).run Tryz.prog w114 = .ok (.value (.pointer (some ⟨w114.heap.size, 0, none⟩))) (w114.alloc (.cells #[.int .i64 0, .string (⟨#[]⟩), .int .i64 0, .slice none 0 0] 24)) := by unfold oz22_6_2; go_simp
    have B125 := Blk.new w114 24 #[.int .i64 0, .string (⟨#[]⟩), .int .i64 0, .slice none 0 0]
    obtain ⟨w126, hw⟩ : ∃ x, x = w114.alloc (.cells #[.int .i64 0, .string (⟨#[]⟩), .int .i64 0, .slice none 0 0] 24) := ⟨_, rfl⟩; rw [← hw] at Y B125
    obtain ⟨b125, hb⟩ : ∃ x, x = w114.heap.size := ⟨_, rfl⟩; rw [← hb] at Y B125
    have Nb101_b125 := nb_ hb B101; replace B101 := ba_ hw B101; have LK1_b125 := lk_ hb K1; replace K1 := ka_ hw K1; clear hw hb
    refine sv_ gz22_6_2 Y fun a127 e => ?_; clear Y
    have h4 := pt_ F e; replace F := pu_ F e; replace h16 := so_ e h16; replace h17 := so_ e h17; clear e
    obtain ⟨w128, Y, hk, hB⟩ := ys4_ (o := oz22_6_3) rfl h4 h17 B125
    replace K1 := kx_ hk K1 (Nat.not_lt.2 LK1_b125); replace B101 := bx_ hk B101 Nb101_b125; clear B125; have B125 := hB; clear hB hk
    refine st_skip gz22_6_3 rfl (wanted_free rfl) Y ?_; clear Y
    refine st_end ?_
    replace h1 := F.of h1; replace h2 := F.of h2; replace h12 := F.of h12; replace h13 := F.of h13; replace h14 := F.of h14; replace h15 := F.of h15; have R := F.r; clear F
    change (cz22_37).wp _ _ _ _
    refine wp_seq (x := cz22_38) (y := cz22_39) ?_
    change (Code.region 7 Oz22_7 false).wp _ _ _ _
    refine reg_in (l := [0, 1, 2]) rfl ?_
    have F : FE_ _ [] a127 a127 := ⟨R, Ag_.refl _⟩; clear R
    refine sv_ gz22_7_0 (yl4_ rfl (F.of h4) B125) fun a129 e => ?_
    have h18 := pt_ F e; replace F := pu_ F e; clear e
    obtain ⟨bx, hbx⟩ : ∃ q, p.1.tree.tell = q := ⟨_, rfl⟩; have hcall := IH.out w128 p.1 p.2.1 p.2.2 (part_ns HK.out (List.mem_of_getElem? HX.out) HNS.out) (part_right' HR.out HK.out (List.mem_of_getElem? HX.out)) ((HS.out.keep K1).at_ HSA.out HP.out).2.at_; rw [hbx] at hcall
    refine st_call gz22_7_1 rfl (wanted_free rfl) (yc1_ enz22_1022 rfl h18) ((hcall).mono ?_)
    rintro e9 w130 ⟨rfl, kk⟩
    replace K1 := keep_onto K1 kk
    replace B101 := blk_on B101 kk
    replace B125 := blk_on B125 kk
    clear hcall
    clear kk
    refine ⟨_, rfl, fun a131 e => ?_⟩
    have h19 := pt_ F e; replace F := pu_ F e; replace h18 := so_ e h18; clear e
    cases bx with
    | false =>
      have Y : (execOp a131.eval oz22_7_2).run Tryz.prog w130 = .ok (.value (.bool true)) w130 := by unfold oz22_7_2; go_simp
      refine sv_ gz22_7_2 Y fun a132 e => ?_; clear Y
      have h20 := pt_ F e; replace F := pu_ F e; replace h18 := so_ e h18; replace h19 := so_ e h19; clear e
      refine st_end ?_
      replace h1 := F.of h1; replace h2 := F.of h2; replace h4 := F.of h4; replace h12 := F.of h12; replace h13 := F.of h13; replace h14 := F.of h14; replace h15 := F.of h15; replace h16 := F.of h16; replace h17 := F.of h17; have R := F.r; clear F
      change (cz22_39).wp _ _ _ _
      refine wp_cond_true (x := cz22_40) (y := Code.skip) (eval_slot h20) ?_
      refine wp_seq (x := cz22_41) (y := Code.ret) ?_
      change (Code.region 8 Oz22_8 false).wp _ _ _ _
      refine reg_in (l := [0]) rfl ?_
      have F : FE_ _ [] a132 a132 := ⟨R, Ag_.refl _⟩; clear R
      have Y : (execOp a132.eval oz22_8_0).run Tryz.prog w130 = .ok (.value (.bool false)) w130 := by unfold oz22_8_0; go_simp
      refine sv_ gz22_8_0 Y fun a133 e => ?_; clear Y
      clear h2; have h2 := pt_ F e; replace F := pu_ F e; clear e
      refine st_end ?_
      replace h1 := F.of h1; replace h4 := F.of h4; replace h12 := F.of h12; replace h13 := F.of h13; replace h14 := F.of h14; replace h15 := F.of h15; replace h16 := F.of h16; replace h17 := F.of h17; replace h18 := F.of h18; replace h19 := F.of h19; replace h20 := F.of h20; have R := F.r; clear F
      change (Code.ret).wp _ _ _ _
      refine wp_ret ?_
      change bodyPost Tryz.prog Tryz.f22 (fun e w' => e = .returned (.bool t.tree.tell) ∧ Keep (fun g => g < W.heap.size) W w') .ret a133 w130
      refine ret_one rfl R h2 ?_
      exact ⟨by rw [show t.tree.tell = false by rw [tree_4 HK.out, T.tell, tellL_all, Bool.and_eq_false_iff]; exact .inr (List.all_eq_false.2 ⟨p.1.tree, List.mem_map_of_mem (List.mem_of_getElem? HX.out), by rw [hbx]; decide⟩)], K1⟩
    | true =>
      have Y : (execOp a131.eval oz22_7_2).run Tryz.prog w130 = .ok (.value (.bool false)) w130 := by unfold oz22_7_2; go_simp
      refine sv_ gz22_7_2 Y fun a134 e => ?_; clear Y
      have h20 := pt_ F e; replace F := pu_ F e; replace h18 := so_ e h18; replace h19 := so_ e h19; clear e
      refine st_end ?_
      replace h1 := F.of h1; replace h2 := F.of h2; replace h4 := F.of h4; replace h12 := F.of h12; replace h13 := F.of h13; replace h14 := F.of h14; replace h15 := F.of h15; replace h16 := F.of h16; replace h17 := F.of h17; have R := F.r; clear F
      change (cz22_39).wp _ _ _ _
      refine wp_cond_false (x := cz22_40) (y := Code.skip) (eval_slot h20) ?_
      refine wp_skip ?_
      change (cz22_44).wp _ _ _ _
      change (Code.region 9 Oz22_9 false).wp _ _ _ _
      refine reg_in (l := [0, 1]) rfl ?_
      have F : FE_ _ [] a134 a134 := ⟨R, Ag_.refl _⟩; clear R
      have HBX : Hid (p.1.tree.tell = true) := Lib.hid hbx
      have Y : (execOp a134.eval oz22_9_0).run Tryz.prog w130 = .ok (.value (.int .i64 ((j : Int) + 1))) w130 := by have r14 := F.of h14; have hwj : IntKind.i64.wrap ((j : Int) + 1) = (j : Int) + 1 := (by rw [IntKind.wrap_i64]; have := (Tm.ok_args (right_of.1 HR.out).1 HK.out).2.1; omega); unfold oz22_9_0; go_simp
      refine sv_ gz22_9_0 Y fun a135 e => ?_; clear Y
      have h21 := pt_ F e; replace F := pu_ F e; clear e
      refine sv_ gz22_9_1 (ym_ rfl h21) fun a136 e => ?_
      clear h14; have h14 := pt_ F e; replace F := pu_ F e; replace h21 := so_ e h21; clear e
      refine st_end ?_
      replace h1 := F.of h1; replace h2 := F.of h2; replace h4 := F.of h4; replace h12 := F.of h12; replace h13 := F.of h13; replace h15 := F.of h15; replace h16 := F.of h16; replace h17 := F.of h17; replace h18 := F.of h18; replace h19 := F.of h19; replace h20 := F.of h20; have R := F.r; clear F
      exact ⟨_, by omega, j + 1, rfl, R, h1, h2, h12, h13, h14, K1, B101, (by omega), (Lib.hid (by rw [List.take_succ_eq_append_getElem (by omega), List.all_append, HA.out, Bool.true_and]; obtain ⟨hlt, e⟩ := List.getElem?_eq_some_iff.1 HX.out; rw [e]; simpa using HBX.out))⟩
theorem tell_succ {k : Nat} (ih : TellW k) : TellW (k + 1) := fun W t a c hns hr hT => by
  refine enter_sx Tryz.func22 bodyz22 rfl (by show (1 : Nat) ≤ 25; decide) fun f0 R0' hs => ?_
  have hok := (right_of.1 hr).1
  rcases Tm.ok_kind hok with hk | hk | hk | hk
  · exact are1_w (k := k) R0' (hs 0 _ rfl) (Keep.refl _ W) (Lib.hid hk)
  · exact are2_w (k := k) R0' (hs 0 _ rfl) (Keep.refl _ W) (Lib.hid hk)
  · exact are3_w (k := k) R0' (hs 0 _ rfl) (Keep.refl _ W) (Lib.hid (Nat.le_trans (ok_nm hok (.inl hk)) (by decide))) (Lib.hid hk)
  · exact are4_w R0' (hs 0 _ rfl) (Keep.refl _ W) (Lib.hid ih) (Lib.hid hns) (Lib.hid hr) (Lib.hid hT) (Lib.hid (Nat.le_trans (ok_nm hok (.inr hk)) (by decide))) (Lib.hid hk)
theorem tell_all : ∀ k, TellW k
  | 0 => fun W t a c hns => by have := ns_pos t.tree; omega
  | k + 1 => tell_succ (tell_all k)
end Go.Proofs.YtfkbbbjicaedmaaGreatDoor
