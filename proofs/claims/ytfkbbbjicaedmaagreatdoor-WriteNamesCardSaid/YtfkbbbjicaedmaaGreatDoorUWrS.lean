/-
  The document's names: which can't be told, in quotes, ahead of arguments, alone. Condition: fewer than 2^46 bytes.
-/
import Derived.Test.YtfkbbbjicaedmaaGreatDoorUWrO
import Derived.Test.YtfkbbbjicaedmaaGreatDoorURx8
namespace Go.Proofs.YtfkbbbjicaedmaaGreatDoor
open Go.RowKit Go.Maps
set_option linter.unusedVariables false
set_option linter.unusedSimpArgs false
def RowB (B : Nat) (w : World) (v : Value) (l : List UInt8) : Prop := B ≤ w.heap.size ∧ w.ownsRow B 5 1 v l.length (Lib.byteCells l)
section
variable {B b2 : Nat} {w w' : World} {v : Value} {l : List UInt8}
theorem RowB.on (h : RowB B w v l) (k : Keep (fun g => g < w.heap.size) w w') : RowB B w' v l := ⟨Nat.le_trans h.1 k.size, row_on h.2 k fun g hg => (h.2.lt g hg).2⟩
theorem RowB.new (hb : Blk w b2 5 #[.int .u8 39]) (hB : B ≤ b2) : RowB B w (.slice (some ⟨b2, 0, none⟩) 1 1) [39] :=
  ⟨Nat.le_of_lt (Nat.lt_of_le_of_lt hB hb.lt), rfl, .inr ⟨b2, 1, _, rfl, hB, hb, Nat.le_refl _, by decide, rfl, rfl⟩⟩
theorem RowB.add {ty : TypeId} {cs : List UInt8} {n : Nat} (h : RowB B w v l) (hb : Blk w b2 5 (Lib.byteCells cs).toArray) (hcs : cs.length = n) (h0 : 0 < n) (hn : l.length + n ≤ 140737488355328) :
    ∃ v' w', (Builtin.append_ #[42, 42] ty #[v, .slice (some ⟨b2, 0, none⟩) n n]).run Tryz.prog w = .ok v' w' ∧ RowB B w' v' (l ++ cs) ∧ Keep (fun g => g < B) w w' := by
  obtain ⟨i0, hi, hz0, hz1, hz2⟩ := infoB
  subst hcs
  have hnw : ∀ j u, (Lib.byteCells cs)[j]? = some u → w.cell? ((⟨b2, 0, none⟩ : Addr).add j) = some u := fun j u hu => by
    have e : (⟨b2, 0, none⟩ : Addr).add j = ⟨b2, j, none⟩ := by unfold Addr.add; split <;> simp_all
    rw [e, hb.cell, List.getElem?_toArray]; exact hu
  have hone : ∀ u ∈ (Lib.byteCells cs), u.oneCell' = true := by
    intro u hu
    unfold Lib.byteCells at hu
    obtain ⟨c, _, rfl⟩ := List.mem_map.1 hu
    rfl
  obtain ⟨v', w', ha, hr, hg, _⟩ := run_append_own (P := Tryz.prog) w B 42 ty 5 i0 (.int .u8 0) 1 1 Tryz.underlying42 hi hz0 hz1 hz2 rfl (by decide) v l.length (Lib.byteCells l) h.2 ⟨b2, 0, none⟩ cs.length cs.length (Lib.byteCells cs) (by rw [Lib.byteCells_length]; omega) hnw hone (by unfold maxLen; omega) (by omega) h.1
  refine ⟨v', w', ha, ⟨Nat.le_trans h.1 hg.size, ?_⟩, Keep.ofGrown hg fun g e hx => Nat.not_lt.2 (h.2.lt g e).1 hx⟩
  rw [List.length_append, Lib.byteCells_append]; exact hr
theorem RowB.str (h : RowB B w v l) : (convert 42 9 v).run Tryz.prog w = .ok (.string (Go.Proofs.YtfkbbbjicaedmaaGreatDoor.str l)) w := bytes_string h.2
end
theorem esc_of {c : UInt8} (h : c.toNat = 9) : escX c = [92, 116] := by obtain rfl : c = 9 := UInt8.toNat_inj.1 h; rfl
theorem esc_of10 {c : UInt8} (h : c.toNat = 10) : escX c = [92, 110] := by obtain rfl : c = 10 := UInt8.toNat_inj.1 h; rfl
theorem esc_of2 {c : UInt8} (h : c.toNat = 39 ∨ c.toNat = 92) : escX c = [92, c] := by
  rcases h with h | h
  · obtain rfl : c = 39 := UInt8.toNat_inj.1 h; rfl
  · obtain rfl : c = 92 := UInt8.toNat_inj.1 h; rfl
theorem esc_no {c : UInt8} (h1 : c.toNat ≠ 9) (h2 : c.toNat ≠ 10) (h3 : c.toNat ≠ 39) (h4 : c.toNat ≠ 92) : escX c = [c] := by
  unfold escX
  have e1 : ¬ c = 9 := fun e => h1 (by rw [e]; rfl)
  have e2 : ¬ c = 10 := fun e => h2 (by rw [e]; rfl)
  have e3 : ¬ c = 39 := fun e => h3 (by rw [e]; rfl)
  have e4 : ¬ c = 92 := fun e => h4 (by rw [e]; rfl)
  simp [e1, e2, e3, e4]
def oz13_0_0 : Oper := ⟨some 2, Op.assign (Operand.const (Value.bool false)), 4, "ref.go:12", #[], none⟩
def Oz13_0 : Array Oper := List.toArray (oz13_0_0 :: [])
theorem gz13_0_0 : Oz13_0[0]? = some oz13_0_0 := rfl
def cz13_1 : Code := Code.region 0 Oz13_0 false
def oz13_1_0 : Oper := ⟨some 3, Op.assign (Operand.const (Value.int IntKind.i64 0)), 3, "ref.go:13", #[], none⟩
def Oz13_1 : Array Oper := List.toArray (oz13_1_0 :: [])
theorem gz13_1_0 : Oz13_1[0]? = some oz13_1_0 := rfl
def cz13_4 : Code := Code.region 1 Oz13_1 false
def oz13_2_0 : Oper := ⟨some 4, Op.move (Operand.tmp 3), 3, "ref.go:13", #[], none⟩
def oz13_2_1 : Oper := ⟨some 5, Op.move (Operand.tmp 0), 9, "ref.go:13", #[], none⟩
def oz13_2_2 : Oper := ⟨some 6, Op.call { callee := Callee.builtin Go.Builtin.len, args := #[Operand.tmp 5], argTypes := #[9] }, 3, "ref.go:13", #[ed_ 1], none⟩
def oz13_2_3 : Oper := ⟨some 7, Op.binOp Go.BinOp.lss 3 (Operand.tmp 4) (Operand.tmp 6) 3, 4, "ref.go:13", #[ed_ 0, ed_ 2], none⟩
def Oz13_2 : Array Oper := List.toArray (oz13_2_0 :: oz13_2_1 :: oz13_2_2 :: oz13_2_3 :: [])
theorem gz13_2_0 : Oz13_2[0]? = some oz13_2_0 := rfl
theorem gz13_2_1 : Oz13_2[1]? = some oz13_2_1 := rfl
theorem gz13_2_2 : Oz13_2[2]? = some oz13_2_2 := rfl
theorem gz13_2_3 : Oz13_2[3]? = some oz13_2_3 := rfl
def cz13_9 : Code := Code.region 2 Oz13_2 false
def cz13_12 : Code := Code.exit 0
def cz13_10 : Code := Code.cond (Operand.tmp 7) Code.skip cz13_12
def cz13_8 : Code := Code.seq cz13_9 cz13_10
def oz13_4_0 : Oper := ⟨some 10, Op.move (Operand.tmp 0), 9, "ref.go:14", #[], none⟩
def oz13_4_1 : Oper := ⟨some 11, Op.move (Operand.tmp 3), 3, "ref.go:14", #[], none⟩
def oz13_4_2 : Oper := ⟨some 12, Op.index 9 (Operand.tmp 10) (Operand.tmp 11), 5, "ref.go:14", #[ed_ 0, ed_ 1], none⟩
def oz13_4_3 : Oper := ⟨some 13, Op.binOp Go.BinOp.neq 5 (Operand.tmp 12) (Operand.const (Value.int IntKind.u8 9)) 5, 4, "ref.go:14", #[ed_ 2], none⟩
def oz13_4_4 : Oper := ⟨some 14, Op.move (Operand.tmp 13), 4, "ref.go:14", #[ed_ 3], none⟩
def oz13_4_5 : Oper := ⟨some 15, Op.move (Operand.tmp 0), 9, "ref.go:14", #[eg_ 4], some (4, true)⟩
def oz13_4_6 : Oper := ⟨some 16, Op.move (Operand.tmp 3), 3, "ref.go:14", #[eg_ 4], some (4, true)⟩
def oz13_4_7 : Oper := ⟨some 17, Op.index 9 (Operand.tmp 15) (Operand.tmp 16), 5, "ref.go:14", #[ed_ 5, ed_ 6, eg_ 4], some (4, true)⟩
def oz13_4_8 : Oper := ⟨some 18, Op.binOp Go.BinOp.neq 5 (Operand.tmp 17) (Operand.const (Value.int IntKind.u8 10)) 5, 4, "ref.go:14", #[ed_ 7, eg_ 4], some (4, true)⟩
def oz13_4_9 : Oper := ⟨some 19, Op.pick (Operand.tmp 14) (Operand.tmp 18) (Operand.const (Value.bool false)), 4, "ref.go:14", #[ed_ 4, ed_ 8], none⟩
def oz13_4_10 : Oper := ⟨some 20, Op.move (Operand.tmp 19), 4, "ref.go:14", #[ed_ 9, ec_ 4], none⟩
def oz13_4_11 : Oper := ⟨some 21, Op.move (Operand.tmp 0), 9, "ref.go:14", #[eg_ 10], some (10, true)⟩
def oz13_4_12 : Oper := ⟨some 22, Op.move (Operand.tmp 3), 3, "ref.go:14", #[eg_ 10], some (10, true)⟩
def oz13_4_13 : Oper := ⟨some 23, Op.index 9 (Operand.tmp 21) (Operand.tmp 22), 5, "ref.go:14", #[ed_ 11, ed_ 12, eg_ 10], some (10, true)⟩
def oz13_4_14 : Oper := ⟨some 24, Op.binOp Go.BinOp.lss 5 (Operand.tmp 23) (Operand.const (Value.int IntKind.u8 32)) 5, 4, "ref.go:14", #[ed_ 13, eg_ 10], some (10, true)⟩
def oz13_4_15 : Oper := ⟨some 25, Op.move (Operand.tmp 24), 4, "ref.go:14", #[ed_ 14, ec_ 10, eg_ 10], some (10, true)⟩
def oz13_4_16 : Oper := ⟨some 26, Op.move (Operand.tmp 0), 9, "ref.go:14", #[eg_ 15], some (15, false)⟩
def oz13_4_17 : Oper := ⟨some 27, Op.move (Operand.tmp 3), 3, "ref.go:14", #[eg_ 15], some (15, false)⟩
def oz13_4_18 : Oper := ⟨some 28, Op.index 9 (Operand.tmp 26) (Operand.tmp 27), 5, "ref.go:14", #[ed_ 16, ed_ 17, eg_ 15], some (15, false)⟩
def oz13_4_19 : Oper := ⟨some 29, Op.binOp Go.BinOp.gtr 5 (Operand.tmp 28) (Operand.const (Value.int IntKind.u8 126)) 5, 4, "ref.go:14", #[ed_ 18, eg_ 15], some (15, false)⟩
def oz13_4_20 : Oper := ⟨some 30, Op.pick (Operand.tmp 25) (Operand.const (Value.bool true)) (Operand.tmp 29), 4, "ref.go:14", #[ed_ 15, ed_ 19, eg_ 10], some (10, true)⟩
def oz13_4_21 : Oper := ⟨some 31, Op.pick (Operand.tmp 20) (Operand.tmp 30) (Operand.const (Value.bool false)), 4, "ref.go:14", #[ed_ 10, ed_ 20], none⟩
def Oz13_4 : Array Oper := List.toArray (oz13_4_0 :: oz13_4_1 :: oz13_4_2 :: oz13_4_3 :: oz13_4_4 :: oz13_4_5 :: oz13_4_6 :: oz13_4_7 :: oz13_4_8 :: oz13_4_9 :: oz13_4_10 :: oz13_4_11 :: oz13_4_12 :: oz13_4_13 :: oz13_4_14 :: oz13_4_15 :: oz13_4_16 :: oz13_4_17 :: oz13_4_18 :: oz13_4_19 :: oz13_4_20 :: oz13_4_21 :: [])
theorem gz13_4_0 : Oz13_4[0]? = some oz13_4_0 := rfl
theorem gz13_4_1 : Oz13_4[1]? = some oz13_4_1 := rfl
theorem gz13_4_2 : Oz13_4[2]? = some oz13_4_2 := rfl
theorem gz13_4_3 : Oz13_4[3]? = some oz13_4_3 := rfl
theorem gz13_4_4 : Oz13_4[4]? = some oz13_4_4 := rfl
theorem gz13_4_5 : Oz13_4[5]? = some oz13_4_5 := rfl
theorem gz13_4_6 : Oz13_4[6]? = some oz13_4_6 := rfl
theorem gz13_4_7 : Oz13_4[7]? = some oz13_4_7 := rfl
theorem gz13_4_8 : Oz13_4[8]? = some oz13_4_8 := rfl
theorem gz13_4_9 : Oz13_4[9]? = some oz13_4_9 := rfl
theorem gz13_4_10 : Oz13_4[10]? = some oz13_4_10 := rfl
theorem gz13_4_11 : Oz13_4[11]? = some oz13_4_11 := rfl
theorem gz13_4_12 : Oz13_4[12]? = some oz13_4_12 := rfl
theorem gz13_4_13 : Oz13_4[13]? = some oz13_4_13 := rfl
theorem gz13_4_14 : Oz13_4[14]? = some oz13_4_14 := rfl
theorem gz13_4_15 : Oz13_4[15]? = some oz13_4_15 := rfl
theorem gz13_4_16 : Oz13_4[16]? = some oz13_4_16 := rfl
theorem gz13_4_17 : Oz13_4[17]? = some oz13_4_17 := rfl
theorem gz13_4_18 : Oz13_4[18]? = some oz13_4_18 := rfl
theorem gz13_4_19 : Oz13_4[19]? = some oz13_4_19 := rfl
theorem gz13_4_20 : Oz13_4[20]? = some oz13_4_20 := rfl
theorem gz13_4_21 : Oz13_4[21]? = some oz13_4_21 := rfl
def cz13_16 : Code := Code.region 4 Oz13_4 false
def oz13_5_0 : Oper := ⟨some 2, Op.assign (Operand.const (Value.bool true)), 4, "ref.go:15", #[], none⟩
def Oz13_5 : Array Oper := List.toArray (oz13_5_0 :: [])
theorem gz13_5_0 : Oz13_5[0]? = some oz13_5_0 := rfl
def cz13_19 : Code := Code.region 5 Oz13_5 false
def cz13_18 : Code := Code.seq cz13_19 Code.ret
def cz13_17 : Code := Code.cond (Operand.tmp 31) cz13_18 Code.skip
def cz13_15 : Code := Code.seq cz13_16 cz13_17
def cz13_14 : Code := Code.block 1 cz13_15
def oz13_3_0 : Oper := ⟨some 8, Op.move (Operand.tmp 3), 3, "ref.go:13", #[], none⟩
def oz13_3_1 : Oper := ⟨some 9, Op.binOp Go.BinOp.add 3 (Operand.tmp 8) (Operand.const (Value.int IntKind.i64 1)) 3, 3, "ref.go:13", #[ed_ 0], none⟩
def oz13_3_2 : Oper := ⟨some 3, Op.assign (Operand.tmp 9), 3, "ref.go:13", #[ed_ 1, ep_ 0, ep_ 1], none⟩
def Oz13_3 : Array Oper := List.toArray (oz13_3_0 :: oz13_3_1 :: oz13_3_2 :: [])
theorem gz13_3_0 : Oz13_3[0]? = some oz13_3_0 := rfl
theorem gz13_3_1 : Oz13_3[1]? = some oz13_3_1 := rfl
theorem gz13_3_2 : Oz13_3[2]? = some oz13_3_2 := rfl
def cz13_22 : Code := Code.region 3 Oz13_3 false
def cz13_13 : Code := Code.seq cz13_14 cz13_22
def cz13_7 : Code := Code.seq cz13_8 cz13_13
def cz13_6 : Code := Code.loop cz13_7
def cz13_5 : Code := Code.block 0 cz13_6
def cz13_3 : Code := Code.seq cz13_4 cz13_5
def oz13_6_0 : Oper := ⟨some 2, Op.assign (Operand.const (Value.bool false)), 4, "ref.go:18", #[], none⟩
def Oz13_6 : Array Oper := List.toArray (oz13_6_0 :: [])
theorem gz13_6_0 : Oz13_6[0]? = some oz13_6_0 := rfl
def cz13_24 : Code := Code.region 6 Oz13_6 false
def cz13_23 : Code := Code.seq cz13_24 Code.ret
def cz13_2 : Code := Code.seq cz13_3 cz13_23
def cz13_0 : Code := Code.seq cz13_1 cz13_2
theorem bodyz13 : Tryz.f13.body = some cz13_0 := by kernel_rfl
set_option maxRecDepth 100000 in
set_option maxHeartbeats 4000000 in
theorem rbad_w {W : World} {L : List UInt8} {f0 : Act} {w0 : World} (R : FrS 32 f0) (h0 : f0.tmps[0]? = some (.string (str L))) (K1 : Keep (fun g => g < W.heap.size) W w0)  (HLN : Hid (L.length ≤ 4611686018427387904)) : cz13_0.wp Tryz.prog (bodyPost Tryz.prog Tryz.f13 (fun e w' => e = .returned (.bool (!tellX L)) ∧ Keep (fun g => g < W.heap.size) W w')) f0 w0 := by
  refine wp_seq (x := cz13_1) (y := cz13_2) ?_
  change (Code.region 0 Oz13_0 false).wp _ _ _ _
  refine reg_in (l := [0]) rfl ?_
  have F : FE_ _ [] f0 f0 := ⟨R, Ag_.refl _⟩; clear R
  have Y : (execOp f0.eval oz13_0_0).run Tryz.prog w0 = .ok (.value (.bool false)) w0 := by unfold oz13_0_0; go_simp
  refine sv_ gz13_0_0 Y fun a101 e => ?_; clear Y
  have h2 := pt_ F e; replace F := pu_ F e; clear e
  refine st_end ?_
  replace h0 := F.of h0; have R := F.r; clear F
  change (cz13_2).wp _ _ _ _
  refine wp_seq (x := cz13_3) (y := cz13_23) ?_
  refine wp_seq (x := cz13_4) (y := cz13_5) ?_
  change (Code.region 1 Oz13_1 false).wp _ _ _ _
  refine reg_in (l := [0]) rfl ?_
  have F : FE_ _ [] a101 a101 := ⟨R, Ag_.refl _⟩; clear R
  have Y : (execOp a101.eval oz13_1_0).run Tryz.prog w0 = .ok (.value (.int .i64 0)) w0 := by unfold oz13_1_0; go_simp
  refine sv_ gz13_1_0 Y fun a102 e => ?_; clear Y
  have h3 := pt_ F e; replace F := pu_ F e; clear e
  refine st_end ?_
  replace h0 := F.of h0; replace h2 := F.of h2; have R := F.r; clear F
  change (cz13_5).wp _ _ _ _
  refine wp_block (id := 0) (c := cz13_6) ?_
  refine wp_loop_ghost (c := cz13_7) (fun n fX wX => ∃ j : Nat, n = L.length - j ∧ FrS 32 fX ∧ fX.tmps[0]? = some (.string (str L)) ∧ fX.tmps[2]? = some (.bool false) ∧ fX.tmps[3]? = some (.int .i64 (j : Int)) ∧ Keep (fun g => g < W.heap.size) W wX ∧ j ≤ L.length ∧ Hid (tellX (L.take j) = true)) (L.length - 0) ⟨0, rfl, R, h0, h2, h3, K1, Nat.zero_le _, (Lib.hid rfl)⟩ ?_
  clear R h0 h2 h3 K1
  rintro n105 a103 w104 ⟨j, rfl, R, h0, h2, h3, K1, hj, HG⟩
  refine wp_seq (x := cz13_8) (y := cz13_13) ?_
  refine wp_seq (x := cz13_9) (y := cz13_10) ?_
  change (Code.region 2 Oz13_2 false).wp _ _ _ _
  refine reg_in (l := [0, 1, 2, 3]) rfl ?_
  have F : FE_ _ [] a103 a103 := ⟨R, Ag_.refl _⟩; clear R
  refine sv_ gz13_2_0 (ym_ rfl (F.of h3)) fun a106 e => ?_
  have h4 := pt_ F e; replace F := pu_ F e; clear e
  refine sv_ gz13_2_1 (ym_ rfl (F.of h0)) fun a107 e => ?_
  have h5 := pt_ F e; replace F := pu_ F e; replace h4 := so_ e h4; clear e
  have Y : (execOp a107.eval oz13_2_2).run Tryz.prog w104 = .ok (.value (.int .i64 (L.length : Int))) w104 := by have e1 : ((str L).size : Int) = (L.length : Int) := (by rw [str_size]); unfold oz13_2_2; go_simp
  refine sv_ gz13_2_2 Y fun a108 e => ?_; clear Y
  have h6 := pt_ F e; replace F := pu_ F e; replace h4 := so_ e h4; replace h5 := so_ e h5; clear e
  obtain ⟨b109, hb109⟩ : ∃ x, (decide ((j : Int) < (L.length : Int))) = x := ⟨_, rfl⟩
  have Y : (execOp a108.eval oz13_2_3).run Tryz.prog w104 = .ok (.value (.bool b109)) w104 := by rw [← hb109]; unfold oz13_2_3; go_simp
  refine sv_ gz13_2_3 Y fun a110 e => ?_; clear Y
  have h7 := pt_ F e; replace F := pu_ F e; replace h4 := so_ e h4; replace h5 := so_ e h5; replace h6 := so_ e h6; clear e
  refine st_end ?_
  replace h0 := F.of h0; replace h2 := F.of h2; replace h3 := F.of h3; have R := F.r; clear F
  change (cz13_10).wp _ _ _ _
  cases b109 with
  | false =>
    have fb109 := hb109; clear hb109
    simp only [decide_eq_true_eq, decide_eq_false_iff_not, bne_iff_ne, bne_eq_false_iff_eq, beq_iff_eq, beq_eq_false_iff_ne, ne_eq, Bool.not_eq_true', Bool.not_eq_false', Bool.not_eq_eq_eq_not, Bool.not_true, Bool.not_false] at fb109
    refine wp_cond_false (x := Code.skip) (y := cz13_12) (eval_slot h7) ?_
    refine wp_exit ?_
    change (cz13_23).wp _ _ _ _
    refine wp_seq (x := cz13_24) (y := Code.ret) ?_
    change (Code.region 6 Oz13_6 false).wp _ _ _ _
    refine reg_in (l := [0]) rfl ?_
    have F : FE_ _ [] a110 a110 := ⟨R, Ag_.refl _⟩; clear R
    have Y : (execOp a110.eval oz13_6_0).run Tryz.prog w104 = .ok (.value (.bool false)) w104 := by unfold oz13_6_0; go_simp
    refine sv_ gz13_6_0 Y fun a111 e => ?_; clear Y
    clear h2; have h2 := pt_ F e; replace F := pu_ F e; clear e
    refine st_end ?_
    replace h0 := F.of h0; replace h3 := F.of h3; replace h4 := F.of h4; replace h5 := F.of h5; replace h6 := F.of h6; replace h7 := F.of h7; have R := F.r; clear F
    change (Code.ret).wp _ _ _ _
    refine wp_ret ?_
    change bodyPost Tryz.prog Tryz.f13 (fun e w' => e = .returned (.bool (!tellX L)) ∧ Keep (fun g => g < W.heap.size) W w') .ret a111 w104
    refine ret_one rfl R h2 ?_
    obtain rfl : j = L.length := by omega
    exact ⟨by have h := HG.out; rw [List.take_length] at h; rw [h]; rfl, K1⟩
  | true =>
    have fb109 := hb109; clear hb109
    simp only [decide_eq_true_eq, decide_eq_false_iff_not, bne_iff_ne, bne_eq_false_iff_eq, beq_iff_eq, beq_eq_false_iff_ne, ne_eq, Bool.not_eq_true', Bool.not_eq_false', Bool.not_eq_eq_eq_not, Bool.not_true, Bool.not_false] at fb109
    refine wp_cond_true (x := Code.skip) (y := cz13_12) (eval_slot h7) ?_
    refine wp_skip ?_
    change (cz13_13).wp _ _ _ _
    refine wp_seq (x := cz13_14) (y := cz13_22) ?_
    refine wp_block (id := 1) (c := cz13_15) ?_
    refine wp_seq (x := cz13_16) (y := cz13_17) ?_
    change (Code.region 4 Oz13_4 false).wp _ _ _ _
    refine reg_in (l := [0, 1, 2, 3, 4, 5, 6, 7, 8, 9, 10, 11, 12, 13, 14, 15, 16, 17, 18, 19, 20, 21]) rfl ?_
    have F : FE_ _ [] a110 a110 := ⟨R, Ag_.refl _⟩; clear R
    refine sv_ gz13_4_0 (ym_ rfl (F.of h0)) fun a112 e => ?_
    have h10 := pt_ F e; replace F := pu_ F e; clear e
    refine sv_ gz13_4_1 (ym_ rfl (F.of h3)) fun a113 e => ?_
    have h11 := pt_ F e; replace F := pu_ F e; replace h10 := so_ e h10; clear e
    obtain ⟨c, hc⟩ : ∃ c, L[j]? = some c := ⟨_, List.getElem?_eq_getElem (by omega)⟩; have HC := Lib.hid hc; clear hc
    have Y : (execOp a113.eval oz13_4_2).run Tryz.prog w104 = .ok (.value (.int .u8 (c.toNat : Int))) w104 := by obtain ⟨hk, he⟩ := str_getAt2 HC.out; unfold oz13_4_2; go_simp
    refine sv_ gz13_4_2 Y fun a114 e => ?_; clear Y
    have h12 := pt_ F e; replace F := pu_ F e; replace h10 := so_ e h10; replace h11 := so_ e h11; clear e
    obtain ⟨b115, hb115⟩ : ∃ x, ((((c.toNat : Int) : Int) != (9 : Int))) = x := ⟨_, rfl⟩
    have Y : (execOp a114.eval oz13_4_3).run Tryz.prog w104 = .ok (.value (.bool b115)) w104 := by rw [← hb115]; unfold oz13_4_3; go_simp
    refine sv_ gz13_4_3 Y fun a116 e => ?_; clear Y
    have h13 := pt_ F e; replace F := pu_ F e; replace h10 := so_ e h10; replace h11 := so_ e h11; replace h12 := so_ e h12; clear e
    refine sv_ gz13_4_4 (ym_ rfl h13) fun a117 e => ?_
    have h14 := pt_ F e; replace F := pu_ F e; replace h10 := so_ e h10; replace h11 := so_ e h11; replace h12 := so_ e h12; replace h13 := so_ e h13; clear e
    cases b115 with
    | false =>
      have fb115 := hb115; clear hb115
      simp only [decide_eq_true_eq, decide_eq_false_iff_not, bne_iff_ne, bne_eq_false_iff_eq, beq_iff_eq, beq_eq_false_iff_ne, ne_eq, Bool.not_eq_true', Bool.not_eq_false', Bool.not_eq_eq_eq_not, Bool.not_true, Bool.not_false] at fb115
      refine st_not gz13_4_5 rfl (wanted_is (j := 4) (d := 14) rfl rfl h14 rfl) fun a118 e => ?_
      have h15 := pt_ F e; replace F := pu_ F e; replace h10 := so_ e h10; replace h11 := so_ e h11; replace h12 := so_ e h12; replace h13 := so_ e h13; replace h14 := so_ e h14; clear e
      refine st_not gz13_4_6 rfl (wanted_is (j := 4) (d := 14) rfl rfl h14 rfl) fun a119 e => ?_
      have h16 := pt_ F e; replace F := pu_ F e; replace h10 := so_ e h10; replace h11 := so_ e h11; replace h12 := so_ e h12; replace h13 := so_ e h13; replace h14 := so_ e h14; replace h15 := so_ e h15; clear e
      refine st_not gz13_4_7 rfl (wanted_is (j := 4) (d := 14) rfl rfl h14 rfl) fun a120 e => ?_
      have h17 := pt_ F e; replace F := pu_ F e; replace h10 := so_ e h10; replace h11 := so_ e h11; replace h12 := so_ e h12; replace h13 := so_ e h13; replace h14 := so_ e h14; replace h15 := so_ e h15; replace h16 := so_ e h16; clear e
      refine st_not gz13_4_8 rfl (wanted_is (j := 4) (d := 14) rfl rfl h14 rfl) fun a121 e => ?_
      have h18 := pt_ F e; replace F := pu_ F e; replace h10 := so_ e h10; replace h11 := so_ e h11; replace h12 := so_ e h12; replace h13 := so_ e h13; replace h14 := so_ e h14; replace h15 := so_ e h15; replace h16 := so_ e h16; replace h17 := so_ e h17; clear e
      have Y : (execOp a121.eval oz13_4_9).run Tryz.prog w104 = .ok (.value (.bool false)) w104 := by unfold oz13_4_9; go_simp
      refine sv_ gz13_4_9 Y fun a122 e => ?_; clear Y
      have h19 := pt_ F e; replace F := pu_ F e; replace h10 := so_ e h10; replace h11 := so_ e h11; replace h12 := so_ e h12; replace h13 := so_ e h13; replace h14 := so_ e h14; replace h15 := so_ e h15; replace h16 := so_ e h16; replace h17 := so_ e h17; replace h18 := so_ e h18; clear e
      refine sv_ gz13_4_10 (ym_ rfl h19) fun a123 e => ?_
      have h20 := pt_ F e; replace F := pu_ F e; replace h10 := so_ e h10; replace h11 := so_ e h11; replace h12 := so_ e h12; replace h13 := so_ e h13; replace h14 := so_ e h14; replace h15 := so_ e h15; replace h16 := so_ e h16; replace h17 := so_ e h17; replace h18 := so_ e h18; replace h19 := so_ e h19; clear e
      refine st_not gz13_4_11 rfl (wanted_is (j := 10) (d := 20) rfl rfl h20 rfl) fun a124 e => ?_
      have h21 := pt_ F e; replace F := pu_ F e; replace h10 := so_ e h10; replace h11 := so_ e h11; replace h12 := so_ e h12; replace h13 := so_ e h13; replace h14 := so_ e h14; replace h15 := so_ e h15; replace h16 := so_ e h16; replace h17 := so_ e h17; replace h18 := so_ e h18; replace h19 := so_ e h19; replace h20 := so_ e h20; clear e
      refine st_not gz13_4_12 rfl (wanted_is (j := 10) (d := 20) rfl rfl h20 rfl) fun a125 e => ?_
      have h22 := pt_ F e; replace F := pu_ F e; replace h10 := so_ e h10; replace h11 := so_ e h11; replace h12 := so_ e h12; replace h13 := so_ e h13; replace h14 := so_ e h14; replace h15 := so_ e h15; replace h16 := so_ e h16; replace h17 := so_ e h17; replace h18 := so_ e h18; replace h19 := so_ e h19; replace h20 := so_ e h20; replace h21 := so_ e h21; clear e
      refine st_not gz13_4_13 rfl (wanted_is (j := 10) (d := 20) rfl rfl h20 rfl) fun a126 e => ?_
      have h23 := pt_ F e; replace F := pu_ F e; replace h10 := so_ e h10; replace h11 := so_ e h11; replace h12 := so_ e h12; replace h13 := so_ e h13; replace h14 := so_ e h14; replace h15 := so_ e h15; replace h16 := so_ e h16; replace h17 := so_ e h17; replace h18 := so_ e h18; replace h19 := so_ e h19; replace h20 := so_ e h20; replace h21 := so_ e h21; replace h22 := so_ e h22; clear e
      refine st_not gz13_4_14 rfl (wanted_is (j := 10) (d := 20) rfl rfl h20 rfl) fun a127 e => ?_
      have h24 := pt_ F e; replace F := pu_ F e; replace h10 := so_ e h10; replace h11 := so_ e h11; replace h12 := so_ e h12; replace h13 := so_ e h13; replace h14 := so_ e h14; replace h15 := so_ e h15; replace h16 := so_ e h16; replace h17 := so_ e h17; replace h18 := so_ e h18; replace h19 := so_ e h19; replace h20 := so_ e h20; replace h21 := so_ e h21; replace h22 := so_ e h22; replace h23 := so_ e h23; clear e
      refine st_not gz13_4_15 rfl (wanted_is (j := 10) (d := 20) rfl rfl h20 rfl) fun a128 e => ?_
      have h25 := pt_ F e; replace F := pu_ F e; replace h10 := so_ e h10; replace h11 := so_ e h11; replace h12 := so_ e h12; replace h13 := so_ e h13; replace h14 := so_ e h14; replace h15 := so_ e h15; replace h16 := so_ e h16; replace h17 := so_ e h17; replace h18 := so_ e h18; replace h19 := so_ e h19; replace h20 := so_ e h20; replace h21 := so_ e h21; replace h22 := so_ e h22; replace h23 := so_ e h23; replace h24 := so_ e h24; clear e
      refine st_not gz13_4_16 rfl (wanted_un (j := 15) (d := 25) rfl rfl h25) fun a129 e => ?_
      have h26 := pt_ F e; replace F := pu_ F e; replace h10 := so_ e h10; replace h11 := so_ e h11; replace h12 := so_ e h12; replace h13 := so_ e h13; replace h14 := so_ e h14; replace h15 := so_ e h15; replace h16 := so_ e h16; replace h17 := so_ e h17; replace h18 := so_ e h18; replace h19 := so_ e h19; replace h20 := so_ e h20; replace h21 := so_ e h21; replace h22 := so_ e h22; replace h23 := so_ e h23; replace h24 := so_ e h24; replace h25 := so_ e h25; clear e
      refine st_not gz13_4_17 rfl (wanted_un (j := 15) (d := 25) rfl rfl h25) fun a130 e => ?_
      have h27 := pt_ F e; replace F := pu_ F e; replace h10 := so_ e h10; replace h11 := so_ e h11; replace h12 := so_ e h12; replace h13 := so_ e h13; replace h14 := so_ e h14; replace h15 := so_ e h15; replace h16 := so_ e h16; replace h17 := so_ e h17; replace h18 := so_ e h18; replace h19 := so_ e h19; replace h20 := so_ e h20; replace h21 := so_ e h21; replace h22 := so_ e h22; replace h23 := so_ e h23; replace h24 := so_ e h24; replace h25 := so_ e h25; replace h26 := so_ e h26; clear e
      refine st_not gz13_4_18 rfl (wanted_un (j := 15) (d := 25) rfl rfl h25) fun a131 e => ?_
      have h28 := pt_ F e; replace F := pu_ F e; replace h10 := so_ e h10; replace h11 := so_ e h11; replace h12 := so_ e h12; replace h13 := so_ e h13; replace h14 := so_ e h14; replace h15 := so_ e h15; replace h16 := so_ e h16; replace h17 := so_ e h17; replace h18 := so_ e h18; replace h19 := so_ e h19; replace h20 := so_ e h20; replace h21 := so_ e h21; replace h22 := so_ e h22; replace h23 := so_ e h23; replace h24 := so_ e h24; replace h25 := so_ e h25; replace h26 := so_ e h26; replace h27 := so_ e h27; clear e
      refine st_not gz13_4_19 rfl (wanted_un (j := 15) (d := 25) rfl rfl h25) fun a132 e => ?_
      have h29 := pt_ F e; replace F := pu_ F e; replace h10 := so_ e h10; replace h11 := so_ e h11; replace h12 := so_ e h12; replace h13 := so_ e h13; replace h14 := so_ e h14; replace h15 := so_ e h15; replace h16 := so_ e h16; replace h17 := so_ e h17; replace h18 := so_ e h18; replace h19 := so_ e h19; replace h20 := so_ e h20; replace h21 := so_ e h21; replace h22 := so_ e h22; replace h23 := so_ e h23; replace h24 := so_ e h24; replace h25 := so_ e h25; replace h26 := so_ e h26; replace h27 := so_ e h27; replace h28 := so_ e h28; clear e
      refine st_not gz13_4_20 rfl (wanted_is (j := 10) (d := 20) rfl rfl h20 rfl) fun a133 e => ?_
      have h30 := pt_ F e; replace F := pu_ F e; replace h10 := so_ e h10; replace h11 := so_ e h11; replace h12 := so_ e h12; replace h13 := so_ e h13; replace h14 := so_ e h14; replace h15 := so_ e h15; replace h16 := so_ e h16; replace h17 := so_ e h17; replace h18 := so_ e h18; replace h19 := so_ e h19; replace h20 := so_ e h20; replace h21 := so_ e h21; replace h22 := so_ e h22; replace h23 := so_ e h23; replace h24 := so_ e h24; replace h25 := so_ e h25; replace h26 := so_ e h26; replace h27 := so_ e h27; replace h28 := so_ e h28; replace h29 := so_ e h29; clear e
      have Y : (execOp a133.eval oz13_4_21).run Tryz.prog w104 = .ok (.value (.bool false)) w104 := by unfold oz13_4_21; go_simp
      refine sv_ gz13_4_21 Y fun a134 e => ?_; clear Y
      have h31 := pt_ F e; replace F := pu_ F e; replace h10 := so_ e h10; replace h11 := so_ e h11; replace h12 := so_ e h12; replace h13 := so_ e h13; replace h14 := so_ e h14; replace h15 := so_ e h15; replace h16 := so_ e h16; replace h17 := so_ e h17; replace h18 := so_ e h18; replace h19 := so_ e h19; replace h20 := so_ e h20; replace h21 := so_ e h21; replace h22 := so_ e h22; replace h23 := so_ e h23; replace h24 := so_ e h24; replace h25 := so_ e h25; replace h26 := so_ e h26; replace h27 := so_ e h27; replace h28 := so_ e h28; replace h29 := so_ e h29; replace h30 := so_ e h30; clear e
      refine st_end ?_
      replace h0 := F.of h0; replace h2 := F.of h2; replace h3 := F.of h3; replace h4 := F.of h4; replace h5 := F.of h5; replace h6 := F.of h6; replace h7 := F.of h7; have R := F.r; clear F
      change (cz13_17).wp _ _ _ _
      refine wp_cond_false (x := cz13_18) (y := Code.skip) (eval_slot h31) ?_
      refine wp_skip ?_
      change (cz13_22).wp _ _ _ _
      change (Code.region 3 Oz13_3 false).wp _ _ _ _
      refine reg_in (l := [0, 1, 2]) rfl ?_
      have F : FE_ _ [] a134 a134 := ⟨R, Ag_.refl _⟩; clear R
      refine sv_ gz13_3_0 (ym_ rfl (F.of h3)) fun a135 e => ?_
      have h8 := pt_ F e; replace F := pu_ F e; clear e
      have Y : (execOp a135.eval oz13_3_1).run Tryz.prog w104 = .ok (.value (.int .i64 ((j : Int) + 1))) w104 := by have hwj : IntKind.i64.wrap ((j : Int) + 1) = (j : Int) + 1 := (by rw [IntKind.wrap_i64]; have := HLN.out; omega); unfold oz13_3_1; go_simp
      refine sv_ gz13_3_1 Y fun a136 e => ?_; clear Y
      have h9 := pt_ F e; replace F := pu_ F e; replace h8 := so_ e h8; clear e
      refine sv_ gz13_3_2 (ya_ rfl h9) fun a137 e => ?_
      clear h3; have h3 := pt_ F e; replace F := pu_ F e; replace h8 := so_ e h8; replace h9 := so_ e h9; clear e
      refine st_end ?_
      replace h0 := F.of h0; replace h2 := F.of h2; replace h4 := F.of h4; replace h5 := F.of h5; replace h6 := F.of h6; replace h7 := F.of h7; replace h10 := F.of h10; replace h11 := F.of h11; replace h12 := F.of h12; replace h13 := F.of h13; replace h14 := F.of h14; replace h15 := F.of h15; replace h16 := F.of h16; replace h17 := F.of h17; replace h18 := F.of h18; replace h19 := F.of h19; replace h20 := F.of h20; replace h21 := F.of h21; replace h22 := F.of h22; replace h23 := F.of h23; replace h24 := F.of h24; replace h25 := F.of h25; replace h26 := F.of h26; replace h27 := F.of h27; replace h28 := F.of h28; replace h29 := F.of h29; replace h30 := F.of h30; replace h31 := F.of h31; have R := F.r; clear F
      exact ⟨_, by omega, j + 1, rfl, R, h0, h2, h3, K1, (by omega), (Lib.hid (tell_step HG.out HC.out (by omega)))⟩
    | true =>
      have fb115 := hb115; clear hb115
      simp only [decide_eq_true_eq, decide_eq_false_iff_not, bne_iff_ne, bne_eq_false_iff_eq, beq_iff_eq, beq_eq_false_iff_ne, ne_eq, Bool.not_eq_true', Bool.not_eq_false', Bool.not_eq_eq_eq_not, Bool.not_true, Bool.not_false] at fb115
      refine st_val gz13_4_5 rfl (wanted_is (j := 4) (d := 14) rfl rfl h14 rfl) (ym_ rfl (F.of h0)) fun a138 e => ?_
      have h15 := pt_ F e; replace F := pu_ F e; replace h10 := so_ e h10; replace h11 := so_ e h11; replace h12 := so_ e h12; replace h13 := so_ e h13; replace h14 := so_ e h14; clear e
      refine st_val gz13_4_6 rfl (wanted_is (j := 4) (d := 14) rfl rfl h14 rfl) (ym_ rfl (F.of h3)) fun a139 e => ?_
      have h16 := pt_ F e; replace F := pu_ F e; replace h10 := so_ e h10; replace h11 := so_ e h11; replace h12 := so_ e h12; replace h13 := so_ e h13; replace h14 := so_ e h14; replace h15 := so_ e h15; clear e
      have Y : (execOp a139.eval oz13_4_7).run Tryz.prog w104 = .ok (.value (.int .u8 (c.toNat : Int))) w104 := by obtain ⟨hk, he⟩ := str_getAt2 HC.out; unfold oz13_4_7; go_simp
      refine st_val gz13_4_7 rfl (wanted_is (j := 4) (d := 14) rfl rfl h14 rfl) Y fun a140 e => ?_; clear Y
      have h17 := pt_ F e; replace F := pu_ F e; replace h10 := so_ e h10; replace h11 := so_ e h11; replace h12 := so_ e h12; replace h13 := so_ e h13; replace h14 := so_ e h14; replace h15 := so_ e h15; replace h16 := so_ e h16; clear e
      obtain ⟨b141, hb141⟩ : ∃ x, ((((c.toNat : Int) : Int) != (10 : Int))) = x := ⟨_, rfl⟩
      have Y : (execOp a140.eval oz13_4_8).run Tryz.prog w104 = .ok (.value (.bool b141)) w104 := by rw [← hb141]; unfold oz13_4_8; go_simp
      refine st_val gz13_4_8 rfl (wanted_is (j := 4) (d := 14) rfl rfl h14 rfl) Y fun a142 e => ?_; clear Y
      have h18 := pt_ F e; replace F := pu_ F e; replace h10 := so_ e h10; replace h11 := so_ e h11; replace h12 := so_ e h12; replace h13 := so_ e h13; replace h14 := so_ e h14; replace h15 := so_ e h15; replace h16 := so_ e h16; replace h17 := so_ e h17; clear e
      have Y : (execOp a142.eval oz13_4_9).run Tryz.prog w104 = .ok (.value (.bool b141)) w104 := by unfold oz13_4_9; go_simp
      refine sv_ gz13_4_9 Y fun a143 e => ?_; clear Y
      have h19 := pt_ F e; replace F := pu_ F e; replace h10 := so_ e h10; replace h11 := so_ e h11; replace h12 := so_ e h12; replace h13 := so_ e h13; replace h14 := so_ e h14; replace h15 := so_ e h15; replace h16 := so_ e h16; replace h17 := so_ e h17; replace h18 := so_ e h18; clear e
      refine sv_ gz13_4_10 (ym_ rfl h19) fun a144 e => ?_
      have h20 := pt_ F e; replace F := pu_ F e; replace h10 := so_ e h10; replace h11 := so_ e h11; replace h12 := so_ e h12; replace h13 := so_ e h13; replace h14 := so_ e h14; replace h15 := so_ e h15; replace h16 := so_ e h16; replace h17 := so_ e h17; replace h18 := so_ e h18; replace h19 := so_ e h19; clear e
      cases b141 with
      | false =>
        have fb141 := hb141; clear hb141
        simp only [decide_eq_true_eq, decide_eq_false_iff_not, bne_iff_ne, bne_eq_false_iff_eq, beq_iff_eq, beq_eq_false_iff_ne, ne_eq, Bool.not_eq_true', Bool.not_eq_false', Bool.not_eq_eq_eq_not, Bool.not_true, Bool.not_false] at fb141
        refine st_not gz13_4_11 rfl (wanted_is (j := 10) (d := 20) rfl rfl h20 rfl) fun a145 e => ?_
        have h21 := pt_ F e; replace F := pu_ F e; replace h10 := so_ e h10; replace h11 := so_ e h11; replace h12 := so_ e h12; replace h13 := so_ e h13; replace h14 := so_ e h14; replace h15 := so_ e h15; replace h16 := so_ e h16; replace h17 := so_ e h17; replace h18 := so_ e h18; replace h19 := so_ e h19; replace h20 := so_ e h20; clear e
        refine st_not gz13_4_12 rfl (wanted_is (j := 10) (d := 20) rfl rfl h20 rfl) fun a146 e => ?_
        have h22 := pt_ F e; replace F := pu_ F e; replace h10 := so_ e h10; replace h11 := so_ e h11; replace h12 := so_ e h12; replace h13 := so_ e h13; replace h14 := so_ e h14; replace h15 := so_ e h15; replace h16 := so_ e h16; replace h17 := so_ e h17; replace h18 := so_ e h18; replace h19 := so_ e h19; replace h20 := so_ e h20; replace h21 := so_ e h21; clear e
        refine st_not gz13_4_13 rfl (wanted_is (j := 10) (d := 20) rfl rfl h20 rfl) fun a147 e => ?_
        have h23 := pt_ F e; replace F := pu_ F e; replace h10 := so_ e h10; replace h11 := so_ e h11; replace h12 := so_ e h12; replace h13 := so_ e h13; replace h14 := so_ e h14; replace h15 := so_ e h15; replace h16 := so_ e h16; replace h17 := so_ e h17; replace h18 := so_ e h18; replace h19 := so_ e h19; replace h20 := so_ e h20; replace h21 := so_ e h21; replace h22 := so_ e h22; clear e
        refine st_not gz13_4_14 rfl (wanted_is (j := 10) (d := 20) rfl rfl h20 rfl) fun a148 e => ?_
        have h24 := pt_ F e; replace F := pu_ F e; replace h10 := so_ e h10; replace h11 := so_ e h11; replace h12 := so_ e h12; replace h13 := so_ e h13; replace h14 := so_ e h14; replace h15 := so_ e h15; replace h16 := so_ e h16; replace h17 := so_ e h17; replace h18 := so_ e h18; replace h19 := so_ e h19; replace h20 := so_ e h20; replace h21 := so_ e h21; replace h22 := so_ e h22; replace h23 := so_ e h23; clear e
        refine st_not gz13_4_15 rfl (wanted_is (j := 10) (d := 20) rfl rfl h20 rfl) fun a149 e => ?_
        have h25 := pt_ F e; replace F := pu_ F e; replace h10 := so_ e h10; replace h11 := so_ e h11; replace h12 := so_ e h12; replace h13 := so_ e h13; replace h14 := so_ e h14; replace h15 := so_ e h15; replace h16 := so_ e h16; replace h17 := so_ e h17; replace h18 := so_ e h18; replace h19 := so_ e h19; replace h20 := so_ e h20; replace h21 := so_ e h21; replace h22 := so_ e h22; replace h23 := so_ e h23; replace h24 := so_ e h24; clear e
        refine st_not gz13_4_16 rfl (wanted_un (j := 15) (d := 25) rfl rfl h25) fun a150 e => ?_
        have h26 := pt_ F e; replace F := pu_ F e; replace h10 := so_ e h10; replace h11 := so_ e h11; replace h12 := so_ e h12; replace h13 := so_ e h13; replace h14 := so_ e h14; replace h15 := so_ e h15; replace h16 := so_ e h16; replace h17 := so_ e h17; replace h18 := so_ e h18; replace h19 := so_ e h19; replace h20 := so_ e h20; replace h21 := so_ e h21; replace h22 := so_ e h22; replace h23 := so_ e h23; replace h24 := so_ e h24; replace h25 := so_ e h25; clear e
        refine st_not gz13_4_17 rfl (wanted_un (j := 15) (d := 25) rfl rfl h25) fun a151 e => ?_
        have h27 := pt_ F e; replace F := pu_ F e; replace h10 := so_ e h10; replace h11 := so_ e h11; replace h12 := so_ e h12; replace h13 := so_ e h13; replace h14 := so_ e h14; replace h15 := so_ e h15; replace h16 := so_ e h16; replace h17 := so_ e h17; replace h18 := so_ e h18; replace h19 := so_ e h19; replace h20 := so_ e h20; replace h21 := so_ e h21; replace h22 := so_ e h22; replace h23 := so_ e h23; replace h24 := so_ e h24; replace h25 := so_ e h25; replace h26 := so_ e h26; clear e
        refine st_not gz13_4_18 rfl (wanted_un (j := 15) (d := 25) rfl rfl h25) fun a152 e => ?_
        have h28 := pt_ F e; replace F := pu_ F e; replace h10 := so_ e h10; replace h11 := so_ e h11; replace h12 := so_ e h12; replace h13 := so_ e h13; replace h14 := so_ e h14; replace h15 := so_ e h15; replace h16 := so_ e h16; replace h17 := so_ e h17; replace h18 := so_ e h18; replace h19 := so_ e h19; replace h20 := so_ e h20; replace h21 := so_ e h21; replace h22 := so_ e h22; replace h23 := so_ e h23; replace h24 := so_ e h24; replace h25 := so_ e h25; replace h26 := so_ e h26; replace h27 := so_ e h27; clear e
        refine st_not gz13_4_19 rfl (wanted_un (j := 15) (d := 25) rfl rfl h25) fun a153 e => ?_
        have h29 := pt_ F e; replace F := pu_ F e; replace h10 := so_ e h10; replace h11 := so_ e h11; replace h12 := so_ e h12; replace h13 := so_ e h13; replace h14 := so_ e h14; replace h15 := so_ e h15; replace h16 := so_ e h16; replace h17 := so_ e h17; replace h18 := so_ e h18; replace h19 := so_ e h19; replace h20 := so_ e h20; replace h21 := so_ e h21; replace h22 := so_ e h22; replace h23 := so_ e h23; replace h24 := so_ e h24; replace h25 := so_ e h25; replace h26 := so_ e h26; replace h27 := so_ e h27; replace h28 := so_ e h28; clear e
        refine st_not gz13_4_20 rfl (wanted_is (j := 10) (d := 20) rfl rfl h20 rfl) fun a154 e => ?_
        have h30 := pt_ F e; replace F := pu_ F e; replace h10 := so_ e h10; replace h11 := so_ e h11; replace h12 := so_ e h12; replace h13 := so_ e h13; replace h14 := so_ e h14; replace h15 := so_ e h15; replace h16 := so_ e h16; replace h17 := so_ e h17; replace h18 := so_ e h18; replace h19 := so_ e h19; replace h20 := so_ e h20; replace h21 := so_ e h21; replace h22 := so_ e h22; replace h23 := so_ e h23; replace h24 := so_ e h24; replace h25 := so_ e h25; replace h26 := so_ e h26; replace h27 := so_ e h27; replace h28 := so_ e h28; replace h29 := so_ e h29; clear e
        have Y : (execOp a154.eval oz13_4_21).run Tryz.prog w104 = .ok (.value (.bool false)) w104 := by unfold oz13_4_21; go_simp
        refine sv_ gz13_4_21 Y fun a155 e => ?_; clear Y
        have h31 := pt_ F e; replace F := pu_ F e; replace h10 := so_ e h10; replace h11 := so_ e h11; replace h12 := so_ e h12; replace h13 := so_ e h13; replace h14 := so_ e h14; replace h15 := so_ e h15; replace h16 := so_ e h16; replace h17 := so_ e h17; replace h18 := so_ e h18; replace h19 := so_ e h19; replace h20 := so_ e h20; replace h21 := so_ e h21; replace h22 := so_ e h22; replace h23 := so_ e h23; replace h24 := so_ e h24; replace h25 := so_ e h25; replace h26 := so_ e h26; replace h27 := so_ e h27; replace h28 := so_ e h28; replace h29 := so_ e h29; replace h30 := so_ e h30; clear e
        refine st_end ?_
        replace h0 := F.of h0; replace h2 := F.of h2; replace h3 := F.of h3; replace h4 := F.of h4; replace h5 := F.of h5; replace h6 := F.of h6; replace h7 := F.of h7; have R := F.r; clear F
        change (cz13_17).wp _ _ _ _
        refine wp_cond_false (x := cz13_18) (y := Code.skip) (eval_slot h31) ?_
        refine wp_skip ?_
        change (cz13_22).wp _ _ _ _
        change (Code.region 3 Oz13_3 false).wp _ _ _ _
        refine reg_in (l := [0, 1, 2]) rfl ?_
        have F : FE_ _ [] a155 a155 := ⟨R, Ag_.refl _⟩; clear R
        refine sv_ gz13_3_0 (ym_ rfl (F.of h3)) fun a156 e => ?_
        have h8 := pt_ F e; replace F := pu_ F e; clear e
        have Y : (execOp a156.eval oz13_3_1).run Tryz.prog w104 = .ok (.value (.int .i64 ((j : Int) + 1))) w104 := by have hwj : IntKind.i64.wrap ((j : Int) + 1) = (j : Int) + 1 := (by rw [IntKind.wrap_i64]; have := HLN.out; omega); unfold oz13_3_1; go_simp
        refine sv_ gz13_3_1 Y fun a157 e => ?_; clear Y
        have h9 := pt_ F e; replace F := pu_ F e; replace h8 := so_ e h8; clear e
        refine sv_ gz13_3_2 (ya_ rfl h9) fun a158 e => ?_
        clear h3; have h3 := pt_ F e; replace F := pu_ F e; replace h8 := so_ e h8; replace h9 := so_ e h9; clear e
        refine st_end ?_
        replace h0 := F.of h0; replace h2 := F.of h2; replace h4 := F.of h4; replace h5 := F.of h5; replace h6 := F.of h6; replace h7 := F.of h7; replace h10 := F.of h10; replace h11 := F.of h11; replace h12 := F.of h12; replace h13 := F.of h13; replace h14 := F.of h14; replace h15 := F.of h15; replace h16 := F.of h16; replace h17 := F.of h17; replace h18 := F.of h18; replace h19 := F.of h19; replace h20 := F.of h20; replace h21 := F.of h21; replace h22 := F.of h22; replace h23 := F.of h23; replace h24 := F.of h24; replace h25 := F.of h25; replace h26 := F.of h26; replace h27 := F.of h27; replace h28 := F.of h28; replace h29 := F.of h29; replace h30 := F.of h30; replace h31 := F.of h31; have R := F.r; clear F
        exact ⟨_, by omega, j + 1, rfl, R, h0, h2, h3, K1, (by omega), (Lib.hid (tell_step HG.out HC.out (by omega)))⟩
      | true =>
        have fb141 := hb141; clear hb141
        simp only [decide_eq_true_eq, decide_eq_false_iff_not, bne_iff_ne, bne_eq_false_iff_eq, beq_iff_eq, beq_eq_false_iff_ne, ne_eq, Bool.not_eq_true', Bool.not_eq_false', Bool.not_eq_eq_eq_not, Bool.not_true, Bool.not_false] at fb141
        refine st_val gz13_4_11 rfl (wanted_is (j := 10) (d := 20) rfl rfl h20 rfl) (ym_ rfl (F.of h0)) fun a159 e => ?_
        have h21 := pt_ F e; replace F := pu_ F e; replace h10 := so_ e h10; replace h11 := so_ e h11; replace h12 := so_ e h12; replace h13 := so_ e h13; replace h14 := so_ e h14; replace h15 := so_ e h15; replace h16 := so_ e h16; replace h17 := so_ e h17; replace h18 := so_ e h18; replace h19 := so_ e h19; replace h20 := so_ e h20; clear e
        refine st_val gz13_4_12 rfl (wanted_is (j := 10) (d := 20) rfl rfl h20 rfl) (ym_ rfl (F.of h3)) fun a160 e => ?_
        have h22 := pt_ F e; replace F := pu_ F e; replace h10 := so_ e h10; replace h11 := so_ e h11; replace h12 := so_ e h12; replace h13 := so_ e h13; replace h14 := so_ e h14; replace h15 := so_ e h15; replace h16 := so_ e h16; replace h17 := so_ e h17; replace h18 := so_ e h18; replace h19 := so_ e h19; replace h20 := so_ e h20; replace h21 := so_ e h21; clear e
        have Y : (execOp a160.eval oz13_4_13).run Tryz.prog w104 = .ok (.value (.int .u8 (c.toNat : Int))) w104 := by obtain ⟨hk, he⟩ := str_getAt2 HC.out; unfold oz13_4_13; go_simp
        refine st_val gz13_4_13 rfl (wanted_is (j := 10) (d := 20) rfl rfl h20 rfl) Y fun a161 e => ?_; clear Y
        have h23 := pt_ F e; replace F := pu_ F e; replace h10 := so_ e h10; replace h11 := so_ e h11; replace h12 := so_ e h12; replace h13 := so_ e h13; replace h14 := so_ e h14; replace h15 := so_ e h15; replace h16 := so_ e h16; replace h17 := so_ e h17; replace h18 := so_ e h18; replace h19 := so_ e h19; replace h20 := so_ e h20; replace h21 := so_ e h21; replace h22 := so_ e h22; clear e
        obtain ⟨b162, hb162⟩ : ∃ x, (decide (((c.toNat : Int) : Int) < (32 : Int))) = x := ⟨_, rfl⟩
        have Y : (execOp a161.eval oz13_4_14).run Tryz.prog w104 = .ok (.value (.bool b162)) w104 := by rw [← hb162]; unfold oz13_4_14; go_simp
        refine st_val gz13_4_14 rfl (wanted_is (j := 10) (d := 20) rfl rfl h20 rfl) Y fun a163 e => ?_; clear Y
        have h24 := pt_ F e; replace F := pu_ F e; replace h10 := so_ e h10; replace h11 := so_ e h11; replace h12 := so_ e h12; replace h13 := so_ e h13; replace h14 := so_ e h14; replace h15 := so_ e h15; replace h16 := so_ e h16; replace h17 := so_ e h17; replace h18 := so_ e h18; replace h19 := so_ e h19; replace h20 := so_ e h20; replace h21 := so_ e h21; replace h22 := so_ e h22; replace h23 := so_ e h23; clear e
        refine st_val gz13_4_15 rfl (wanted_is (j := 10) (d := 20) rfl rfl h20 rfl) (ym_ rfl h24) fun a164 e => ?_
        have h25 := pt_ F e; replace F := pu_ F e; replace h10 := so_ e h10; replace h11 := so_ e h11; replace h12 := so_ e h12; replace h13 := so_ e h13; replace h14 := so_ e h14; replace h15 := so_ e h15; replace h16 := so_ e h16; replace h17 := so_ e h17; replace h18 := so_ e h18; replace h19 := so_ e h19; replace h20 := so_ e h20; replace h21 := so_ e h21; replace h22 := so_ e h22; replace h23 := so_ e h23; replace h24 := so_ e h24; clear e
        cases b162 with
        | false =>
          have fb162 := hb162; clear hb162
          simp only [decide_eq_true_eq, decide_eq_false_iff_not, bne_iff_ne, bne_eq_false_iff_eq, beq_iff_eq, beq_eq_false_iff_ne, ne_eq, Bool.not_eq_true', Bool.not_eq_false', Bool.not_eq_eq_eq_not, Bool.not_true, Bool.not_false] at fb162
          refine st_val gz13_4_16 rfl (wanted_is (j := 15) (d := 25) rfl rfl h25 rfl) (ym_ rfl (F.of h0)) fun a165 e => ?_
          have h26 := pt_ F e; replace F := pu_ F e; replace h10 := so_ e h10; replace h11 := so_ e h11; replace h12 := so_ e h12; replace h13 := so_ e h13; replace h14 := so_ e h14; replace h15 := so_ e h15; replace h16 := so_ e h16; replace h17 := so_ e h17; replace h18 := so_ e h18; replace h19 := so_ e h19; replace h20 := so_ e h20; replace h21 := so_ e h21; replace h22 := so_ e h22; replace h23 := so_ e h23; replace h24 := so_ e h24; replace h25 := so_ e h25; clear e
          refine st_val gz13_4_17 rfl (wanted_is (j := 15) (d := 25) rfl rfl h25 rfl) (ym_ rfl (F.of h3)) fun a166 e => ?_
          have h27 := pt_ F e; replace F := pu_ F e; replace h10 := so_ e h10; replace h11 := so_ e h11; replace h12 := so_ e h12; replace h13 := so_ e h13; replace h14 := so_ e h14; replace h15 := so_ e h15; replace h16 := so_ e h16; replace h17 := so_ e h17; replace h18 := so_ e h18; replace h19 := so_ e h19; replace h20 := so_ e h20; replace h21 := so_ e h21; replace h22 := so_ e h22; replace h23 := so_ e h23; replace h24 := so_ e h24; replace h25 := so_ e h25; replace h26 := so_ e h26; clear e
          have Y : (execOp a166.eval oz13_4_18).run Tryz.prog w104 = .ok (.value (.int .u8 (c.toNat : Int))) w104 := by obtain ⟨hk, he⟩ := str_getAt2 HC.out; unfold oz13_4_18; go_simp
          refine st_val gz13_4_18 rfl (wanted_is (j := 15) (d := 25) rfl rfl h25 rfl) Y fun a167 e => ?_; clear Y
          have h28 := pt_ F e; replace F := pu_ F e; replace h10 := so_ e h10; replace h11 := so_ e h11; replace h12 := so_ e h12; replace h13 := so_ e h13; replace h14 := so_ e h14; replace h15 := so_ e h15; replace h16 := so_ e h16; replace h17 := so_ e h17; replace h18 := so_ e h18; replace h19 := so_ e h19; replace h20 := so_ e h20; replace h21 := so_ e h21; replace h22 := so_ e h22; replace h23 := so_ e h23; replace h24 := so_ e h24; replace h25 := so_ e h25; replace h26 := so_ e h26; replace h27 := so_ e h27; clear e
          obtain ⟨b168, hb168⟩ : ∃ x, (decide ((126 : Int) < ((c.toNat : Int) : Int))) = x := ⟨_, rfl⟩
          have Y : (execOp a167.eval oz13_4_19).run Tryz.prog w104 = .ok (.value (.bool b168)) w104 := by rw [← hb168]; unfold oz13_4_19; go_simp
          refine st_val gz13_4_19 rfl (wanted_is (j := 15) (d := 25) rfl rfl h25 rfl) Y fun a169 e => ?_; clear Y
          have h29 := pt_ F e; replace F := pu_ F e; replace h10 := so_ e h10; replace h11 := so_ e h11; replace h12 := so_ e h12; replace h13 := so_ e h13; replace h14 := so_ e h14; replace h15 := so_ e h15; replace h16 := so_ e h16; replace h17 := so_ e h17; replace h18 := so_ e h18; replace h19 := so_ e h19; replace h20 := so_ e h20; replace h21 := so_ e h21; replace h22 := so_ e h22; replace h23 := so_ e h23; replace h24 := so_ e h24; replace h25 := so_ e h25; replace h26 := so_ e h26; replace h27 := so_ e h27; replace h28 := so_ e h28; clear e
          have Y : (execOp a169.eval oz13_4_20).run Tryz.prog w104 = .ok (.value (.bool b168)) w104 := by unfold oz13_4_20; go_simp
          refine st_val gz13_4_20 rfl (wanted_is (j := 10) (d := 20) rfl rfl h20 rfl) Y fun a170 e => ?_; clear Y
          have h30 := pt_ F e; replace F := pu_ F e; replace h10 := so_ e h10; replace h11 := so_ e h11; replace h12 := so_ e h12; replace h13 := so_ e h13; replace h14 := so_ e h14; replace h15 := so_ e h15; replace h16 := so_ e h16; replace h17 := so_ e h17; replace h18 := so_ e h18; replace h19 := so_ e h19; replace h20 := so_ e h20; replace h21 := so_ e h21; replace h22 := so_ e h22; replace h23 := so_ e h23; replace h24 := so_ e h24; replace h25 := so_ e h25; replace h26 := so_ e h26; replace h27 := so_ e h27; replace h28 := so_ e h28; replace h29 := so_ e h29; clear e
          have Y : (execOp a170.eval oz13_4_21).run Tryz.prog w104 = .ok (.value (.bool b168)) w104 := by unfold oz13_4_21; go_simp
          refine sv_ gz13_4_21 Y fun a171 e => ?_; clear Y
          have h31 := pt_ F e; replace F := pu_ F e; replace h10 := so_ e h10; replace h11 := so_ e h11; replace h12 := so_ e h12; replace h13 := so_ e h13; replace h14 := so_ e h14; replace h15 := so_ e h15; replace h16 := so_ e h16; replace h17 := so_ e h17; replace h18 := so_ e h18; replace h19 := so_ e h19; replace h20 := so_ e h20; replace h21 := so_ e h21; replace h22 := so_ e h22; replace h23 := so_ e h23; replace h24 := so_ e h24; replace h25 := so_ e h25; replace h26 := so_ e h26; replace h27 := so_ e h27; replace h28 := so_ e h28; replace h29 := so_ e h29; replace h30 := so_ e h30; clear e
          refine st_end ?_
          replace h0 := F.of h0; replace h2 := F.of h2; replace h3 := F.of h3; replace h4 := F.of h4; replace h5 := F.of h5; replace h6 := F.of h6; replace h7 := F.of h7; have R := F.r; clear F
          change (cz13_17).wp _ _ _ _
          cases b168 with
          | false =>
            have fb168 := hb168; clear hb168
            simp only [decide_eq_true_eq, decide_eq_false_iff_not, bne_iff_ne, bne_eq_false_iff_eq, beq_iff_eq, beq_eq_false_iff_ne, ne_eq, Bool.not_eq_true', Bool.not_eq_false', Bool.not_eq_eq_eq_not, Bool.not_true, Bool.not_false] at fb168
            refine wp_cond_false (x := cz13_18) (y := Code.skip) (eval_slot h31) ?_
            refine wp_skip ?_
            change (cz13_22).wp _ _ _ _
            change (Code.region 3 Oz13_3 false).wp _ _ _ _
            refine reg_in (l := [0, 1, 2]) rfl ?_
            have F : FE_ _ [] a171 a171 := ⟨R, Ag_.refl _⟩; clear R
            refine sv_ gz13_3_0 (ym_ rfl (F.of h3)) fun a172 e => ?_
            have h8 := pt_ F e; replace F := pu_ F e; clear e
            have Y : (execOp a172.eval oz13_3_1).run Tryz.prog w104 = .ok (.value (.int .i64 ((j : Int) + 1))) w104 := by have hwj : IntKind.i64.wrap ((j : Int) + 1) = (j : Int) + 1 := (by rw [IntKind.wrap_i64]; have := HLN.out; omega); unfold oz13_3_1; go_simp
            refine sv_ gz13_3_1 Y fun a173 e => ?_; clear Y
            have h9 := pt_ F e; replace F := pu_ F e; replace h8 := so_ e h8; clear e
            refine sv_ gz13_3_2 (ya_ rfl h9) fun a174 e => ?_
            clear h3; have h3 := pt_ F e; replace F := pu_ F e; replace h8 := so_ e h8; replace h9 := so_ e h9; clear e
            refine st_end ?_
            replace h0 := F.of h0; replace h2 := F.of h2; replace h4 := F.of h4; replace h5 := F.of h5; replace h6 := F.of h6; replace h7 := F.of h7; replace h10 := F.of h10; replace h11 := F.of h11; replace h12 := F.of h12; replace h13 := F.of h13; replace h14 := F.of h14; replace h15 := F.of h15; replace h16 := F.of h16; replace h17 := F.of h17; replace h18 := F.of h18; replace h19 := F.of h19; replace h20 := F.of h20; replace h21 := F.of h21; replace h22 := F.of h22; replace h23 := F.of h23; replace h24 := F.of h24; replace h25 := F.of h25; replace h26 := F.of h26; replace h27 := F.of h27; replace h28 := F.of h28; replace h29 := F.of h29; replace h30 := F.of h30; replace h31 := F.of h31; have R := F.r; clear F
            exact ⟨_, by omega, j + 1, rfl, R, h0, h2, h3, K1, (by omega), (Lib.hid (tell_step HG.out HC.out (by omega)))⟩
          | true =>
            have fb168 := hb168; clear hb168
            simp only [decide_eq_true_eq, decide_eq_false_iff_not, bne_iff_ne, bne_eq_false_iff_eq, beq_iff_eq, beq_eq_false_iff_ne, ne_eq, Bool.not_eq_true', Bool.not_eq_false', Bool.not_eq_eq_eq_not, Bool.not_true, Bool.not_false] at fb168
            refine wp_cond_true (x := cz13_18) (y := Code.skip) (eval_slot h31) ?_
            refine wp_seq (x := cz13_19) (y := Code.ret) ?_
            change (Code.region 5 Oz13_5 false).wp _ _ _ _
            refine reg_in (l := [0]) rfl ?_
            have F : FE_ _ [] a171 a171 := ⟨R, Ag_.refl _⟩; clear R
            have Y : (execOp a171.eval oz13_5_0).run Tryz.prog w104 = .ok (.value (.bool true)) w104 := by unfold oz13_5_0; go_simp
            refine sv_ gz13_5_0 Y fun a175 e => ?_; clear Y
            clear h2; have h2 := pt_ F e; replace F := pu_ F e; clear e
            refine st_end ?_
            replace h0 := F.of h0; replace h3 := F.of h3; replace h4 := F.of h4; replace h5 := F.of h5; replace h6 := F.of h6; replace h7 := F.of h7; replace h10 := F.of h10; replace h11 := F.of h11; replace h12 := F.of h12; replace h13 := F.of h13; replace h14 := F.of h14; replace h15 := F.of h15; replace h16 := F.of h16; replace h17 := F.of h17; replace h18 := F.of h18; replace h19 := F.of h19; replace h20 := F.of h20; replace h21 := F.of h21; replace h22 := F.of h22; replace h23 := F.of h23; replace h24 := F.of h24; replace h25 := F.of h25; replace h26 := F.of h26; replace h27 := F.of h27; replace h28 := F.of h28; replace h29 := F.of h29; replace h30 := F.of h30; replace h31 := F.of h31; have R := F.r; clear F
            change (Code.ret).wp _ _ _ _
            refine wp_ret ?_
            change bodyPost Tryz.prog Tryz.f13 (fun e w' => e = .returned (.bool (!tellX L)) ∧ Keep (fun g => g < W.heap.size) W w') .ret a175 w104
            refine ret_one rfl R h2 ?_
            exact ⟨by rw [tell_no HC.out (by omega) (by omega) (by omega)]; rfl, K1⟩
        | true =>
          have fb162 := hb162; clear hb162
          simp only [decide_eq_true_eq, decide_eq_false_iff_not, bne_iff_ne, bne_eq_false_iff_eq, beq_iff_eq, beq_eq_false_iff_ne, ne_eq, Bool.not_eq_true', Bool.not_eq_false', Bool.not_eq_eq_eq_not, Bool.not_true, Bool.not_false] at fb162
          refine st_not gz13_4_16 rfl (wanted_is (j := 15) (d := 25) rfl rfl h25 rfl) fun a176 e => ?_
          have h26 := pt_ F e; replace F := pu_ F e; replace h10 := so_ e h10; replace h11 := so_ e h11; replace h12 := so_ e h12; replace h13 := so_ e h13; replace h14 := so_ e h14; replace h15 := so_ e h15; replace h16 := so_ e h16; replace h17 := so_ e h17; replace h18 := so_ e h18; replace h19 := so_ e h19; replace h20 := so_ e h20; replace h21 := so_ e h21; replace h22 := so_ e h22; replace h23 := so_ e h23; replace h24 := so_ e h24; replace h25 := so_ e h25; clear e
          refine st_not gz13_4_17 rfl (wanted_is (j := 15) (d := 25) rfl rfl h25 rfl) fun a177 e => ?_
          have h27 := pt_ F e; replace F := pu_ F e; replace h10 := so_ e h10; replace h11 := so_ e h11; replace h12 := so_ e h12; replace h13 := so_ e h13; replace h14 := so_ e h14; replace h15 := so_ e h15; replace h16 := so_ e h16; replace h17 := so_ e h17; replace h18 := so_ e h18; replace h19 := so_ e h19; replace h20 := so_ e h20; replace h21 := so_ e h21; replace h22 := so_ e h22; replace h23 := so_ e h23; replace h24 := so_ e h24; replace h25 := so_ e h25; replace h26 := so_ e h26; clear e
          refine st_not gz13_4_18 rfl (wanted_is (j := 15) (d := 25) rfl rfl h25 rfl) fun a178 e => ?_
          have h28 := pt_ F e; replace F := pu_ F e; replace h10 := so_ e h10; replace h11 := so_ e h11; replace h12 := so_ e h12; replace h13 := so_ e h13; replace h14 := so_ e h14; replace h15 := so_ e h15; replace h16 := so_ e h16; replace h17 := so_ e h17; replace h18 := so_ e h18; replace h19 := so_ e h19; replace h20 := so_ e h20; replace h21 := so_ e h21; replace h22 := so_ e h22; replace h23 := so_ e h23; replace h24 := so_ e h24; replace h25 := so_ e h25; replace h26 := so_ e h26; replace h27 := so_ e h27; clear e
          refine st_not gz13_4_19 rfl (wanted_is (j := 15) (d := 25) rfl rfl h25 rfl) fun a179 e => ?_
          have h29 := pt_ F e; replace F := pu_ F e; replace h10 := so_ e h10; replace h11 := so_ e h11; replace h12 := so_ e h12; replace h13 := so_ e h13; replace h14 := so_ e h14; replace h15 := so_ e h15; replace h16 := so_ e h16; replace h17 := so_ e h17; replace h18 := so_ e h18; replace h19 := so_ e h19; replace h20 := so_ e h20; replace h21 := so_ e h21; replace h22 := so_ e h22; replace h23 := so_ e h23; replace h24 := so_ e h24; replace h25 := so_ e h25; replace h26 := so_ e h26; replace h27 := so_ e h27; replace h28 := so_ e h28; clear e
          have Y : (execOp a179.eval oz13_4_20).run Tryz.prog w104 = .ok (.value (.bool true)) w104 := by unfold oz13_4_20; go_simp
          refine st_val gz13_4_20 rfl (wanted_is (j := 10) (d := 20) rfl rfl h20 rfl) Y fun a180 e => ?_; clear Y
          have h30 := pt_ F e; replace F := pu_ F e; replace h10 := so_ e h10; replace h11 := so_ e h11; replace h12 := so_ e h12; replace h13 := so_ e h13; replace h14 := so_ e h14; replace h15 := so_ e h15; replace h16 := so_ e h16; replace h17 := so_ e h17; replace h18 := so_ e h18; replace h19 := so_ e h19; replace h20 := so_ e h20; replace h21 := so_ e h21; replace h22 := so_ e h22; replace h23 := so_ e h23; replace h24 := so_ e h24; replace h25 := so_ e h25; replace h26 := so_ e h26; replace h27 := so_ e h27; replace h28 := so_ e h28; replace h29 := so_ e h29; clear e
          have Y : (execOp a180.eval oz13_4_21).run Tryz.prog w104 = .ok (.value (.bool true)) w104 := by unfold oz13_4_21; go_simp
          refine sv_ gz13_4_21 Y fun a181 e => ?_; clear Y
          have h31 := pt_ F e; replace F := pu_ F e; replace h10 := so_ e h10; replace h11 := so_ e h11; replace h12 := so_ e h12; replace h13 := so_ e h13; replace h14 := so_ e h14; replace h15 := so_ e h15; replace h16 := so_ e h16; replace h17 := so_ e h17; replace h18 := so_ e h18; replace h19 := so_ e h19; replace h20 := so_ e h20; replace h21 := so_ e h21; replace h22 := so_ e h22; replace h23 := so_ e h23; replace h24 := so_ e h24; replace h25 := so_ e h25; replace h26 := so_ e h26; replace h27 := so_ e h27; replace h28 := so_ e h28; replace h29 := so_ e h29; replace h30 := so_ e h30; clear e
          refine st_end ?_
          replace h0 := F.of h0; replace h2 := F.of h2; replace h3 := F.of h3; replace h4 := F.of h4; replace h5 := F.of h5; replace h6 := F.of h6; replace h7 := F.of h7; have R := F.r; clear F
          change (cz13_17).wp _ _ _ _
          refine wp_cond_true (x := cz13_18) (y := Code.skip) (eval_slot h31) ?_
          refine wp_seq (x := cz13_19) (y := Code.ret) ?_
          change (Code.region 5 Oz13_5 false).wp _ _ _ _
          refine reg_in (l := [0]) rfl ?_
          have F : FE_ _ [] a181 a181 := ⟨R, Ag_.refl _⟩; clear R
          have Y : (execOp a181.eval oz13_5_0).run Tryz.prog w104 = .ok (.value (.bool true)) w104 := by unfold oz13_5_0; go_simp
          refine sv_ gz13_5_0 Y fun a182 e => ?_; clear Y
          clear h2; have h2 := pt_ F e; replace F := pu_ F e; clear e
          refine st_end ?_
          replace h0 := F.of h0; replace h3 := F.of h3; replace h4 := F.of h4; replace h5 := F.of h5; replace h6 := F.of h6; replace h7 := F.of h7; replace h10 := F.of h10; replace h11 := F.of h11; replace h12 := F.of h12; replace h13 := F.of h13; replace h14 := F.of h14; replace h15 := F.of h15; replace h16 := F.of h16; replace h17 := F.of h17; replace h18 := F.of h18; replace h19 := F.of h19; replace h20 := F.of h20; replace h21 := F.of h21; replace h22 := F.of h22; replace h23 := F.of h23; replace h24 := F.of h24; replace h25 := F.of h25; replace h26 := F.of h26; replace h27 := F.of h27; replace h28 := F.of h28; replace h29 := F.of h29; replace h30 := F.of h30; replace h31 := F.of h31; have R := F.r; clear F
          change (Code.ret).wp _ _ _ _
          refine wp_ret ?_
          change bodyPost Tryz.prog Tryz.f13 (fun e w' => e = .returned (.bool (!tellX L)) ∧ Keep (fun g => g < W.heap.size) W w') .ret a182 w104
          refine ret_one rfl R h2 ?_
          exact ⟨by rw [tell_no HC.out (by omega) (by omega) (by omega)]; rfl, K1⟩
theorem rBad_any (W : World) (L : List UInt8) (hn : L.length ≤ 4611686018427387904) : Calls Tryz.prog 13 #[.string (str L)] W fun e w' => e = .returned (.bool (!tellX L)) ∧ Keep (fun g => g < W.heap.size) W w' := by
  refine enter_sx Tryz.func13 bodyz13 rfl (by show (1 : Nat) ≤ 32; decide) fun f0 R0' hs => ?_
  exact rbad_w R0' (hs 0 _ rfl) (Keep.refl _ W) (Lib.hid hn)
def oz41_0_0 : Oper := ⟨some 2, Op.assign (Operand.const (Value.string { data := #[] })), 9, "ref.go:22", #[], none⟩
def Oz41_0 : Array Oper := List.toArray (oz41_0_0 :: [])
theorem gz41_0_0 : Oz41_0[0]? = some oz41_0_0 := rfl
def cz41_1 : Code := Code.region 0 Oz41_0 false
def oz41_1_0 : Oper := ⟨some 5, Op.buildSlice 42 1 #[(0, Operand.const (Value.int IntKind.u8 39))], 42, "ref.go:23", #[], none⟩
def oz41_1_1 : Oper := ⟨some 3, Op.assign (Operand.tmp 5), 42, "ref.go:23", #[ed_ 0, ep_ 0], none⟩
def Oz41_1 : Array Oper := List.toArray (oz41_1_0 :: oz41_1_1 :: [])
theorem gz41_1_0 : Oz41_1[0]? = some oz41_1_0 := rfl
theorem gz41_1_1 : Oz41_1[1]? = some oz41_1_1 := rfl
def cz41_3 : Code := Code.region 1 Oz41_1 false
def oz41_2_0 : Oper := ⟨some 4, Op.assign (Operand.const (Value.int IntKind.i64 0)), 3, "ref.go:24", #[], none⟩
def Oz41_2 : Array Oper := List.toArray (oz41_2_0 :: [])
theorem gz41_2_0 : Oz41_2[0]? = some oz41_2_0 := rfl
def cz41_6 : Code := Code.region 2 Oz41_2 false
def oz41_3_0 : Oper := ⟨some 6, Op.move (Operand.tmp 4), 3, "ref.go:24", #[], none⟩
def oz41_3_1 : Oper := ⟨some 7, Op.move (Operand.tmp 0), 9, "ref.go:24", #[], none⟩
def oz41_3_2 : Oper := ⟨some 8, Op.call { callee := Callee.builtin Go.Builtin.len, args := #[Operand.tmp 7], argTypes := #[9] }, 3, "ref.go:24", #[ed_ 1], none⟩
def oz41_3_3 : Oper := ⟨some 9, Op.binOp Go.BinOp.lss 3 (Operand.tmp 6) (Operand.tmp 8) 3, 4, "ref.go:24", #[ed_ 0, ed_ 2], none⟩
def Oz41_3 : Array Oper := List.toArray (oz41_3_0 :: oz41_3_1 :: oz41_3_2 :: oz41_3_3 :: [])
theorem gz41_3_0 : Oz41_3[0]? = some oz41_3_0 := rfl
theorem gz41_3_1 : Oz41_3[1]? = some oz41_3_1 := rfl
theorem gz41_3_2 : Oz41_3[2]? = some oz41_3_2 := rfl
theorem gz41_3_3 : Oz41_3[3]? = some oz41_3_3 := rfl
def cz41_11 : Code := Code.region 3 Oz41_3 false
def cz41_14 : Code := Code.exit 0
def cz41_12 : Code := Code.cond (Operand.tmp 9) Code.skip cz41_14
def cz41_10 : Code := Code.seq cz41_11 cz41_12
def oz41_5_0 : Oper := ⟨some 12, Op.move (Operand.tmp 0), 9, "ref.go:25", #[], none⟩
def oz41_5_1 : Oper := ⟨some 13, Op.move (Operand.tmp 4), 3, "ref.go:25", #[], none⟩
def oz41_5_2 : Oper := ⟨some 14, Op.index 9 (Operand.tmp 12) (Operand.tmp 13), 5, "ref.go:25", #[ed_ 0, ed_ 1], none⟩
def Oz41_5 : Array Oper := List.toArray (oz41_5_0 :: oz41_5_1 :: oz41_5_2 :: [])
theorem gz41_5_0 : Oz41_5[0]? = some oz41_5_0 := rfl
theorem gz41_5_1 : Oz41_5[1]? = some oz41_5_1 := rfl
theorem gz41_5_2 : Oz41_5[2]? = some oz41_5_2 := rfl
def cz41_18 : Code := Code.region 5 Oz41_5 false
def oz41_7_0 : Oper := ⟨some 22, Op.binOp Go.BinOp.eql 5 (Operand.tmp 14) (Operand.const (Value.int IntKind.u8 9)) 5, 4, "ref.go:26", #[], none⟩
def oz41_7_1 : Oper := ⟨some 21, Op.assign (Operand.tmp 22), 4, "ref.go:26", #[ed_ 0], none⟩
def Oz41_7 : Array Oper := List.toArray (oz41_7_0 :: oz41_7_1 :: [])
theorem gz41_7_0 : Oz41_7[0]? = some oz41_7_0 := rfl
theorem gz41_7_1 : Oz41_7[1]? = some oz41_7_1 := rfl
def cz41_21 : Code := Code.region 7 Oz41_7 false
def oz41_8_0 : Oper := ⟨some 23, Op.move (Operand.tmp 3), 42, "ref.go:27", #[], none⟩
def oz41_8_1 : Oper := ⟨some 24, Op.buildSlice 42 2 #[(0, Operand.const (Value.int IntKind.u8 92)), (1, Operand.const (Value.int IntKind.u8 116))], 42, "ref.go:27", #[], none⟩
def oz41_8_2 : Oper := ⟨some 25, Op.call { callee := Callee.builtin Go.Builtin.append, args := #[Operand.tmp 23, Operand.tmp 24], argTypes := #[42, 42] }, 42, "ref.go:27", #[ed_ 0, ed_ 1], none⟩
def oz41_8_3 : Oper := ⟨some 3, Op.assign (Operand.tmp 25), 42, "ref.go:27", #[ed_ 2, ec_ 2, ep_ 0, ep_ 1, ep_ 2], none⟩
def Oz41_8 : Array Oper := List.toArray (oz41_8_0 :: oz41_8_1 :: oz41_8_2 :: oz41_8_3 :: [])
theorem gz41_8_0 : Oz41_8[0]? = some oz41_8_0 := rfl
theorem gz41_8_1 : Oz41_8[1]? = some oz41_8_1 := rfl
theorem gz41_8_2 : Oz41_8[2]? = some oz41_8_2 := rfl
theorem gz41_8_3 : Oz41_8[3]? = some oz41_8_3 := rfl
def cz41_23 : Code := Code.region 8 Oz41_8 false
def oz41_9_0 : Oper := ⟨some 27, Op.binOp Go.BinOp.eql 5 (Operand.tmp 14) (Operand.const (Value.int IntKind.u8 10)) 5, 4, "ref.go:28", #[], none⟩
def oz41_9_1 : Oper := ⟨some 26, Op.assign (Operand.tmp 27), 4, "ref.go:28", #[ed_ 0], none⟩
def Oz41_9 : Array Oper := List.toArray (oz41_9_0 :: oz41_9_1 :: [])
theorem gz41_9_0 : Oz41_9[0]? = some oz41_9_0 := rfl
theorem gz41_9_1 : Oz41_9[1]? = some oz41_9_1 := rfl
def cz41_25 : Code := Code.region 9 Oz41_9 false
def oz41_10_0 : Oper := ⟨some 28, Op.move (Operand.tmp 3), 42, "ref.go:29", #[], none⟩
def oz41_10_1 : Oper := ⟨some 29, Op.buildSlice 42 2 #[(0, Operand.const (Value.int IntKind.u8 92)), (1, Operand.const (Value.int IntKind.u8 110))], 42, "ref.go:29", #[], none⟩
def oz41_10_2 : Oper := ⟨some 30, Op.call { callee := Callee.builtin Go.Builtin.append, args := #[Operand.tmp 28, Operand.tmp 29], argTypes := #[42, 42] }, 42, "ref.go:29", #[ed_ 0, ed_ 1], none⟩
def oz41_10_3 : Oper := ⟨some 3, Op.assign (Operand.tmp 30), 42, "ref.go:29", #[ed_ 2, ec_ 2, ep_ 0, ep_ 1, ep_ 2], none⟩
def Oz41_10 : Array Oper := List.toArray (oz41_10_0 :: oz41_10_1 :: oz41_10_2 :: oz41_10_3 :: [])
theorem gz41_10_0 : Oz41_10[0]? = some oz41_10_0 := rfl
theorem gz41_10_1 : Oz41_10[1]? = some oz41_10_1 := rfl
theorem gz41_10_2 : Oz41_10[2]? = some oz41_10_2 := rfl
theorem gz41_10_3 : Oz41_10[3]? = some oz41_10_3 := rfl
def cz41_27 : Code := Code.region 10 Oz41_10 false
def oz41_11_0 : Oper := ⟨some 32, Op.binOp Go.BinOp.eql 5 (Operand.tmp 14) (Operand.const (Value.int IntKind.u8 39)) 5, 4, "ref.go:30", #[], none⟩
def oz41_11_1 : Oper := ⟨some 31, Op.assign (Operand.tmp 32), 4, "ref.go:30", #[ed_ 0], none⟩
def Oz41_11 : Array Oper := List.toArray (oz41_11_0 :: oz41_11_1 :: [])
theorem gz41_11_0 : Oz41_11[0]? = some oz41_11_0 := rfl
theorem gz41_11_1 : Oz41_11[1]? = some oz41_11_1 := rfl
def cz41_30 : Code := Code.region 11 Oz41_11 false
def oz41_12_0 : Oper := ⟨some 33, Op.binOp Go.BinOp.eql 5 (Operand.tmp 14) (Operand.const (Value.int IntKind.u8 92)) 5, 4, "ref.go:30", #[], none⟩
def oz41_12_1 : Oper := ⟨some 31, Op.assign (Operand.tmp 33), 4, "ref.go:30", #[ed_ 0], none⟩
def Oz41_12 : Array Oper := List.toArray (oz41_12_0 :: oz41_12_1 :: [])
theorem gz41_12_0 : Oz41_12[0]? = some oz41_12_0 := rfl
theorem gz41_12_1 : Oz41_12[1]? = some oz41_12_1 := rfl
def cz41_33 : Code := Code.region 12 Oz41_12 false
def cz41_31 : Code := Code.cond (Operand.tmp 31) Code.skip cz41_33
def cz41_29 : Code := Code.seq cz41_30 cz41_31
def oz41_13_0 : Oper := ⟨some 34, Op.move (Operand.tmp 3), 42, "ref.go:31", #[], none⟩
def oz41_13_1 : Oper := ⟨some 35, Op.move (Operand.tmp 0), 9, "ref.go:31", #[], none⟩
def oz41_13_2 : Oper := ⟨some 36, Op.move (Operand.tmp 4), 3, "ref.go:31", #[], none⟩
def oz41_13_3 : Oper := ⟨some 37, Op.index 9 (Operand.tmp 35) (Operand.tmp 36), 5, "ref.go:31", #[ed_ 1, ed_ 2], none⟩
def oz41_13_4 : Oper := ⟨some 38, Op.buildSlice 42 2 #[(0, Operand.const (Value.int IntKind.u8 92)), (1, Operand.tmp 37)], 42, "ref.go:31", #[ed_ 3], none⟩
def oz41_13_5 : Oper := ⟨some 39, Op.call { callee := Callee.builtin Go.Builtin.append, args := #[Operand.tmp 34, Operand.tmp 38], argTypes := #[42, 42] }, 42, "ref.go:31", #[ed_ 0, ed_ 4], none⟩
def oz41_13_6 : Oper := ⟨some 3, Op.assign (Operand.tmp 39), 42, "ref.go:31", #[ed_ 5, ec_ 5, ep_ 0, ep_ 1, ep_ 2, ep_ 3, ep_ 4, ep_ 5], none⟩
def Oz41_13 : Array Oper := List.toArray (oz41_13_0 :: oz41_13_1 :: oz41_13_2 :: oz41_13_3 :: oz41_13_4 :: oz41_13_5 :: oz41_13_6 :: [])
theorem gz41_13_0 : Oz41_13[0]? = some oz41_13_0 := rfl
theorem gz41_13_1 : Oz41_13[1]? = some oz41_13_1 := rfl
theorem gz41_13_2 : Oz41_13[2]? = some oz41_13_2 := rfl
theorem gz41_13_3 : Oz41_13[3]? = some oz41_13_3 := rfl
theorem gz41_13_4 : Oz41_13[4]? = some oz41_13_4 := rfl
theorem gz41_13_5 : Oz41_13[5]? = some oz41_13_5 := rfl
theorem gz41_13_6 : Oz41_13[6]? = some oz41_13_6 := rfl
def cz41_35 : Code := Code.region 13 Oz41_13 false
def oz41_6_0 : Oper := ⟨some 15, Op.move (Operand.tmp 3), 42, "ref.go:33", #[], none⟩
def oz41_6_1 : Oper := ⟨some 16, Op.move (Operand.tmp 0), 9, "ref.go:33", #[], none⟩
def oz41_6_2 : Oper := ⟨some 17, Op.move (Operand.tmp 4), 3, "ref.go:33", #[], none⟩
def oz41_6_3 : Oper := ⟨some 18, Op.index 9 (Operand.tmp 16) (Operand.tmp 17), 5, "ref.go:33", #[ed_ 1, ed_ 2], none⟩
def oz41_6_4 : Oper := ⟨some 19, Op.buildSlice 42 1 #[(0, Operand.tmp 18)], 42, "ref.go:33", #[ed_ 3], none⟩
def oz41_6_5 : Oper := ⟨some 20, Op.call { callee := Callee.builtin Go.Builtin.append, args := #[Operand.tmp 15, Operand.tmp 19], argTypes := #[42, 42] }, 42, "ref.go:33", #[ed_ 0, ed_ 4], none⟩
def oz41_6_6 : Oper := ⟨some 3, Op.assign (Operand.tmp 20), 42, "ref.go:33", #[ed_ 5, ec_ 5, ep_ 0, ep_ 1, ep_ 2, ep_ 3, ep_ 4, ep_ 5], none⟩
def Oz41_6 : Array Oper := List.toArray (oz41_6_0 :: oz41_6_1 :: oz41_6_2 :: oz41_6_3 :: oz41_6_4 :: oz41_6_5 :: oz41_6_6 :: [])
theorem gz41_6_0 : Oz41_6[0]? = some oz41_6_0 := rfl
theorem gz41_6_1 : Oz41_6[1]? = some oz41_6_1 := rfl
theorem gz41_6_2 : Oz41_6[2]? = some oz41_6_2 := rfl
theorem gz41_6_3 : Oz41_6[3]? = some oz41_6_3 := rfl
theorem gz41_6_4 : Oz41_6[4]? = some oz41_6_4 := rfl
theorem gz41_6_5 : Oz41_6[5]? = some oz41_6_5 := rfl
theorem gz41_6_6 : Oz41_6[6]? = some oz41_6_6 := rfl
def cz41_36 : Code := Code.region 6 Oz41_6 false
def cz41_34 : Code := Code.cond (Operand.tmp 31) cz41_35 cz41_36
def cz41_28 : Code := Code.seq cz41_29 cz41_34
def cz41_26 : Code := Code.cond (Operand.tmp 26) cz41_27 cz41_28
def cz41_24 : Code := Code.seq cz41_25 cz41_26
def cz41_22 : Code := Code.cond (Operand.tmp 21) cz41_23 cz41_24
def cz41_20 : Code := Code.seq cz41_21 cz41_22
def cz41_19 : Code := Code.block 2 cz41_20
def cz41_17 : Code := Code.seq cz41_18 cz41_19
def cz41_16 : Code := Code.block 1 cz41_17
def oz41_4_0 : Oper := ⟨some 10, Op.move (Operand.tmp 4), 3, "ref.go:24", #[], none⟩
def oz41_4_1 : Oper := ⟨some 11, Op.binOp Go.BinOp.add 3 (Operand.tmp 10) (Operand.const (Value.int IntKind.i64 1)) 3, 3, "ref.go:24", #[ed_ 0], none⟩
def oz41_4_2 : Oper := ⟨some 4, Op.assign (Operand.tmp 11), 3, "ref.go:24", #[ed_ 1, ep_ 0, ep_ 1], none⟩
def Oz41_4 : Array Oper := List.toArray (oz41_4_0 :: oz41_4_1 :: oz41_4_2 :: [])
theorem gz41_4_0 : Oz41_4[0]? = some oz41_4_0 := rfl
theorem gz41_4_1 : Oz41_4[1]? = some oz41_4_1 := rfl
theorem gz41_4_2 : Oz41_4[2]? = some oz41_4_2 := rfl
def cz41_37 : Code := Code.region 4 Oz41_4 false
def cz41_15 : Code := Code.seq cz41_16 cz41_37
def cz41_9 : Code := Code.seq cz41_10 cz41_15
def cz41_8 : Code := Code.loop cz41_9
def cz41_7 : Code := Code.block 0 cz41_8
def cz41_5 : Code := Code.seq cz41_6 cz41_7
def oz41_14_0 : Oper := ⟨some 40, Op.move (Operand.tmp 3), 42, "ref.go:36", #[], none⟩
def oz41_14_1 : Oper := ⟨some 41, Op.buildSlice 42 1 #[(0, Operand.const (Value.int IntKind.u8 39))], 42, "ref.go:36", #[], none⟩
def oz41_14_2 : Oper := ⟨some 42, Op.call { callee := Callee.builtin Go.Builtin.append, args := #[Operand.tmp 40, Operand.tmp 41], argTypes := #[42, 42] }, 42, "ref.go:36", #[ed_ 0, ed_ 1], none⟩
def oz41_14_3 : Oper := ⟨some 43, Op.convert 42 9 (Operand.tmp 42), 9, "ref.go:36", #[ed_ 2], none⟩
def oz41_14_4 : Oper := ⟨some 2, Op.assign (Operand.tmp 43), 9, "ref.go:36", #[ed_ 3, ec_ 2, ep_ 0, ep_ 1, ep_ 2, ep_ 3], none⟩
def Oz41_14 : Array Oper := List.toArray (oz41_14_0 :: oz41_14_1 :: oz41_14_2 :: oz41_14_3 :: oz41_14_4 :: [])
theorem gz41_14_0 : Oz41_14[0]? = some oz41_14_0 := rfl
theorem gz41_14_1 : Oz41_14[1]? = some oz41_14_1 := rfl
theorem gz41_14_2 : Oz41_14[2]? = some oz41_14_2 := rfl
theorem gz41_14_3 : Oz41_14[3]? = some oz41_14_3 := rfl
theorem gz41_14_4 : Oz41_14[4]? = some oz41_14_4 := rfl
def cz41_39 : Code := Code.region 14 Oz41_14 false
def cz41_38 : Code := Code.seq cz41_39 Code.ret
def cz41_4 : Code := Code.seq cz41_5 cz41_38
def cz41_2 : Code := Code.seq cz41_3 cz41_4
def cz41_0 : Code := Code.seq cz41_1 cz41_2
theorem bodyz41 : Tryz.f41.body = some cz41_0 := by kernel_rfl
theorem quo_room (L : List UInt8) : (39 :: (L.take L.length).flatMap escX).length + 1 = (quoX L).length := by rw [List.take_length]; unfold quoX; simp
theorem esc_room {L : List UInt8} {j : Nat} {c : UInt8} (h : L[j]? = some c) : (39 :: (L.take j).flatMap escX).length + (escX c).length ≤ (quoX L).length := by
  obtain ⟨hlt, e⟩ := List.getElem?_eq_some_iff.1 h
  have h1 : L.flatMap escX = (L.take j).flatMap escX ++ (L.drop j).flatMap escX := by rw [← List.flatMap_append, List.take_append_drop]
  unfold quoX
  rw [h1, List.drop_eq_getElem_cons hlt, List.flatMap_cons, e]
  simp; omega
set_option maxRecDepth 100000 in
set_option maxHeartbeats 4000000 in
theorem rquote_w {W : World} {L : List UInt8} {f0 : Act} {w0 : World} (R : FrS 44 f0) (h0 : f0.tmps[0]? = some (.string (str L))) (K1 : Keep (fun g => g < W.heap.size) W w0)  (HLN : Hid (L.length ≤ 4611686018427387904)) (HL : Hid ((quoX L).length ≤ 140737488355328)) : cz41_0.wp Tryz.prog (bodyPost Tryz.prog Tryz.f41 (fun e w' => e = .returned (.string (str (quoX L))) ∧ Keep (fun g => g < W.heap.size) W w')) f0 w0 := by
  refine wp_seq (x := cz41_1) (y := cz41_2) ?_
  change (Code.region 0 Oz41_0 false).wp _ _ _ _
  refine reg_in (l := [0]) rfl ?_
  have F : FE_ _ [] f0 f0 := ⟨R, Ag_.refl _⟩; clear R
  have Y : (execOp f0.eval oz41_0_0).run Tryz.prog w0 = .ok (.value (.string (⟨#[]⟩))) w0 := by unfold oz41_0_0; go_simp
  refine sv_ gz41_0_0 Y fun a101 e => ?_; clear Y
  have h2 := pt_ F e; replace F := pu_ F e; clear e
  refine st_end ?_
  replace h0 := F.of h0; have R := F.r; clear F
  change (cz41_2).wp _ _ _ _
  refine wp_seq (x := cz41_3) (y := cz41_4) ?_
  change (Code.region 1 Oz41_1 false).wp _ _ _ _
  refine reg_in (l := [0, 1]) rfl ?_
  have F : FE_ _ [] a101 a101 := ⟨R, Ag_.refl _⟩; clear R
  have Y : (execOp a101.eval oz41_1_0).run Tryz.prog w0 = .ok (.value (.slice (some ⟨w0.heap.size, 0, none⟩) 1 1)) (w0.alloc (.cells #[.int .u8 39] 5)) := by unfold oz41_1_0; go_simp
  have B102 := Blk.new w0 5 #[.int .u8 39]
  obtain ⟨w103, hw⟩ : ∃ x, x = w0.alloc (.cells #[.int .u8 39] 5) := ⟨_, rfl⟩; rw [← hw] at Y B102
  obtain ⟨b102, hb⟩ : ∃ x, x = w0.heap.size := ⟨_, rfl⟩; rw [← hb] at Y B102
  have LK1_b102 := lk_ hb K1; replace K1 := ka_ hw K1; clear hw hb
  refine sv_ gz41_1_0 Y fun a104 e => ?_; clear Y
  have h5 := pt_ F e; replace F := pu_ F e; clear e
  refine sv_ gz41_1_1 (ya_ rfl h5) fun a105 e => ?_
  clear h5; have h3 := pt_ F e; replace F := pu_ F e; clear e
  refine st_end ?_
  replace h0 := F.of h0; replace h2 := F.of h2; have R := F.r; clear F
  change (cz41_4).wp _ _ _ _
  refine wp_seq (x := cz41_5) (y := cz41_38) ?_
  refine wp_seq (x := cz41_6) (y := cz41_7) ?_
  change (Code.region 2 Oz41_2 false).wp _ _ _ _
  refine reg_in (l := [0]) rfl ?_
  have F : FE_ _ [] a105 a105 := ⟨R, Ag_.refl _⟩; clear R
  have Y : (execOp a105.eval oz41_2_0).run Tryz.prog w103 = .ok (.value (.int .i64 0)) w103 := by unfold oz41_2_0; go_simp
  refine sv_ gz41_2_0 Y fun a106 e => ?_; clear Y
  have h4 := pt_ F e; replace F := pu_ F e; clear e
  refine st_end ?_
  replace h0 := F.of h0; replace h2 := F.of h2; replace h3 := F.of h3; have R := F.r; clear F
  change (cz41_7).wp _ _ _ _
  refine wp_block (id := 0) (c := cz41_8) ?_
  have HB0 : Hid (RowB W.heap.size w103 (.slice (some ⟨b102, 0, none⟩) 1 1) (39 :: ((L.take 0).flatMap escX))) := Lib.hid (RowB.new B102 LK1_b102); clear B102
  refine wp_loop_ghost (c := cz41_9) (fun n fX wX => ∃ j : Nat, ∃ vv : Value, n = L.length - j ∧ FrS 44 fX ∧ fX.tmps[0]? = some (.string (str L)) ∧ fX.tmps[2]? = some (.string (⟨#[]⟩)) ∧ fX.tmps[3]? = some (vv) ∧ fX.tmps[4]? = some (.int .i64 (j : Int)) ∧ Keep (fun g => g < W.heap.size) W wX ∧ j ≤ L.length ∧ Hid (RowB W.heap.size wX vv (39 :: ((L.take j).flatMap escX)))) (L.length - 0) ⟨0, _, rfl, R, h0, h2, h3, h4, K1, Nat.zero_le _, HB0⟩ ?_
  clear R h0 h2 h3 h4 K1
  rintro n109 a107 w108 ⟨j, vv, rfl, R, h0, h2, h3, h4, K1, hj, HB⟩
  have KP := Keep.refl (fun g => g < w108.heap.size) w108
  refine wp_seq (x := cz41_10) (y := cz41_15) ?_
  refine wp_seq (x := cz41_11) (y := cz41_12) ?_
  change (Code.region 3 Oz41_3 false).wp _ _ _ _
  refine reg_in (l := [0, 1, 2, 3]) rfl ?_
  have F : FE_ _ [] a107 a107 := ⟨R, Ag_.refl _⟩; clear R
  refine sv_ gz41_3_0 (ym_ rfl (F.of h4)) fun a110 e => ?_
  have h6 := pt_ F e; replace F := pu_ F e; clear e
  refine sv_ gz41_3_1 (ym_ rfl (F.of h0)) fun a111 e => ?_
  have h7 := pt_ F e; replace F := pu_ F e; replace h6 := so_ e h6; clear e
  have Y : (execOp a111.eval oz41_3_2).run Tryz.prog w108 = .ok (.value (.int .i64 (L.length : Int))) w108 := by have e1 : ((str L).size : Int) = (L.length : Int) := (by rw [str_size]); unfold oz41_3_2; go_simp
  refine sv_ gz41_3_2 Y fun a112 e => ?_; clear Y
  have h8 := pt_ F e; replace F := pu_ F e; replace h6 := so_ e h6; replace h7 := so_ e h7; clear e
  obtain ⟨b113, hb113⟩ : ∃ x, (decide ((j : Int) < (L.length : Int))) = x := ⟨_, rfl⟩
  have Y : (execOp a112.eval oz41_3_3).run Tryz.prog w108 = .ok (.value (.bool b113)) w108 := by rw [← hb113]; unfold oz41_3_3; go_simp
  refine sv_ gz41_3_3 Y fun a114 e => ?_; clear Y
  have h9 := pt_ F e; replace F := pu_ F e; replace h6 := so_ e h6; replace h7 := so_ e h7; replace h8 := so_ e h8; clear e
  refine st_end ?_
  replace h0 := F.of h0; replace h2 := F.of h2; replace h3 := F.of h3; replace h4 := F.of h4; have R := F.r; clear F
  change (cz41_12).wp _ _ _ _
  cases b113 with
  | false =>
    have fb113 := hb113; clear hb113
    simp only [decide_eq_true_eq, decide_eq_false_iff_not, bne_iff_ne, bne_eq_false_iff_eq, beq_iff_eq, beq_eq_false_iff_ne, ne_eq, Bool.not_eq_true', Bool.not_eq_false', Bool.not_eq_eq_eq_not, Bool.not_true, Bool.not_false] at fb113
    refine wp_cond_false (x := Code.skip) (y := cz41_14) (eval_slot h9) ?_
    refine wp_exit ?_
    change (cz41_38).wp _ _ _ _
    refine wp_seq (x := cz41_39) (y := Code.ret) ?_
    change (Code.region 14 Oz41_14 false).wp _ _ _ _
    refine reg_in (l := [0, 1, 2, 3, 4]) rfl ?_
    have F : FE_ _ [] a114 a114 := ⟨R, Ag_.refl _⟩; clear R
    refine sv_ gz41_14_0 (ym_ rfl (F.of h3)) fun a115 e => ?_
    have h40 := pt_ F e; replace F := pu_ F e; clear e
    have Y : (execOp a115.eval oz41_14_1).run Tryz.prog w108 = .ok (.value (.slice (some ⟨w108.heap.size, 0, none⟩) 1 1)) (w108.alloc (.cells #[.int .u8 39] 5)) := by unfold oz41_14_1; go_simp
    have B116 := Blk.new w108 5 #[.int .u8 39]
    obtain ⟨w117, hw⟩ : ∃ x, x = w108.alloc (.cells #[.int .u8 39] 5) := ⟨_, rfl⟩; rw [← hw] at Y B116
    obtain ⟨b116, hb⟩ : ∃ x, x = w108.heap.size := ⟨_, rfl⟩; rw [← hb] at Y B116
    have LK1_b116 := lk_ hb K1; replace K1 := ka_ hw K1; have LKP_b116 := lk_ hb KP; replace KP := ka_ hw KP; clear hw hb
    refine sv_ gz41_14_1 Y fun a118 e => ?_; clear Y
    have h41 := pt_ F e; replace F := pu_ F e; replace h40 := so_ e h40; clear e
    obtain ⟨va, wa, hap, hrw, kap⟩ := (HB.out.on KP).add (ty := oz41_14_2.type) (cs := [39]) (n := 1) B116 rfl (by decide) (by have h := HL.out; have h2 := quo_room L; rw [show j = L.length by omega]; omega)
    have Y : (execOp a118.eval oz41_14_2).run Tryz.prog w117 = .ok (.value va) wa := by
      unfold oz41_14_2 at hap ⊢; unfold execOp; simp only [resolve, invoke, builtin, Sem.run_bind, Sem.run_pure, Result.andThen_ok, List.map_toArray, List.map_cons, List.map_nil, eval_slot h40, eval_slot h41]; rw [hap]; rfl
    clear B116
    replace K1 := K1.trans kap; clear hap kap KP; have KP := Keep.refl (fun g => g < wa.heap.size) wa
    have HQ : Hid (RowB W.heap.size wa va (quoX L)) := Lib.hid (by have h := hrw; rw [show j = L.length by omega, List.take_length] at h; exact h); clear hrw HB
    refine sv_ gz41_14_2 Y fun a119 e => ?_; clear Y
    clear h40 h41; have h42 := pt_ F e; replace F := pu_ F e; clear e
    have hcv := HQ.out.str
    have Y : (execOp a119.eval oz41_14_3).run Tryz.prog wa = .ok (.value (.string (str (quoX L)))) wa := by unfold oz41_14_3; unfold execOp; simp only [eval_slot h42]; rw [Sem.run_bind, hcv]; rfl
    clear hcv
    refine sv_ gz41_14_3 Y fun a120 e => ?_; clear Y
    clear h42; have h43 := pt_ F e; replace F := pu_ F e; clear e
    refine sv_ gz41_14_4 (ya_ rfl h43) fun a121 e => ?_
    clear h43 h2; have h2 := pt_ F e; replace F := pu_ F e; clear e
    refine st_end ?_
    replace h0 := F.of h0; replace h3 := F.of h3; replace h4 := F.of h4; replace h6 := F.of h6; replace h7 := F.of h7; replace h8 := F.of h8; replace h9 := F.of h9; have R := F.r; clear F
    change (Code.ret).wp _ _ _ _
    refine wp_ret ?_
    change bodyPost Tryz.prog Tryz.f41 (fun e w' => e = .returned (.string (str (quoX L))) ∧ Keep (fun g => g < W.heap.size) W w') .ret a121 wa
    refine ret_one rfl R h2 ?_
    exact ⟨rfl, K1⟩
  | true =>
    have fb113 := hb113; clear hb113
    simp only [decide_eq_true_eq, decide_eq_false_iff_not, bne_iff_ne, bne_eq_false_iff_eq, beq_iff_eq, beq_eq_false_iff_ne, ne_eq, Bool.not_eq_true', Bool.not_eq_false', Bool.not_eq_eq_eq_not, Bool.not_true, Bool.not_false] at fb113
    refine wp_cond_true (x := Code.skip) (y := cz41_14) (eval_slot h9) ?_
    refine wp_skip ?_
    change (cz41_15).wp _ _ _ _
    refine wp_seq (x := cz41_16) (y := cz41_37) ?_
    refine wp_block (id := 1) (c := cz41_17) ?_
    refine wp_seq (x := cz41_18) (y := cz41_19) ?_
    change (Code.region 5 Oz41_5 false).wp _ _ _ _
    refine reg_in (l := [0, 1, 2]) rfl ?_
    have F : FE_ _ [] a114 a114 := ⟨R, Ag_.refl _⟩; clear R
    refine sv_ gz41_5_0 (ym_ rfl (F.of h0)) fun a122 e => ?_
    have h12 := pt_ F e; replace F := pu_ F e; clear e
    refine sv_ gz41_5_1 (ym_ rfl (F.of h4)) fun a123 e => ?_
    have h13 := pt_ F e; replace F := pu_ F e; replace h12 := so_ e h12; clear e
    obtain ⟨c, hc⟩ : ∃ c, L[j]? = some c := ⟨_, List.getElem?_eq_getElem (by omega)⟩; have HC := Lib.hid hc; clear hc
    have Y : (execOp a123.eval oz41_5_2).run Tryz.prog w108 = .ok (.value (.int .u8 (c.toNat : Int))) w108 := by obtain ⟨hk, he⟩ := str_getAt2 HC.out; unfold oz41_5_2; go_simp
    refine sv_ gz41_5_2 Y fun a124 e => ?_; clear Y
    have h14 := pt_ F e; replace F := pu_ F e; replace h12 := so_ e h12; replace h13 := so_ e h13; clear e
    refine st_end ?_
    replace h0 := F.of h0; replace h2 := F.of h2; replace h3 := F.of h3; replace h4 := F.of h4; replace h6 := F.of h6; replace h7 := F.of h7; replace h8 := F.of h8; replace h9 := F.of h9; have R := F.r; clear F
    change (cz41_19).wp _ _ _ _
    refine wp_block (id := 2) (c := cz41_20) ?_
    refine wp_seq (x := cz41_21) (y := cz41_22) ?_
    change (Code.region 7 Oz41_7 false).wp _ _ _ _
    refine reg_in (l := [0, 1]) rfl ?_
    have F : FE_ _ [] a124 a124 := ⟨R, Ag_.refl _⟩; clear R
    obtain ⟨b125, hb125⟩ : ∃ x, ((((c.toNat : Int) : Int) == (9 : Int))) = x := ⟨_, rfl⟩
    have Y : (execOp a124.eval oz41_7_0).run Tryz.prog w108 = .ok (.value (.bool b125)) w108 := by have r14 := F.of h14; rw [← hb125]; unfold oz41_7_0; go_simp
    refine sv_ gz41_7_0 Y fun a126 e => ?_; clear Y
    have h22 := pt_ F e; replace F := pu_ F e; clear e
    refine sv_ gz41_7_1 (ya_ rfl h22) fun a127 e => ?_
    have h21 := pt_ F e; replace F := pu_ F e; replace h22 := so_ e h22; clear e
    refine st_end ?_
    replace h0 := F.of h0; replace h2 := F.of h2; replace h3 := F.of h3; replace h4 := F.of h4; replace h6 := F.of h6; replace h7 := F.of h7; replace h8 := F.of h8; replace h9 := F.of h9; replace h12 := F.of h12; replace h13 := F.of h13; replace h14 := F.of h14; have R := F.r; clear F
    change (cz41_22).wp _ _ _ _
    cases b125 with
    | false =>
      have fb125 := hb125; clear hb125
      simp only [decide_eq_true_eq, decide_eq_false_iff_not, bne_iff_ne, bne_eq_false_iff_eq, beq_iff_eq, beq_eq_false_iff_ne, ne_eq, Bool.not_eq_true', Bool.not_eq_false', Bool.not_eq_eq_eq_not, Bool.not_true, Bool.not_false] at fb125
      refine wp_cond_false (x := cz41_23) (y := cz41_24) (eval_slot h21) ?_
      refine wp_seq (x := cz41_25) (y := cz41_26) ?_
      change (Code.region 9 Oz41_9 false).wp _ _ _ _
      refine reg_in (l := [0, 1]) rfl ?_
      have F : FE_ _ [] a127 a127 := ⟨R, Ag_.refl _⟩; clear R
      obtain ⟨b128, hb128⟩ : ∃ x, ((((c.toNat : Int) : Int) == (10 : Int))) = x := ⟨_, rfl⟩
      have Y : (execOp a127.eval oz41_9_0).run Tryz.prog w108 = .ok (.value (.bool b128)) w108 := by have r14 := F.of h14; rw [← hb128]; unfold oz41_9_0; go_simp
      refine sv_ gz41_9_0 Y fun a129 e => ?_; clear Y
      have h27 := pt_ F e; replace F := pu_ F e; clear e
      refine sv_ gz41_9_1 (ya_ rfl h27) fun a130 e => ?_
      have h26 := pt_ F e; replace F := pu_ F e; replace h27 := so_ e h27; clear e
      refine st_end ?_
      replace h0 := F.of h0; replace h2 := F.of h2; replace h3 := F.of h3; replace h4 := F.of h4; replace h6 := F.of h6; replace h7 := F.of h7; replace h8 := F.of h8; replace h9 := F.of h9; replace h12 := F.of h12; replace h13 := F.of h13; replace h14 := F.of h14; replace h21 := F.of h21; replace h22 := F.of h22; have R := F.r; clear F
      change (cz41_26).wp _ _ _ _
      cases b128 with
      | false =>
        have fb128 := hb128; clear hb128
        simp only [decide_eq_true_eq, decide_eq_false_iff_not, bne_iff_ne, bne_eq_false_iff_eq, beq_iff_eq, beq_eq_false_iff_ne, ne_eq, Bool.not_eq_true', Bool.not_eq_false', Bool.not_eq_eq_eq_not, Bool.not_true, Bool.not_false] at fb128
        refine wp_cond_false (x := cz41_27) (y := cz41_28) (eval_slot h26) ?_
        refine wp_seq (x := cz41_29) (y := cz41_34) ?_
        refine wp_seq (x := cz41_30) (y := cz41_31) ?_
        change (Code.region 11 Oz41_11 false).wp _ _ _ _
        refine reg_in (l := [0, 1]) rfl ?_
        have F : FE_ _ [] a130 a130 := ⟨R, Ag_.refl _⟩; clear R
        obtain ⟨b131, hb131⟩ : ∃ x, ((((c.toNat : Int) : Int) == (39 : Int))) = x := ⟨_, rfl⟩
        have Y : (execOp a130.eval oz41_11_0).run Tryz.prog w108 = .ok (.value (.bool b131)) w108 := by have r14 := F.of h14; rw [← hb131]; unfold oz41_11_0; go_simp
        refine sv_ gz41_11_0 Y fun a132 e => ?_; clear Y
        have h32 := pt_ F e; replace F := pu_ F e; clear e
        refine sv_ gz41_11_1 (ya_ rfl h32) fun a133 e => ?_
        have h31 := pt_ F e; replace F := pu_ F e; replace h32 := so_ e h32; clear e
        refine st_end ?_
        replace h0 := F.of h0; replace h2 := F.of h2; replace h3 := F.of h3; replace h4 := F.of h4; replace h6 := F.of h6; replace h7 := F.of h7; replace h8 := F.of h8; replace h9 := F.of h9; replace h12 := F.of h12; replace h13 := F.of h13; replace h14 := F.of h14; replace h21 := F.of h21; replace h22 := F.of h22; replace h26 := F.of h26; replace h27 := F.of h27; have R := F.r; clear F
        change (cz41_31).wp _ _ _ _
        cases b131 with
        | false =>
          have fb131 := hb131; clear hb131
          simp only [decide_eq_true_eq, decide_eq_false_iff_not, bne_iff_ne, bne_eq_false_iff_eq, beq_iff_eq, beq_eq_false_iff_ne, ne_eq, Bool.not_eq_true', Bool.not_eq_false', Bool.not_eq_eq_eq_not, Bool.not_true, Bool.not_false] at fb131
          refine wp_cond_false (x := Code.skip) (y := cz41_33) (eval_slot h31) ?_
          change (Code.region 12 Oz41_12 false).wp _ _ _ _
          refine reg_in (l := [0, 1]) rfl ?_
          have F : FE_ _ [] a133 a133 := ⟨R, Ag_.refl _⟩; clear R
          obtain ⟨b134, hb134⟩ : ∃ x, ((((c.toNat : Int) : Int) == (92 : Int))) = x := ⟨_, rfl⟩
          have Y : (execOp a133.eval oz41_12_0).run Tryz.prog w108 = .ok (.value (.bool b134)) w108 := by have r14 := F.of h14; rw [← hb134]; unfold oz41_12_0; go_simp
          refine sv_ gz41_12_0 Y fun a135 e => ?_; clear Y
          have h33 := pt_ F e; replace F := pu_ F e; clear e
          refine sv_ gz41_12_1 (ya_ rfl h33) fun a136 e => ?_
          clear h31; have h31 := pt_ F e; replace F := pu_ F e; replace h33 := so_ e h33; clear e
          refine st_end ?_
          replace h0 := F.of h0; replace h2 := F.of h2; replace h3 := F.of h3; replace h4 := F.of h4; replace h6 := F.of h6; replace h7 := F.of h7; replace h8 := F.of h8; replace h9 := F.of h9; replace h12 := F.of h12; replace h13 := F.of h13; replace h14 := F.of h14; replace h21 := F.of h21; replace h22 := F.of h22; replace h26 := F.of h26; replace h27 := F.of h27; replace h32 := F.of h32; have R := F.r; clear F
          change (cz41_34).wp _ _ _ _
          cases b134 with
          | false =>
            have fb134 := hb134; clear hb134
            simp only [decide_eq_true_eq, decide_eq_false_iff_not, bne_iff_ne, bne_eq_false_iff_eq, beq_iff_eq, beq_eq_false_iff_ne, ne_eq, Bool.not_eq_true', Bool.not_eq_false', Bool.not_eq_eq_eq_not, Bool.not_true, Bool.not_false] at fb134
            refine wp_cond_false (x := cz41_35) (y := cz41_36) (eval_slot h31) ?_
            change (Code.region 6 Oz41_6 false).wp _ _ _ _
            refine reg_in (l := [0, 1, 2, 3, 4, 5, 6]) rfl ?_
            have F : FE_ _ [] a136 a136 := ⟨R, Ag_.refl _⟩; clear R
            refine sv_ gz41_6_0 (ym_ rfl (F.of h3)) fun a137 e => ?_
            have h15 := pt_ F e; replace F := pu_ F e; clear e
            refine sv_ gz41_6_1 (ym_ rfl (F.of h0)) fun a138 e => ?_
            have h16 := pt_ F e; replace F := pu_ F e; replace h15 := so_ e h15; clear e
            refine sv_ gz41_6_2 (ym_ rfl (F.of h4)) fun a139 e => ?_
            have h17 := pt_ F e; replace F := pu_ F e; replace h15 := so_ e h15; replace h16 := so_ e h16; clear e
            have Y : (execOp a139.eval oz41_6_3).run Tryz.prog w108 = .ok (.value (.int .u8 (c.toNat : Int))) w108 := by obtain ⟨hk, he⟩ := str_getAt2 HC.out; unfold oz41_6_3; go_simp
            refine sv_ gz41_6_3 Y fun a140 e => ?_; clear Y
            have h18 := pt_ F e; replace F := pu_ F e; replace h15 := so_ e h15; replace h16 := so_ e h16; replace h17 := so_ e h17; clear e
            have Y : (execOp a140.eval oz41_6_4).run Tryz.prog w108 = .ok (.value (.slice (some ⟨w108.heap.size, 0, none⟩) 1 1)) (w108.alloc (.cells #[.int .u8 (c.toNat : Int)] 5)) := by unfold oz41_6_4; go_simp
            have B141 := Blk.new w108 5 #[.int .u8 (c.toNat : Int)]
            obtain ⟨w142, hw⟩ : ∃ x, x = w108.alloc (.cells #[.int .u8 (c.toNat : Int)] 5) := ⟨_, rfl⟩; rw [← hw] at Y B141
            obtain ⟨b141, hb⟩ : ∃ x, x = w108.heap.size := ⟨_, rfl⟩; rw [← hb] at Y B141
            have LK1_b141 := lk_ hb K1; replace K1 := ka_ hw K1; have LKP_b141 := lk_ hb KP; replace KP := ka_ hw KP; clear hw hb
            refine sv_ gz41_6_4 Y fun a143 e => ?_; clear Y
            have h19 := pt_ F e; replace F := pu_ F e; replace h15 := so_ e h15; replace h16 := so_ e h16; replace h17 := so_ e h17; replace h18 := so_ e h18; clear e
            obtain ⟨va, wa, hap, hrw, kap⟩ := (HB.out.on KP).add (ty := oz41_6_5.type) (cs := [c]) (n := 1) B141 rfl (by decide) (by have h := HL.out; have h2 := esc_room HC.out; have h3 : 1 = (escX c).length := (by rw [esc_no (by omega) (by omega) (by omega) (by omega)]; rfl); omega)
            have Y : (execOp a143.eval oz41_6_5).run Tryz.prog w142 = .ok (.value va) wa := by
              unfold oz41_6_5 at hap ⊢; unfold execOp; simp only [resolve, invoke, builtin, Sem.run_bind, Sem.run_pure, Result.andThen_ok, List.map_toArray, List.map_cons, List.map_nil, eval_slot h15, eval_slot h19]; rw [hap]; rfl
            clear B141
            replace K1 := K1.trans kap; clear hap kap KP; have KP := Keep.refl (fun g => g < wa.heap.size) wa
            clear HB; have HB : Hid (RowB W.heap.size wa va (39 :: ((L.take (j + 1)).flatMap escX))) := Lib.hid (by have h := hrw; rw [take_esc HC.out, esc_no (by omega) (by omega) (by omega) (by omega)]; exact h); clear hrw
            refine sv_ gz41_6_5 Y fun a144 e => ?_; clear Y
            have h20 := pt_ F e; replace F := pu_ F e; replace h15 := so_ e h15; replace h16 := so_ e h16; replace h17 := so_ e h17; replace h18 := so_ e h18; replace h19 := so_ e h19; clear e
            refine sv_ gz41_6_6 (ya_ rfl h20) fun a145 e => ?_
            clear h3; have h3 := pt_ F e; replace F := pu_ F e; replace h15 := so_ e h15; replace h16 := so_ e h16; replace h17 := so_ e h17; replace h18 := so_ e h18; replace h19 := so_ e h19; replace h20 := so_ e h20; clear e
            refine st_end ?_
            replace h0 := F.of h0; replace h2 := F.of h2; replace h4 := F.of h4; replace h6 := F.of h6; replace h7 := F.of h7; replace h8 := F.of h8; replace h9 := F.of h9; replace h12 := F.of h12; replace h13 := F.of h13; replace h14 := F.of h14; replace h21 := F.of h21; replace h22 := F.of h22; replace h26 := F.of h26; replace h27 := F.of h27; replace h31 := F.of h31; replace h32 := F.of h32; replace h33 := F.of h33; have R := F.r; clear F
            change (cz41_37).wp _ _ _ _
            change (Code.region 4 Oz41_4 false).wp _ _ _ _
            refine reg_in (l := [0, 1, 2]) rfl ?_
            have F : FE_ _ [] a145 a145 := ⟨R, Ag_.refl _⟩; clear R
            refine sv_ gz41_4_0 (ym_ rfl (F.of h4)) fun a146 e => ?_
            have h10 := pt_ F e; replace F := pu_ F e; clear e
            have Y : (execOp a146.eval oz41_4_1).run Tryz.prog wa = .ok (.value (.int .i64 ((j : Int) + 1))) wa := by have hwj : IntKind.i64.wrap ((j : Int) + 1) = (j : Int) + 1 := (by rw [IntKind.wrap_i64]; have := HLN.out; omega); unfold oz41_4_1; go_simp
            refine sv_ gz41_4_1 Y fun a147 e => ?_; clear Y
            have h11 := pt_ F e; replace F := pu_ F e; replace h10 := so_ e h10; clear e
            refine sv_ gz41_4_2 (ya_ rfl h11) fun a148 e => ?_
            clear h4; have h4 := pt_ F e; replace F := pu_ F e; replace h10 := so_ e h10; replace h11 := so_ e h11; clear e
            refine st_end ?_
            replace h0 := F.of h0; replace h2 := F.of h2; replace h3 := F.of h3; replace h6 := F.of h6; replace h7 := F.of h7; replace h8 := F.of h8; replace h9 := F.of h9; replace h12 := F.of h12; replace h13 := F.of h13; replace h14 := F.of h14; replace h15 := F.of h15; replace h16 := F.of h16; replace h17 := F.of h17; replace h18 := F.of h18; replace h19 := F.of h19; replace h20 := F.of h20; replace h21 := F.of h21; replace h22 := F.of h22; replace h26 := F.of h26; replace h27 := F.of h27; replace h31 := F.of h31; replace h32 := F.of h32; replace h33 := F.of h33; have R := F.r; clear F
            clear KP
            exact ⟨_, by omega, j + 1, va, rfl, R, h0, h2, h3, h4, K1, (by omega), HB⟩
          | true =>
            have fb134 := hb134; clear hb134
            simp only [decide_eq_true_eq, decide_eq_false_iff_not, bne_iff_ne, bne_eq_false_iff_eq, beq_iff_eq, beq_eq_false_iff_ne, ne_eq, Bool.not_eq_true', Bool.not_eq_false', Bool.not_eq_eq_eq_not, Bool.not_true, Bool.not_false] at fb134
            refine wp_cond_true (x := cz41_35) (y := cz41_36) (eval_slot h31) ?_
            change (Code.region 13 Oz41_13 false).wp _ _ _ _
            refine reg_in (l := [0, 1, 2, 3, 4, 5, 6]) rfl ?_
            have F : FE_ _ [] a136 a136 := ⟨R, Ag_.refl _⟩; clear R
            refine sv_ gz41_13_0 (ym_ rfl (F.of h3)) fun a149 e => ?_
            have h34 := pt_ F e; replace F := pu_ F e; clear e
            refine sv_ gz41_13_1 (ym_ rfl (F.of h0)) fun a150 e => ?_
            have h35 := pt_ F e; replace F := pu_ F e; replace h34 := so_ e h34; clear e
            refine sv_ gz41_13_2 (ym_ rfl (F.of h4)) fun a151 e => ?_
            have h36 := pt_ F e; replace F := pu_ F e; replace h34 := so_ e h34; replace h35 := so_ e h35; clear e
            have Y : (execOp a151.eval oz41_13_3).run Tryz.prog w108 = .ok (.value (.int .u8 (c.toNat : Int))) w108 := by obtain ⟨hk, he⟩ := str_getAt2 HC.out; unfold oz41_13_3; go_simp
            refine sv_ gz41_13_3 Y fun a152 e => ?_; clear Y
            have h37 := pt_ F e; replace F := pu_ F e; replace h34 := so_ e h34; replace h35 := so_ e h35; replace h36 := so_ e h36; clear e
            have Y : (execOp a152.eval oz41_13_4).run Tryz.prog w108 = .ok (.value (.slice (some ⟨w108.heap.size, 0, none⟩) 2 2)) (w108.alloc (.cells #[.int .u8 92, .int .u8 (c.toNat : Int)] 5)) := by unfold oz41_13_4; go_simp
            have B153 := Blk.new w108 5 #[.int .u8 92, .int .u8 (c.toNat : Int)]
            obtain ⟨w154, hw⟩ : ∃ x, x = w108.alloc (.cells #[.int .u8 92, .int .u8 (c.toNat : Int)] 5) := ⟨_, rfl⟩; rw [← hw] at Y B153
            obtain ⟨b153, hb⟩ : ∃ x, x = w108.heap.size := ⟨_, rfl⟩; rw [← hb] at Y B153
            have LK1_b153 := lk_ hb K1; replace K1 := ka_ hw K1; have LKP_b153 := lk_ hb KP; replace KP := ka_ hw KP; clear hw hb
            refine sv_ gz41_13_4 Y fun a155 e => ?_; clear Y
            have h38 := pt_ F e; replace F := pu_ F e; replace h34 := so_ e h34; replace h35 := so_ e h35; replace h36 := so_ e h36; replace h37 := so_ e h37; clear e
            obtain ⟨va, wa, hap, hrw, kap⟩ := (HB.out.on KP).add (ty := oz41_13_5.type) (cs := [92, c]) (n := 2) B153 rfl (by decide) (by have h := HL.out; have h2 := esc_room HC.out; have h3 : 2 = (escX c).length := (by rw [esc_of2 (by omega)]; rfl); omega)
            have Y : (execOp a155.eval oz41_13_5).run Tryz.prog w154 = .ok (.value va) wa := by
              unfold oz41_13_5 at hap ⊢; unfold execOp; simp only [resolve, invoke, builtin, Sem.run_bind, Sem.run_pure, Result.andThen_ok, List.map_toArray, List.map_cons, List.map_nil, eval_slot h34, eval_slot h38]; rw [hap]; rfl
            clear B153
            replace K1 := K1.trans kap; clear hap kap KP; have KP := Keep.refl (fun g => g < wa.heap.size) wa
            clear HB; have HB : Hid (RowB W.heap.size wa va (39 :: ((L.take (j + 1)).flatMap escX))) := Lib.hid (by have h := hrw; rw [take_esc HC.out, esc_of2 (by omega)]; exact h); clear hrw
            refine sv_ gz41_13_5 Y fun a156 e => ?_; clear Y
            have h39 := pt_ F e; replace F := pu_ F e; replace h34 := so_ e h34; replace h35 := so_ e h35; replace h36 := so_ e h36; replace h37 := so_ e h37; replace h38 := so_ e h38; clear e
            refine sv_ gz41_13_6 (ya_ rfl h39) fun a157 e => ?_
            clear h3; have h3 := pt_ F e; replace F := pu_ F e; replace h34 := so_ e h34; replace h35 := so_ e h35; replace h36 := so_ e h36; replace h37 := so_ e h37; replace h38 := so_ e h38; replace h39 := so_ e h39; clear e
            refine st_end ?_
            replace h0 := F.of h0; replace h2 := F.of h2; replace h4 := F.of h4; replace h6 := F.of h6; replace h7 := F.of h7; replace h8 := F.of h8; replace h9 := F.of h9; replace h12 := F.of h12; replace h13 := F.of h13; replace h14 := F.of h14; replace h21 := F.of h21; replace h22 := F.of h22; replace h26 := F.of h26; replace h27 := F.of h27; replace h31 := F.of h31; replace h32 := F.of h32; replace h33 := F.of h33; have R := F.r; clear F
            change (cz41_37).wp _ _ _ _
            change (Code.region 4 Oz41_4 false).wp _ _ _ _
            refine reg_in (l := [0, 1, 2]) rfl ?_
            have F : FE_ _ [] a157 a157 := ⟨R, Ag_.refl _⟩; clear R
            refine sv_ gz41_4_0 (ym_ rfl (F.of h4)) fun a158 e => ?_
            have h10 := pt_ F e; replace F := pu_ F e; clear e
            have Y : (execOp a158.eval oz41_4_1).run Tryz.prog wa = .ok (.value (.int .i64 ((j : Int) + 1))) wa := by have hwj : IntKind.i64.wrap ((j : Int) + 1) = (j : Int) + 1 := (by rw [IntKind.wrap_i64]; have := HLN.out; omega); unfold oz41_4_1; go_simp
            refine sv_ gz41_4_1 Y fun a159 e => ?_; clear Y
            have h11 := pt_ F e; replace F := pu_ F e; replace h10 := so_ e h10; clear e
            refine sv_ gz41_4_2 (ya_ rfl h11) fun a160 e => ?_
            clear h4; have h4 := pt_ F e; replace F := pu_ F e; replace h10 := so_ e h10; replace h11 := so_ e h11; clear e
            refine st_end ?_
            replace h0 := F.of h0; replace h2 := F.of h2; replace h3 := F.of h3; replace h6 := F.of h6; replace h7 := F.of h7; replace h8 := F.of h8; replace h9 := F.of h9; replace h12 := F.of h12; replace h13 := F.of h13; replace h14 := F.of h14; replace h21 := F.of h21; replace h22 := F.of h22; replace h26 := F.of h26; replace h27 := F.of h27; replace h31 := F.of h31; replace h32 := F.of h32; replace h33 := F.of h33; replace h34 := F.of h34; replace h35 := F.of h35; replace h36 := F.of h36; replace h37 := F.of h37; replace h38 := F.of h38; replace h39 := F.of h39; have R := F.r; clear F
            clear KP
            exact ⟨_, by omega, j + 1, va, rfl, R, h0, h2, h3, h4, K1, (by omega), HB⟩
        | true =>
          have fb131 := hb131; clear hb131
          simp only [decide_eq_true_eq, decide_eq_false_iff_not, bne_iff_ne, bne_eq_false_iff_eq, beq_iff_eq, beq_eq_false_iff_ne, ne_eq, Bool.not_eq_true', Bool.not_eq_false', Bool.not_eq_eq_eq_not, Bool.not_true, Bool.not_false] at fb131
          refine wp_cond_true (x := Code.skip) (y := cz41_33) (eval_slot h31) ?_
          refine wp_skip ?_
          change (cz41_34).wp _ _ _ _
          refine wp_cond_true (x := cz41_35) (y := cz41_36) (eval_slot h31) ?_
          change (Code.region 13 Oz41_13 false).wp _ _ _ _
          refine reg_in (l := [0, 1, 2, 3, 4, 5, 6]) rfl ?_
          have F : FE_ _ [] a133 a133 := ⟨R, Ag_.refl _⟩; clear R
          refine sv_ gz41_13_0 (ym_ rfl (F.of h3)) fun a161 e => ?_
          have h34 := pt_ F e; replace F := pu_ F e; clear e
          refine sv_ gz41_13_1 (ym_ rfl (F.of h0)) fun a162 e => ?_
          have h35 := pt_ F e; replace F := pu_ F e; replace h34 := so_ e h34; clear e
          refine sv_ gz41_13_2 (ym_ rfl (F.of h4)) fun a163 e => ?_
          have h36 := pt_ F e; replace F := pu_ F e; replace h34 := so_ e h34; replace h35 := so_ e h35; clear e
          have Y : (execOp a163.eval oz41_13_3).run Tryz.prog w108 = .ok (.value (.int .u8 (c.toNat : Int))) w108 := by obtain ⟨hk, he⟩ := str_getAt2 HC.out; unfold oz41_13_3; go_simp
          refine sv_ gz41_13_3 Y fun a164 e => ?_; clear Y
          have h37 := pt_ F e; replace F := pu_ F e; replace h34 := so_ e h34; replace h35 := so_ e h35; replace h36 := so_ e h36; clear e
          have Y : (execOp a164.eval oz41_13_4).run Tryz.prog w108 = .ok (.value (.slice (some ⟨w108.heap.size, 0, none⟩) 2 2)) (w108.alloc (.cells #[.int .u8 92, .int .u8 (c.toNat : Int)] 5)) := by unfold oz41_13_4; go_simp
          have B165 := Blk.new w108 5 #[.int .u8 92, .int .u8 (c.toNat : Int)]
          obtain ⟨w166, hw⟩ : ∃ x, x = w108.alloc (.cells #[.int .u8 92, .int .u8 (c.toNat : Int)] 5) := ⟨_, rfl⟩; rw [← hw] at Y B165
          obtain ⟨b165, hb⟩ : ∃ x, x = w108.heap.size := ⟨_, rfl⟩; rw [← hb] at Y B165
          have LK1_b165 := lk_ hb K1; replace K1 := ka_ hw K1; have LKP_b165 := lk_ hb KP; replace KP := ka_ hw KP; clear hw hb
          refine sv_ gz41_13_4 Y fun a167 e => ?_; clear Y
          have h38 := pt_ F e; replace F := pu_ F e; replace h34 := so_ e h34; replace h35 := so_ e h35; replace h36 := so_ e h36; replace h37 := so_ e h37; clear e
          obtain ⟨va, wa, hap, hrw, kap⟩ := (HB.out.on KP).add (ty := oz41_13_5.type) (cs := [92, c]) (n := 2) B165 rfl (by decide) (by have h := HL.out; have h2 := esc_room HC.out; have h3 : 2 = (escX c).length := (by rw [esc_of2 (by omega)]; rfl); omega)
          have Y : (execOp a167.eval oz41_13_5).run Tryz.prog w166 = .ok (.value va) wa := by
            unfold oz41_13_5 at hap ⊢; unfold execOp; simp only [resolve, invoke, builtin, Sem.run_bind, Sem.run_pure, Result.andThen_ok, List.map_toArray, List.map_cons, List.map_nil, eval_slot h34, eval_slot h38]; rw [hap]; rfl
          clear B165
          replace K1 := K1.trans kap; clear hap kap KP; have KP := Keep.refl (fun g => g < wa.heap.size) wa
          clear HB; have HB : Hid (RowB W.heap.size wa va (39 :: ((L.take (j + 1)).flatMap escX))) := Lib.hid (by have h := hrw; rw [take_esc HC.out, esc_of2 (by omega)]; exact h); clear hrw
          refine sv_ gz41_13_5 Y fun a168 e => ?_; clear Y
          have h39 := pt_ F e; replace F := pu_ F e; replace h34 := so_ e h34; replace h35 := so_ e h35; replace h36 := so_ e h36; replace h37 := so_ e h37; replace h38 := so_ e h38; clear e
          refine sv_ gz41_13_6 (ya_ rfl h39) fun a169 e => ?_
          clear h3; have h3 := pt_ F e; replace F := pu_ F e; replace h34 := so_ e h34; replace h35 := so_ e h35; replace h36 := so_ e h36; replace h37 := so_ e h37; replace h38 := so_ e h38; replace h39 := so_ e h39; clear e
          refine st_end ?_
          replace h0 := F.of h0; replace h2 := F.of h2; replace h4 := F.of h4; replace h6 := F.of h6; replace h7 := F.of h7; replace h8 := F.of h8; replace h9 := F.of h9; replace h12 := F.of h12; replace h13 := F.of h13; replace h14 := F.of h14; replace h21 := F.of h21; replace h22 := F.of h22; replace h26 := F.of h26; replace h27 := F.of h27; replace h31 := F.of h31; replace h32 := F.of h32; have R := F.r; clear F
          change (cz41_37).wp _ _ _ _
          change (Code.region 4 Oz41_4 false).wp _ _ _ _
          refine reg_in (l := [0, 1, 2]) rfl ?_
          have F : FE_ _ [] a169 a169 := ⟨R, Ag_.refl _⟩; clear R
          refine sv_ gz41_4_0 (ym_ rfl (F.of h4)) fun a170 e => ?_
          have h10 := pt_ F e; replace F := pu_ F e; clear e
          have Y : (execOp a170.eval oz41_4_1).run Tryz.prog wa = .ok (.value (.int .i64 ((j : Int) + 1))) wa := by have hwj : IntKind.i64.wrap ((j : Int) + 1) = (j : Int) + 1 := (by rw [IntKind.wrap_i64]; have := HLN.out; omega); unfold oz41_4_1; go_simp
          refine sv_ gz41_4_1 Y fun a171 e => ?_; clear Y
          have h11 := pt_ F e; replace F := pu_ F e; replace h10 := so_ e h10; clear e
          refine sv_ gz41_4_2 (ya_ rfl h11) fun a172 e => ?_
          clear h4; have h4 := pt_ F e; replace F := pu_ F e; replace h10 := so_ e h10; replace h11 := so_ e h11; clear e
          refine st_end ?_
          replace h0 := F.of h0; replace h2 := F.of h2; replace h3 := F.of h3; replace h6 := F.of h6; replace h7 := F.of h7; replace h8 := F.of h8; replace h9 := F.of h9; replace h12 := F.of h12; replace h13 := F.of h13; replace h14 := F.of h14; replace h21 := F.of h21; replace h22 := F.of h22; replace h26 := F.of h26; replace h27 := F.of h27; replace h31 := F.of h31; replace h32 := F.of h32; replace h34 := F.of h34; replace h35 := F.of h35; replace h36 := F.of h36; replace h37 := F.of h37; replace h38 := F.of h38; replace h39 := F.of h39; have R := F.r; clear F
          clear KP
          exact ⟨_, by omega, j + 1, va, rfl, R, h0, h2, h3, h4, K1, (by omega), HB⟩
      | true =>
        have fb128 := hb128; clear hb128
        simp only [decide_eq_true_eq, decide_eq_false_iff_not, bne_iff_ne, bne_eq_false_iff_eq, beq_iff_eq, beq_eq_false_iff_ne, ne_eq, Bool.not_eq_true', Bool.not_eq_false', Bool.not_eq_eq_eq_not, Bool.not_true, Bool.not_false] at fb128
        refine wp_cond_true (x := cz41_27) (y := cz41_28) (eval_slot h26) ?_
        change (Code.region 10 Oz41_10 false).wp _ _ _ _
        refine reg_in (l := [0, 1, 2, 3]) rfl ?_
        have F : FE_ _ [] a130 a130 := ⟨R, Ag_.refl _⟩; clear R
        refine sv_ gz41_10_0 (ym_ rfl (F.of h3)) fun a173 e => ?_
        have h28 := pt_ F e; replace F := pu_ F e; clear e
        have Y : (execOp a173.eval oz41_10_1).run Tryz.prog w108 = .ok (.value (.slice (some ⟨w108.heap.size, 0, none⟩) 2 2)) (w108.alloc (.cells #[.int .u8 92, .int .u8 110] 5)) := by unfold oz41_10_1; go_simp
        have B174 := Blk.new w108 5 #[.int .u8 92, .int .u8 110]
        obtain ⟨w175, hw⟩ : ∃ x, x = w108.alloc (.cells #[.int .u8 92, .int .u8 110] 5) := ⟨_, rfl⟩; rw [← hw] at Y B174
        obtain ⟨b174, hb⟩ : ∃ x, x = w108.heap.size := ⟨_, rfl⟩; rw [← hb] at Y B174
        have LK1_b174 := lk_ hb K1; replace K1 := ka_ hw K1; have LKP_b174 := lk_ hb KP; replace KP := ka_ hw KP; clear hw hb
        refine sv_ gz41_10_1 Y fun a176 e => ?_; clear Y
        have h29 := pt_ F e; replace F := pu_ F e; replace h28 := so_ e h28; clear e
        obtain ⟨va, wa, hap, hrw, kap⟩ := (HB.out.on KP).add (ty := oz41_10_2.type) (cs := [92, 110]) (n := 2) B174 rfl (by decide) (by have h := HL.out; have h2 := esc_room HC.out; have h3 : 2 = (escX c).length := (by rw [esc_of10 (by omega)]; rfl); omega)
        have Y : (execOp a176.eval oz41_10_2).run Tryz.prog w175 = .ok (.value va) wa := by
          unfold oz41_10_2 at hap ⊢; unfold execOp; simp only [resolve, invoke, builtin, Sem.run_bind, Sem.run_pure, Result.andThen_ok, List.map_toArray, List.map_cons, List.map_nil, eval_slot h28, eval_slot h29]; rw [hap]; rfl
        clear B174
        replace K1 := K1.trans kap; clear hap kap KP; have KP := Keep.refl (fun g => g < wa.heap.size) wa
        clear HB; have HB : Hid (RowB W.heap.size wa va (39 :: ((L.take (j + 1)).flatMap escX))) := Lib.hid (by have h := hrw; rw [take_esc HC.out, esc_of10 (by omega)]; exact h); clear hrw
        refine sv_ gz41_10_2 Y fun a177 e => ?_; clear Y
        have h30 := pt_ F e; replace F := pu_ F e; replace h28 := so_ e h28; replace h29 := so_ e h29; clear e
        refine sv_ gz41_10_3 (ya_ rfl h30) fun a178 e => ?_
        clear h3; have h3 := pt_ F e; replace F := pu_ F e; replace h28 := so_ e h28; replace h29 := so_ e h29; replace h30 := so_ e h30; clear e
        refine st_end ?_
        replace h0 := F.of h0; replace h2 := F.of h2; replace h4 := F.of h4; replace h6 := F.of h6; replace h7 := F.of h7; replace h8 := F.of h8; replace h9 := F.of h9; replace h12 := F.of h12; replace h13 := F.of h13; replace h14 := F.of h14; replace h21 := F.of h21; replace h22 := F.of h22; replace h26 := F.of h26; replace h27 := F.of h27; have R := F.r; clear F
        change (cz41_37).wp _ _ _ _
        change (Code.region 4 Oz41_4 false).wp _ _ _ _
        refine reg_in (l := [0, 1, 2]) rfl ?_
        have F : FE_ _ [] a178 a178 := ⟨R, Ag_.refl _⟩; clear R
        refine sv_ gz41_4_0 (ym_ rfl (F.of h4)) fun a179 e => ?_
        have h10 := pt_ F e; replace F := pu_ F e; clear e
        have Y : (execOp a179.eval oz41_4_1).run Tryz.prog wa = .ok (.value (.int .i64 ((j : Int) + 1))) wa := by have hwj : IntKind.i64.wrap ((j : Int) + 1) = (j : Int) + 1 := (by rw [IntKind.wrap_i64]; have := HLN.out; omega); unfold oz41_4_1; go_simp
        refine sv_ gz41_4_1 Y fun a180 e => ?_; clear Y
        have h11 := pt_ F e; replace F := pu_ F e; replace h10 := so_ e h10; clear e
        refine sv_ gz41_4_2 (ya_ rfl h11) fun a181 e => ?_
        clear h4; have h4 := pt_ F e; replace F := pu_ F e; replace h10 := so_ e h10; replace h11 := so_ e h11; clear e
        refine st_end ?_
        replace h0 := F.of h0; replace h2 := F.of h2; replace h3 := F.of h3; replace h6 := F.of h6; replace h7 := F.of h7; replace h8 := F.of h8; replace h9 := F.of h9; replace h12 := F.of h12; replace h13 := F.of h13; replace h14 := F.of h14; replace h21 := F.of h21; replace h22 := F.of h22; replace h26 := F.of h26; replace h27 := F.of h27; replace h28 := F.of h28; replace h29 := F.of h29; replace h30 := F.of h30; have R := F.r; clear F
        clear KP
        exact ⟨_, by omega, j + 1, va, rfl, R, h0, h2, h3, h4, K1, (by omega), HB⟩
    | true =>
      have fb125 := hb125; clear hb125
      simp only [decide_eq_true_eq, decide_eq_false_iff_not, bne_iff_ne, bne_eq_false_iff_eq, beq_iff_eq, beq_eq_false_iff_ne, ne_eq, Bool.not_eq_true', Bool.not_eq_false', Bool.not_eq_eq_eq_not, Bool.not_true, Bool.not_false] at fb125
      refine wp_cond_true (x := cz41_23) (y := cz41_24) (eval_slot h21) ?_
      change (Code.region 8 Oz41_8 false).wp _ _ _ _
      refine reg_in (l := [0, 1, 2, 3]) rfl ?_
      have F : FE_ _ [] a127 a127 := ⟨R, Ag_.refl _⟩; clear R
      refine sv_ gz41_8_0 (ym_ rfl (F.of h3)) fun a182 e => ?_
      have h23 := pt_ F e; replace F := pu_ F e; clear e
      have Y : (execOp a182.eval oz41_8_1).run Tryz.prog w108 = .ok (.value (.slice (some ⟨w108.heap.size, 0, none⟩) 2 2)) (w108.alloc (.cells #[.int .u8 92, .int .u8 116] 5)) := by unfold oz41_8_1; go_simp
      have B183 := Blk.new w108 5 #[.int .u8 92, .int .u8 116]
      obtain ⟨w184, hw⟩ : ∃ x, x = w108.alloc (.cells #[.int .u8 92, .int .u8 116] 5) := ⟨_, rfl⟩; rw [← hw] at Y B183
      obtain ⟨b183, hb⟩ : ∃ x, x = w108.heap.size := ⟨_, rfl⟩; rw [← hb] at Y B183
      have LK1_b183 := lk_ hb K1; replace K1 := ka_ hw K1; have LKP_b183 := lk_ hb KP; replace KP := ka_ hw KP; clear hw hb
      refine sv_ gz41_8_1 Y fun a185 e => ?_; clear Y
      have h24 := pt_ F e; replace F := pu_ F e; replace h23 := so_ e h23; clear e
      obtain ⟨va, wa, hap, hrw, kap⟩ := (HB.out.on KP).add (ty := oz41_8_2.type) (cs := [92, 116]) (n := 2) B183 rfl (by decide) (by have h := HL.out; have h2 := esc_room HC.out; have h3 : 2 = (escX c).length := (by rw [esc_of (by omega)]; rfl); omega)
      have Y : (execOp a185.eval oz41_8_2).run Tryz.prog w184 = .ok (.value va) wa := by
        unfold oz41_8_2 at hap ⊢; unfold execOp; simp only [resolve, invoke, builtin, Sem.run_bind, Sem.run_pure, Result.andThen_ok, List.map_toArray, List.map_cons, List.map_nil, eval_slot h23, eval_slot h24]; rw [hap]; rfl
      clear B183
      replace K1 := K1.trans kap; clear hap kap KP; have KP := Keep.refl (fun g => g < wa.heap.size) wa
      clear HB; have HB : Hid (RowB W.heap.size wa va (39 :: ((L.take (j + 1)).flatMap escX))) := Lib.hid (by have h := hrw; rw [take_esc HC.out, esc_of (by omega)]; exact h); clear hrw
      refine sv_ gz41_8_2 Y fun a186 e => ?_; clear Y
      have h25 := pt_ F e; replace F := pu_ F e; replace h23 := so_ e h23; replace h24 := so_ e h24; clear e
      refine sv_ gz41_8_3 (ya_ rfl h25) fun a187 e => ?_
      clear h3; have h3 := pt_ F e; replace F := pu_ F e; replace h23 := so_ e h23; replace h24 := so_ e h24; replace h25 := so_ e h25; clear e
      refine st_end ?_
      replace h0 := F.of h0; replace h2 := F.of h2; replace h4 := F.of h4; replace h6 := F.of h6; replace h7 := F.of h7; replace h8 := F.of h8; replace h9 := F.of h9; replace h12 := F.of h12; replace h13 := F.of h13; replace h14 := F.of h14; replace h21 := F.of h21; replace h22 := F.of h22; have R := F.r; clear F
      change (cz41_37).wp _ _ _ _
      change (Code.region 4 Oz41_4 false).wp _ _ _ _
      refine reg_in (l := [0, 1, 2]) rfl ?_
      have F : FE_ _ [] a187 a187 := ⟨R, Ag_.refl _⟩; clear R
      refine sv_ gz41_4_0 (ym_ rfl (F.of h4)) fun a188 e => ?_
      have h10 := pt_ F e; replace F := pu_ F e; clear e
      have Y : (execOp a188.eval oz41_4_1).run Tryz.prog wa = .ok (.value (.int .i64 ((j : Int) + 1))) wa := by have hwj : IntKind.i64.wrap ((j : Int) + 1) = (j : Int) + 1 := (by rw [IntKind.wrap_i64]; have := HLN.out; omega); unfold oz41_4_1; go_simp
      refine sv_ gz41_4_1 Y fun a189 e => ?_; clear Y
      have h11 := pt_ F e; replace F := pu_ F e; replace h10 := so_ e h10; clear e
      refine sv_ gz41_4_2 (ya_ rfl h11) fun a190 e => ?_
      clear h4; have h4 := pt_ F e; replace F := pu_ F e; replace h10 := so_ e h10; replace h11 := so_ e h11; clear e
      refine st_end ?_
      replace h0 := F.of h0; replace h2 := F.of h2; replace h3 := F.of h3; replace h6 := F.of h6; replace h7 := F.of h7; replace h8 := F.of h8; replace h9 := F.of h9; replace h12 := F.of h12; replace h13 := F.of h13; replace h14 := F.of h14; replace h21 := F.of h21; replace h22 := F.of h22; replace h23 := F.of h23; replace h24 := F.of h24; replace h25 := F.of h25; have R := F.r; clear F
      clear KP
      exact ⟨_, by omega, j + 1, va, rfl, R, h0, h2, h3, h4, K1, (by omega), HB⟩
theorem rquote_any (W : World) (L : List UInt8) (hn : L.length ≤ 35184372088832) : Calls Tryz.prog 41 #[.string (str L)] W fun e w' => e = .returned (.string (str (quoX L))) ∧ Keep (fun g => g < W.heap.size) W w' := by
  refine enter_sx Tryz.func41 bodyz41 rfl (by show (1 : Nat) ≤ 44; decide) fun f0 R0' hs => ?_
  exact rquote_w R0' (hs 0 _ rfl) (Keep.refl _ W) (Lib.hid (by omega)) (Lib.hid (by have h := escs_le L; unfold quoX; simp only [List.length_cons, List.length_append, List.length_nil]; omega))
def oz31_0_0 : Oper := ⟨some 2, Op.assign (Operand.const (Value.string { data := #[] })), 9, "ref.go:40", #[], none⟩
def Oz31_0 : Array Oper := List.toArray (oz31_0_0 :: [])
theorem gz31_0_0 : Oz31_0[0]? = some oz31_0_0 := rfl
def cz31_1 : Code := Code.region 0 Oz31_0 false
def oz31_1_0 : Oper := ⟨some 3, Op.move (Operand.tmp 0), 9, "ref.go:41", #[], none⟩
def oz31_1_1 : Oper := ⟨some 4, Op.call { callee := Callee.value (Operand.func 40), args := #[Operand.tmp 3], argTypes := #[9] }, 4, "ref.go:41", #[ed_ 0], none⟩
def Oz31_1 : Array Oper := List.toArray (oz31_1_0 :: oz31_1_1 :: [])
theorem gz31_1_0 : Oz31_1[0]? = some oz31_1_0 := rfl
theorem gz31_1_1 : Oz31_1[1]? = some oz31_1_1 := rfl
def cz31_4 : Code := Code.region 1 Oz31_1 false
def oz31_2_0 : Oper := ⟨some 5, Op.move (Operand.tmp 0), 9, "ref.go:42", #[], none⟩
def oz31_2_1 : Oper := ⟨some 2, Op.assign (Operand.tmp 5), 9, "ref.go:42", #[ed_ 0, ep_ 0], none⟩
def Oz31_2 : Array Oper := List.toArray (oz31_2_0 :: oz31_2_1 :: [])
theorem gz31_2_0 : Oz31_2[0]? = some oz31_2_0 := rfl
theorem gz31_2_1 : Oz31_2[1]? = some oz31_2_1 := rfl
def cz31_7 : Code := Code.region 2 Oz31_2 false
def cz31_6 : Code := Code.seq cz31_7 Code.ret
def cz31_5 : Code := Code.cond (Operand.tmp 4) cz31_6 Code.skip
def cz31_3 : Code := Code.seq cz31_4 cz31_5
def oz31_3_0 : Oper := ⟨some 6, Op.move (Operand.tmp 0), 9, "ref.go:44", #[], none⟩
def oz31_3_1 : Oper := ⟨some 7, Op.call { callee := Callee.value (Operand.func 41), args := #[Operand.tmp 6], argTypes := #[9] }, 9, "ref.go:44", #[ed_ 0], none⟩
def oz31_3_2 : Oper := ⟨some 2, Op.assign (Operand.tmp 7), 9, "ref.go:44", #[ed_ 1, ec_ 1, ep_ 0, ep_ 1], none⟩
def Oz31_3 : Array Oper := List.toArray (oz31_3_0 :: oz31_3_1 :: oz31_3_2 :: [])
theorem gz31_3_0 : Oz31_3[0]? = some oz31_3_0 := rfl
theorem gz31_3_1 : Oz31_3[1]? = some oz31_3_1 := rfl
theorem gz31_3_2 : Oz31_3[2]? = some oz31_3_2 := rfl
def cz31_11 : Code := Code.region 3 Oz31_3 false
def cz31_10 : Code := Code.seq cz31_11 Code.ret
def cz31_2 : Code := Code.seq cz31_3 cz31_10
def cz31_0 : Code := Code.seq cz31_1 cz31_2
theorem enz31_1040 : Enters Tryz.prog 40 := enters_of Tryz.func40 (by kernel_rfl) rfl
theorem enz31_1041 : Enters Tryz.prog 41 := enters_of Tryz.func41 (by kernel_rfl) rfl
theorem bodyz31 : Tryz.f31.body = some cz31_0 := by kernel_rfl
set_option maxRecDepth 100000 in
set_option maxHeartbeats 4000000 in
theorem rfunctor_w {W : World} {L : List UInt8} {f0 : Act} {w0 : World} (R : FrS 8 f0) (h0 : f0.tmps[0]? = some (.string (str L))) (K1 : Keep (fun g => g < W.heap.size) W w0)  (HLN : Hid (L.length ≤ 35184372088832)) : cz31_0.wp Tryz.prog (bodyPost Tryz.prog Tryz.f31 (fun e w' => e = .returned (.string (str (funX bareC L))) ∧ Keep (fun g => g < W.heap.size) W w')) f0 w0 := by
  refine wp_seq (x := cz31_1) (y := cz31_2) ?_
  change (Code.region 0 Oz31_0 false).wp _ _ _ _
  refine reg_in (l := [0]) rfl ?_
  have F : FE_ _ [] f0 f0 := ⟨R, Ag_.refl _⟩; clear R
  have Y : (execOp f0.eval oz31_0_0).run Tryz.prog w0 = .ok (.value (.string (⟨#[]⟩))) w0 := by unfold oz31_0_0; go_simp
  refine sv_ gz31_0_0 Y fun a101 e => ?_; clear Y
  have h2 := pt_ F e; replace F := pu_ F e; clear e
  refine st_end ?_
  replace h0 := F.of h0; have R := F.r; clear F
  change (cz31_2).wp _ _ _ _
  refine wp_seq (x := cz31_3) (y := cz31_10) ?_
  refine wp_seq (x := cz31_4) (y := cz31_5) ?_
  change (Code.region 1 Oz31_1 false).wp _ _ _ _
  refine reg_in (l := [0, 1]) rfl ?_
  have F : FE_ _ [] a101 a101 := ⟨R, Ag_.refl _⟩; clear R
  refine sv_ gz31_1_0 (ym_ rfl (F.of h0)) fun a102 e => ?_
  have h3 := pt_ F e; replace F := pu_ F e; clear e
  obtain ⟨bl, hbl⟩ : ∃ q, bareC L = q := ⟨_, rfl⟩; have hcall := rBare_any L w0; rw [hbl] at hcall
  refine st_call gz31_1_1 rfl (wanted_free rfl) (yc1_ enz31_1040 rfl h3) ((hcall).mono ?_)
  rintro e9 w103 ⟨rfl, kk⟩
  replace K1 := keep_onto K1 kk
  clear hcall; have HBL := Lib.hid hbl; clear hbl
  clear kk
  refine ⟨_, rfl, fun a104 e => ?_⟩
  clear h3; have h4 := pt_ F e; replace F := pu_ F e; clear e
  refine st_end ?_
  replace h0 := F.of h0; replace h2 := F.of h2; have R := F.r; clear F
  change (cz31_5).wp _ _ _ _
  cases bl with
  | false =>
    refine wp_cond_false (x := cz31_6) (y := Code.skip) (eval_slot h4) ?_
    refine wp_skip ?_
    change (cz31_10).wp _ _ _ _
    refine wp_seq (x := cz31_11) (y := Code.ret) ?_
    change (Code.region 3 Oz31_3 false).wp _ _ _ _
    refine reg_in (l := [0, 1, 2]) rfl ?_
    have F : FE_ _ [] a104 a104 := ⟨R, Ag_.refl _⟩; clear R
    refine sv_ gz31_3_0 (ym_ rfl (F.of h0)) fun a105 e => ?_
    have h6 := pt_ F e; replace F := pu_ F e; clear e
    refine st_call gz31_3_1 rfl (wanted_free rfl) (yc1_ enz31_1041 rfl h6) ((rquote_any w103 L HLN.out).mono ?_)
    rintro e9 w106 ⟨rfl, kk⟩
    replace K1 := keep_onto K1 kk
    clear kk
    refine ⟨_, rfl, fun a107 e => ?_⟩
    clear h6; have h7 := pt_ F e; replace F := pu_ F e; clear e
    refine sv_ gz31_3_2 (ya_ rfl h7) fun a108 e => ?_
    clear h7 h2; have h2 := pt_ F e; replace F := pu_ F e; clear e
    refine st_end ?_
    clear h0; clear h4; have R := F.r; clear F
    change (Code.ret).wp _ _ _ _
    refine wp_ret ?_
    change bodyPost Tryz.prog Tryz.f31 (fun e w' => e = .returned (.string (str (funX bareC L))) ∧ Keep (fun g => g < W.heap.size) W w') .ret a108 w106
    refine ret_one rfl R h2 ?_
    exact ⟨by rw [show funX bareC L = quoX L by unfold funX; rw [if_neg (by rw [HBL.out]; decide)]], K1⟩
  | true =>
    refine wp_cond_true (x := cz31_6) (y := Code.skip) (eval_slot h4) ?_
    refine wp_seq (x := cz31_7) (y := Code.ret) ?_
    change (Code.region 2 Oz31_2 false).wp _ _ _ _
    refine reg_in (l := [0, 1]) rfl ?_
    have F : FE_ _ [] a104 a104 := ⟨R, Ag_.refl _⟩; clear R
    refine sv_ gz31_2_0 (ym_ rfl (F.of h0)) fun a109 e => ?_
    have h5 := pt_ F e; replace F := pu_ F e; clear e
    refine sv_ gz31_2_1 (ya_ rfl h5) fun a110 e => ?_
    clear h5 h2; have h2 := pt_ F e; replace F := pu_ F e; clear e
    refine st_end ?_
    replace h0 := F.of h0; clear h4; have R := F.r; clear F
    change (Code.ret).wp _ _ _ _
    refine wp_ret ?_
    change bodyPost Tryz.prog Tryz.f31 (fun e w' => e = .returned (.string (str (funX bareC L))) ∧ Keep (fun g => g < W.heap.size) W w') .ret a110 w103
    refine ret_one rfl R h2 ?_
    exact ⟨by rw [show funX bareC L = L by unfold funX; rw [if_pos HBL.out]], K1⟩
theorem rFunctor_any (W : World) (L : List UInt8) (hn : L.length ≤ 35184372088832) : Calls Tryz.prog 31 #[.string (str L)] W fun e w' => e = .returned (.string (str (funX bareC L))) ∧ Keep (fun g => g < W.heap.size) W w' := by
  refine enter_sx Tryz.func31 bodyz31 rfl (by show (1 : Nat) ≤ 8; decide) fun f0 R0' hs => ?_
  exact rfunctor_w R0' (hs 0 _ rfl) (Keep.refl _ W) (Lib.hid hn)
def oz14_0_0 : Oper := ⟨some 2, Op.assign (Operand.const (Value.string { data := #[] })), 9, "ref.go:47", #[], none⟩
def Oz14_0 : Array Oper := List.toArray (oz14_0_0 :: [])
theorem gz14_0_0 : Oz14_0[0]? = some oz14_0_0 := rfl
def cz14_1 : Code := Code.region 0 Oz14_0 false
def oz14_1_0 : Oper := ⟨some 3, Op.move (Operand.tmp 0), 9, "ref.go:48", #[], none⟩
def oz14_1_1 : Oper := ⟨some 4, Op.binOp Go.BinOp.eql 9 (Operand.tmp 3) (Operand.const (Value.string { data := #[91, 93] })) 9, 4, "ref.go:48", #[ed_ 0], none⟩
def oz14_1_2 : Oper := ⟨some 5, Op.move (Operand.tmp 4), 4, "ref.go:48", #[ed_ 1], none⟩
def oz14_1_3 : Oper := ⟨some 6, Op.move (Operand.tmp 0), 9, "ref.go:48", #[eg_ 2], some (2, false)⟩
def oz14_1_4 : Oper := ⟨some 7, Op.binOp Go.BinOp.eql 9 (Operand.tmp 6) (Operand.const (Value.string { data := #[123, 125] })) 9, 4, "ref.go:48", #[ed_ 3, eg_ 2], some (2, false)⟩
def oz14_1_5 : Oper := ⟨some 8, Op.pick (Operand.tmp 5) (Operand.const (Value.bool true)) (Operand.tmp 7), 4, "ref.go:48", #[ed_ 2, ed_ 4], none⟩
def Oz14_1 : Array Oper := List.toArray (oz14_1_0 :: oz14_1_1 :: oz14_1_2 :: oz14_1_3 :: oz14_1_4 :: oz14_1_5 :: [])
theorem gz14_1_0 : Oz14_1[0]? = some oz14_1_0 := rfl
theorem gz14_1_1 : Oz14_1[1]? = some oz14_1_1 := rfl
theorem gz14_1_2 : Oz14_1[2]? = some oz14_1_2 := rfl
theorem gz14_1_3 : Oz14_1[3]? = some oz14_1_3 := rfl
theorem gz14_1_4 : Oz14_1[4]? = some oz14_1_4 := rfl
theorem gz14_1_5 : Oz14_1[5]? = some oz14_1_5 := rfl
def cz14_4 : Code := Code.region 1 Oz14_1 false
def oz14_2_0 : Oper := ⟨some 9, Op.move (Operand.tmp 0), 9, "ref.go:49", #[], none⟩
def oz14_2_1 : Oper := ⟨some 2, Op.assign (Operand.tmp 9), 9, "ref.go:49", #[ed_ 0, ep_ 0], none⟩
def Oz14_2 : Array Oper := List.toArray (oz14_2_0 :: oz14_2_1 :: [])
theorem gz14_2_0 : Oz14_2[0]? = some oz14_2_0 := rfl
theorem gz14_2_1 : Oz14_2[1]? = some oz14_2_1 := rfl
def cz14_7 : Code := Code.region 2 Oz14_2 false
def cz14_6 : Code := Code.seq cz14_7 Code.ret
def cz14_5 : Code := Code.cond (Operand.tmp 8) cz14_6 Code.skip
def cz14_3 : Code := Code.seq cz14_4 cz14_5
def oz14_3_0 : Oper := ⟨some 10, Op.move (Operand.tmp 0), 9, "ref.go:51", #[], none⟩
def oz14_3_1 : Oper := ⟨some 11, Op.call { callee := Callee.value (Operand.func 31), args := #[Operand.tmp 10], argTypes := #[9] }, 9, "ref.go:51", #[ed_ 0], none⟩
def oz14_3_2 : Oper := ⟨some 2, Op.assign (Operand.tmp 11), 9, "ref.go:51", #[ed_ 1, ec_ 1, ep_ 0, ep_ 1], none⟩
def Oz14_3 : Array Oper := List.toArray (oz14_3_0 :: oz14_3_1 :: oz14_3_2 :: [])
theorem gz14_3_0 : Oz14_3[0]? = some oz14_3_0 := rfl
theorem gz14_3_1 : Oz14_3[1]? = some oz14_3_1 := rfl
theorem gz14_3_2 : Oz14_3[2]? = some oz14_3_2 := rfl
def cz14_11 : Code := Code.region 3 Oz14_3 false
def cz14_10 : Code := Code.seq cz14_11 Code.ret
def cz14_2 : Code := Code.seq cz14_3 cz14_10
def cz14_0 : Code := Code.seq cz14_1 cz14_2
theorem enz14_1031 : Enters Tryz.prog 31 := enters_of Tryz.func31 (by kernel_rfl) rfl
theorem bodyz14 : Tryz.f14.body = some cz14_0 := by kernel_rfl
set_option maxRecDepth 100000 in
set_option maxHeartbeats 4000000 in
theorem rname_w {W : World} {L : List UInt8} {f0 : Act} {w0 : World} (R : FrS 12 f0) (h0 : f0.tmps[0]? = some (.string (str L))) (K1 : Keep (fun g => g < W.heap.size) W w0)  (HLN : Hid (L.length ≤ 35184372088832)) : cz14_0.wp Tryz.prog (bodyPost Tryz.prog Tryz.f14 (fun e w' => e = .returned (.string (str (atmX bareC L))) ∧ Keep (fun g => g < W.heap.size) W w')) f0 w0 := by
  refine wp_seq (x := cz14_1) (y := cz14_2) ?_
  change (Code.region 0 Oz14_0 false).wp _ _ _ _
  refine reg_in (l := [0]) rfl ?_
  have F : FE_ _ [] f0 f0 := ⟨R, Ag_.refl _⟩; clear R
  have Y : (execOp f0.eval oz14_0_0).run Tryz.prog w0 = .ok (.value (.string (⟨#[]⟩))) w0 := by unfold oz14_0_0; go_simp
  refine sv_ gz14_0_0 Y fun a101 e => ?_; clear Y
  have h2 := pt_ F e; replace F := pu_ F e; clear e
  refine st_end ?_
  replace h0 := F.of h0; have R := F.r; clear F
  change (cz14_2).wp _ _ _ _
  refine wp_seq (x := cz14_3) (y := cz14_10) ?_
  refine wp_seq (x := cz14_4) (y := cz14_5) ?_
  change (Code.region 1 Oz14_1 false).wp _ _ _ _
  refine reg_in (l := [0, 1, 2, 3, 4, 5]) rfl ?_
  have F : FE_ _ [] a101 a101 := ⟨R, Ag_.refl _⟩; clear R
  refine sv_ gz14_1_0 (ym_ rfl (F.of h0)) fun a102 e => ?_
  have h3 := pt_ F e; replace F := pu_ F e; clear e
  obtain ⟨l1, hl1⟩ : ∃ q, ((str L).toList == [91, 93]) = q := ⟨_, rfl⟩; have HL1 := Lib.hid hl1; clear hl1
  have Y : (execOp a102.eval oz14_1_1).run Tryz.prog w0 = .ok (.value (.bool l1)) w0 := by have e1 : ((str L).toList == [91, 93]) = l1 := HL1.out; unfold oz14_1_1; go_simp
  refine sv_ gz14_1_1 Y fun a103 e => ?_; clear Y
  clear h3; have h4 := pt_ F e; replace F := pu_ F e; clear e
  refine sv_ gz14_1_2 (ym_ rfl h4) fun a104 e => ?_
  clear h4; have h5 := pt_ F e; replace F := pu_ F e; clear e
  cases l1 with
  | false =>
    refine st_val gz14_1_3 rfl (wanted_is (j := 2) (d := 5) rfl rfl h5 rfl) (ym_ rfl (F.of h0)) fun a105 e => ?_
    have h6 := pt_ F e; replace F := pu_ F e; replace h5 := so_ e h5; clear e
    obtain ⟨l2, hl2⟩ : ∃ q, ((str L).toList == [123, 125]) = q := ⟨_, rfl⟩; have HL2 := Lib.hid hl2; clear hl2
    have Y : (execOp a105.eval oz14_1_4).run Tryz.prog w0 = .ok (.value (.bool l2)) w0 := by have e1 : ((str L).toList == [123, 125]) = l2 := HL2.out; unfold oz14_1_4; go_simp
    refine st_val gz14_1_4 rfl (wanted_is (j := 2) (d := 5) rfl rfl h5 rfl) Y fun a106 e => ?_; clear Y
    clear h6; have h7 := pt_ F e; replace F := pu_ F e; replace h5 := so_ e h5; clear e
    have Y : (execOp a106.eval oz14_1_5).run Tryz.prog w0 = .ok (.value (.bool l2)) w0 := by unfold oz14_1_5; go_simp
    refine sv_ gz14_1_5 Y fun a107 e => ?_; clear Y
    clear h5 h7; have h8 := pt_ F e; replace F := pu_ F e; clear e
    refine st_end ?_
    replace h0 := F.of h0; replace h2 := F.of h2; have R := F.r; clear F
    change (cz14_5).wp _ _ _ _
    cases l2 with
    | false =>
      refine wp_cond_false (x := cz14_6) (y := Code.skip) (eval_slot h8) ?_
      refine wp_skip ?_
      change (cz14_10).wp _ _ _ _
      refine wp_seq (x := cz14_11) (y := Code.ret) ?_
      change (Code.region 3 Oz14_3 false).wp _ _ _ _
      refine reg_in (l := [0, 1, 2]) rfl ?_
      have F : FE_ _ [] a107 a107 := ⟨R, Ag_.refl _⟩; clear R
      refine sv_ gz14_3_0 (ym_ rfl (F.of h0)) fun a108 e => ?_
      have h10 := pt_ F e; replace F := pu_ F e; clear e
      refine st_call gz14_3_1 rfl (wanted_free rfl) (yc1_ enz14_1031 rfl h10) ((rFunctor_any w0 L HLN.out).mono ?_)
      rintro e9 w109 ⟨rfl, kk⟩
      replace K1 := keep_onto K1 kk
      clear kk
      refine ⟨_, rfl, fun a110 e => ?_⟩
      clear h10; have h11 := pt_ F e; replace F := pu_ F e; clear e
      refine sv_ gz14_3_2 (ya_ rfl h11) fun a111 e => ?_
      clear h11 h2; have h2 := pt_ F e; replace F := pu_ F e; clear e
      refine st_end ?_
      clear h0; clear h8; have R := F.r; clear F
      change (Code.ret).wp _ _ _ _
      refine wp_ret ?_
      change bodyPost Tryz.prog Tryz.f14 (fun e w' => e = .returned (.string (str (atmX bareC L))) ∧ Keep (fun g => g < W.heap.size) W w') .ret a111 w109
      refine ret_one rfl R h2 ?_
      exact ⟨by rw [show atmX bareC L = funX bareC L by unfold atmX; rw [if_neg (fun h => h.elim (fun h => by have h1 := HL1.out; rw [str_list, h] at h1; simp at h1) (fun h => by have h1 := HL2.out; rw [str_list, h] at h1; simp at h1))]], K1⟩
    | true =>
      refine wp_cond_true (x := cz14_6) (y := Code.skip) (eval_slot h8) ?_
      refine wp_seq (x := cz14_7) (y := Code.ret) ?_
      change (Code.region 2 Oz14_2 false).wp _ _ _ _
      refine reg_in (l := [0, 1]) rfl ?_
      have F : FE_ _ [] a107 a107 := ⟨R, Ag_.refl _⟩; clear R
      refine sv_ gz14_2_0 (ym_ rfl (F.of h0)) fun a112 e => ?_
      have h9 := pt_ F e; replace F := pu_ F e; clear e
      refine sv_ gz14_2_1 (ya_ rfl h9) fun a113 e => ?_
      clear h9 h2; have h2 := pt_ F e; replace F := pu_ F e; clear e
      refine st_end ?_
      replace h0 := F.of h0; clear h8; have R := F.r; clear F
      change (Code.ret).wp _ _ _ _
      refine wp_ret ?_
      change bodyPost Tryz.prog Tryz.f14 (fun e w' => e = .returned (.string (str (atmX bareC L))) ∧ Keep (fun g => g < W.heap.size) W w') .ret a113 w0
      refine ret_one rfl R h2 ?_
      exact ⟨by rw [show atmX bareC L = L by unfold atmX; rw [if_pos (by first | exact .inl (by have h := HL1.out; rw [str_list] at h; simpa using h) | exact .inr (by have h := HL2.out; rw [str_list] at h; simpa using h))]], K1⟩
  | true =>
    refine st_not gz14_1_3 rfl (wanted_is (j := 2) (d := 5) rfl rfl h5 rfl) fun a114 e => ?_
    have h6 := pt_ F e; replace F := pu_ F e; replace h5 := so_ e h5; clear e
    refine st_not gz14_1_4 rfl (wanted_is (j := 2) (d := 5) rfl rfl h5 rfl) fun a115 e => ?_
    clear h6; have h7 := pt_ F e; replace F := pu_ F e; replace h5 := so_ e h5; clear e
    have Y : (execOp a115.eval oz14_1_5).run Tryz.prog w0 = .ok (.value (.bool true)) w0 := by unfold oz14_1_5; go_simp
    refine sv_ gz14_1_5 Y fun a116 e => ?_; clear Y
    clear h5 h7; have h8 := pt_ F e; replace F := pu_ F e; clear e
    refine st_end ?_
    replace h0 := F.of h0; replace h2 := F.of h2; have R := F.r; clear F
    change (cz14_5).wp _ _ _ _
    refine wp_cond_true (x := cz14_6) (y := Code.skip) (eval_slot h8) ?_
    refine wp_seq (x := cz14_7) (y := Code.ret) ?_
    change (Code.region 2 Oz14_2 false).wp _ _ _ _
    refine reg_in (l := [0, 1]) rfl ?_
    have F : FE_ _ [] a116 a116 := ⟨R, Ag_.refl _⟩; clear R
    refine sv_ gz14_2_0 (ym_ rfl (F.of h0)) fun a117 e => ?_
    have h9 := pt_ F e; replace F := pu_ F e; clear e
    refine sv_ gz14_2_1 (ya_ rfl h9) fun a118 e => ?_
    clear h9 h2; have h2 := pt_ F e; replace F := pu_ F e; clear e
    refine st_end ?_
    replace h0 := F.of h0; clear h8; have R := F.r; clear F
    change (Code.ret).wp _ _ _ _
    refine wp_ret ?_
    change bodyPost Tryz.prog Tryz.f14 (fun e w' => e = .returned (.string (str (atmX bareC L))) ∧ Keep (fun g => g < W.heap.size) W w') .ret a118 w0
    refine ret_one rfl R h2 ?_
    exact ⟨by rw [show atmX bareC L = L by unfold atmX; rw [if_pos (by first | exact .inl (by have h := HL1.out; rw [str_list] at h; simpa using h) | exact .inr (by have h := HL2.out; rw [str_list] at h; simpa using h))]], K1⟩
theorem rName_any (W : World) (L : List UInt8) (hn : L.length ≤ 35184372088832) : Calls Tryz.prog 14 #[.string (str L)] W fun e w' => e = .returned (.string (str (atmX bareC L))) ∧ Keep (fun g => g < W.heap.size) W w' := by
  refine enter_sx Tryz.func14 bodyz14 rfl (by show (1 : Nat) ≤ 12; decide) fun f0 R0' hs => ?_
  exact rname_w R0' (hs 0 _ rfl) (Keep.refl _ W) (Lib.hid hn)
end Go.Proofs.YtfkbbbjicaedmaaGreatDoor
