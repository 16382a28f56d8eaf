/-
  The law's own spoil: walked with letter frames. No condition but where the terms lie.
-/
import Derived.Test.YthbofkffklejoaaTp7
namespace Go.Proofs.Ythbofkffklejoaa
open Go.RowKit Go.Maps
set_option linter.unusedVariables false
set_option linter.unusedSimpArgs false

def o45_0_0 : Oper := { dst := some 1, op := Op.box 24 (Operand.tmp 0), type := 0, pos := "law.go:394", after := #[], guard := none }
def O45_0 : Array Oper := List.toArray (o45_0_0 :: [])
theorem g45_0_0 : O45_0[0]? = some o45_0_0 := rfl
def c45_1 : Code := Code.region 0 O45_0 false
def o45_1_0 : Oper := { dst := some 3, op := Op.fieldAddr 24 (Operand.tmp 1) 3, type := 0, pos := "law.go:395", after := #[], guard := none }
def o45_1_1 : Oper := { dst := some 4, op := Op.load 22 (Operand.tmp 3), type := 22, pos := "law.go:395", after := #[ed_ 0], guard := none }
def o45_1_2 : Oper := { dst := some 5, op := Op.call { callee := Callee.builtin Go.Builtin.len, args := #[Operand.tmp 4], argTypes := #[22] }, type := 3, pos := "law.go:395", after := #[ed_ 1], guard := none }
def o45_1_3 : Oper := { dst := some 6, op := Op.move (Operand.const (Value.int IntKind.i64 0)), type := 3, pos := "law.go:395", after := #[], guard := none }
def O45_1 : Array Oper := List.toArray (o45_1_0 :: o45_1_1 :: o45_1_2 :: o45_1_3 :: [])
theorem g45_1_0 : O45_1[0]? = some o45_1_0 := rfl
theorem g45_1_1 : O45_1[1]? = some o45_1_1 := rfl
theorem g45_1_2 : O45_1[2]? = some o45_1_2 := rfl
theorem g45_1_3 : O45_1[3]? = some o45_1_3 := rfl
def c45_3 : Code := Code.region 1 O45_1 false
def o45_2_0 : Oper := { dst := some 7, op := Op.binOp Go.BinOp.lss 3 (Operand.tmp 6) (Operand.tmp 5) 3, type := 0, pos := "law.go:395", after := #[], guard := none }
def O45_2 : Array Oper := List.toArray (o45_2_0 :: [])
theorem g45_2_0 : O45_2[0]? = some o45_2_0 := rfl
def c45_7 : Code := Code.region 2 O45_2 false
def c45_11 : Code := Code.exit 0
def c45_9 : Code := Code.cond (Operand.tmp 7) Code.skip c45_11
def o45_3_0 : Oper := { dst := some 8, op := Op.move (Operand.tmp 6), type := 3, pos := "law.go:395", after := #[], guard := none }
def o45_3_1 : Oper := { dst := some 2, op := Op.assign (Operand.tmp 8), type := 3, pos := "law.go:395", after := #[ed_ 0, ep_ 0], guard := none }
def O45_3 : Array Oper := List.toArray (o45_3_0 :: o45_3_1 :: [])
theorem g45_3_0 : O45_3[0]? = some o45_3_0 := rfl
theorem g45_3_1 : O45_3[1]? = some o45_3_1 := rfl
def c45_15 : Code := Code.region 3 O45_3 false
def o45_4_0 : Oper := { dst := some 9, op := Op.fieldAddr 24 (Operand.tmp 1) 3, type := 0, pos := "law.go:396", after := #[], guard := none }
def o45_4_1 : Oper := { dst := some 10, op := Op.load 22 (Operand.tmp 9), type := 22, pos := "law.go:396", after := #[ed_ 0], guard := none }
def o45_4_2 : Oper := { dst := some 11, op := Op.move (Operand.tmp 2), type := 3, pos := "law.go:396", after := #[], guard := none }
def o45_4_3 : Oper := { dst := some 12, op := Op.indexAddr 22 (Operand.tmp 10) (Operand.tmp 11), type := 0, pos := "law.go:396", after := #[ed_ 1, ed_ 2], guard := none }
def o45_4_4 : Oper := { dst := some 13, op := Op.load 24 (Operand.tmp 12), type := 24, pos := "law.go:396", after := #[ed_ 3], guard := none }
def o45_4_5 : Oper := { dst := some 14, op := Op.call { callee := Callee.value (Operand.func 45), args := #[Operand.tmp 13], argTypes := #[24] }, type := 0, pos := "law.go:396", after := #[ed_ 4], guard := none }
def O45_4 : Array Oper := List.toArray (o45_4_0 :: o45_4_1 :: o45_4_2 :: o45_4_3 :: o45_4_4 :: o45_4_5 :: [])
theorem g45_4_0 : O45_4[0]? = some o45_4_0 := rfl
theorem g45_4_1 : O45_4[1]? = some o45_4_1 := rfl
theorem g45_4_2 : O45_4[2]? = some o45_4_2 := rfl
theorem g45_4_3 : O45_4[3]? = some o45_4_3 := rfl
theorem g45_4_4 : O45_4[4]? = some o45_4_4 := rfl
theorem g45_4_5 : O45_4[5]? = some o45_4_5 := rfl
def c45_17 : Code := Code.region 4 O45_4 false
def o45_5_0 : Oper := { dst := some 15, op := Op.fieldAddr 24 (Operand.tmp 1) 3, type := 0, pos := "law.go:397", after := #[], guard := none }
def o45_5_1 : Oper := { dst := some 16, op := Op.load 22 (Operand.tmp 15), type := 22, pos := "law.go:397", after := #[ed_ 0], guard := none }
def o45_5_2 : Oper := { dst := some 17, op := Op.move (Operand.tmp 2), type := 3, pos := "law.go:397", after := #[], guard := none }
def o45_5_3 : Oper := { dst := some 18, op := Op.build 24 #[(0, Operand.const (Value.int IntKind.i64 2)), (2, Operand.const (Value.int IntKind.i64 77))], type := 24, pos := "law.go:397", after := #[], guard := none }
def o45_5_4 : Oper := { dst := some 19, op := Op.indexAddr 22 (Operand.tmp 16) (Operand.tmp 17), type := 0, pos := "law.go:397", after := #[ed_ 1, ed_ 2, ep_ 0, ep_ 1, ep_ 2, ep_ 3], guard := none }
def o45_5_5 : Oper := { dst := none, op := Op.store 24 (Operand.tmp 19) (Operand.tmp 18), type := 0, pos := "law.go:397", after := #[ed_ 4, ed_ 3, ep_ 0, ep_ 1, ep_ 2, ep_ 3], guard := none }
def O45_5 : Array Oper := List.toArray (o45_5_0 :: o45_5_1 :: o45_5_2 :: o45_5_3 :: o45_5_4 :: o45_5_5 :: [])
theorem g45_5_0 : O45_5[0]? = some o45_5_0 := rfl
theorem g45_5_1 : O45_5[1]? = some o45_5_1 := rfl
theorem g45_5_2 : O45_5[2]? = some o45_5_2 := rfl
theorem g45_5_3 : O45_5[3]? = some o45_5_3 := rfl
theorem g45_5_4 : O45_5[4]? = some o45_5_4 := rfl
theorem g45_5_5 : O45_5[5]? = some o45_5_5 := rfl
def c45_18 : Code := Code.region 5 O45_5 false
def c45_16 : Code := Code.seq c45_17 c45_18
def c45_14 : Code := Code.seq c45_15 c45_16
def c45_13 : Code := Code.block 1 c45_14
def o45_6_0 : Oper := { dst := some 20, op := Op.binOp Go.BinOp.add 3 (Operand.tmp 6) (Operand.const (Value.int IntKind.i64 1)) 3, type := 3, pos := "law.go:395", after := #[], guard := none }
def o45_6_1 : Oper := { dst := some 6, op := Op.move (Operand.tmp 20), type := 3, pos := "law.go:395", after := #[ed_ 0], guard := none }
def O45_6 : Array Oper := List.toArray (o45_6_0 :: o45_6_1 :: [])
theorem g45_6_0 : O45_6[0]? = some o45_6_0 := rfl
theorem g45_6_1 : O45_6[1]? = some o45_6_1 := rfl
def c45_19 : Code := Code.region 6 O45_6 false
def c45_12 : Code := Code.seq c45_13 c45_19
def c45_8 : Code := Code.seq c45_9 c45_12
def c45_6 : Code := Code.seq c45_7 c45_8
def c45_5 : Code := Code.loop c45_6
def c45_4 : Code := Code.block 0 c45_5
def c45_2 : Code := Code.seq c45_3 c45_4
def c45_0 : Code := Code.seq c45_1 c45_2
theorem en45_45 : Enters Try.prog 45 := enters_of Try.func45 (by kernel_rfl) rfl
theorem body45 : Try.f45.body = some c45_0 := by kernel_rfl

set_option maxRecDepth 100000 in
set_option maxHeartbeats 4000000 in
theorem spoil_w {W : World} {RR : Nat → Prop} {kd i : Int} {s : ByteArray} {a : Option Addr} {na c : Nat}  {f0 : Act} {w0 : World} (R : FrS 21 f0) (h0 : f0.tmps[0]? = some (.agg #[.int .i64 kd, .string s, .int .i64 i, .slice a na c])) (K1 : Keep (fun g => g < W.heap.size) W w0)  (HRW : Hid (∀ g, RR g → g < W.heap.size)) (HNL : Hid (na ≤ 9223372036854775807)) (HEA : Hid (∀ j, j < na → ∃ g, a = some ⟨g, 0, none⟩ ∧ RR g)) (HEL : Hid (∀ w, Spo RR W w → ∀ j, j < na → ∀ g, a = some ⟨g, 0, none⟩ → ∃ cs, Blk w g 24 cs ∧ j * 4 + 3 < cs.size ∧ ∃ (k i : Int) (nm : ByteArray) (a' : Option Addr) (n' c' : Nat), cs[j * 4]? = some (.int .i64 k) ∧ cs[j * 4 + 1]? = some (.string nm) ∧ cs[j * 4 + 2]? = some (.int .i64 i) ∧ cs[j * 4 + 3]? = some (.slice a' n' c') ∧ Calls Try.prog 45 #[.agg #[.int .i64 k, .string nm, .int .i64 i, .slice a' n' c']] w fun e w' => e = .returned (.tuple #[]) ∧ Spo RR w w')) : c45_0.wp Try.prog (bodyPost Try.prog Try.f45 (fun e w' => e = .returned (.tuple #[]) ∧ Spo RR W w')) f0 w0 := by
  refine wp_seq (x := c45_1) (y := c45_2) ?_
  change (Code.region 0 O45_0 false).wp _ _ _ _
  refine reg_in (l := [0]) rfl ?_
  have E := Ag_.refl f0
  have Y : (execOp f0.eval o45_0_0).run Try.prog w0 = .ok (.value (.pointer (some ⟨w0.heap.size, 0, none⟩))) (w0.alloc (.cells #[.int .i64 kd, .string s, .int .i64 i, .slice a na c] 24)) := by have r0 := E.of h0; unfold o45_0_0; go_simp
  have B1 := Blk.new w0 24 #[.int .i64 kd, .string s, .int .i64 i, .slice a na c]
  obtain ⟨w2, hw⟩ : ∃ x, x = w0.alloc (.cells #[.int .i64 kd, .string s, .int .i64 i, .slice a na c] 24) := ⟨_, rfl⟩; rw [← hw] at Y B1
  obtain ⟨b1, hb⟩ : ∃ x, x = w0.heap.size := ⟨_, rfl⟩; rw [← hb] at Y B1
  have LK1_b1 := lk_ hb K1; replace K1 := ka_ hw K1; clear hw hb
  refine st_val g45_0_0 rfl (wanted_free rfl) Y fun a3 e => ?_; clear Y
  have g1 := R.at_ e (by decide); replace R := R.put e; replace E := E.put e; have h1 := g1; clear g1; clear e
  refine st_end ?_
  clear h0; clear E
  change (c45_2).wp _ _ _ _
  refine wp_seq (x := c45_3) (y := c45_4) ?_
  change (Code.region 1 O45_1 false).wp _ _ _ _
  refine reg_in (l := [0, 1, 2, 3]) rfl ?_
  have E := Ag_.refl a3
  have Y : (execOp a3.eval o45_1_0).run Try.prog w2 = .ok (.value (.pointer (some ⟨b1, 3, none⟩))) w2 := by have r1 := E.of h1; unfold o45_1_0; go_simp
  refine st_val g45_1_0 rfl (wanted_free rfl) Y fun a4 e => ?_; clear Y
  have g3 := R.at_ e (by decide); replace R := R.put e; replace E := E.put e; have h3 := g3; clear g3; clear e
  have Y : (execOp a4.eval o45_1_1).run Try.prog w2 = .ok (.value (.slice a na c)) w2 := by have qq0 : w2.cell? ⟨b1, 0, none⟩ = some (.int .i64 kd) := B1.cell 0; have qq1 : w2.cell? ⟨b1, 1, none⟩ = some (.string s) := B1.cell 1; have qq2 : w2.cell? ⟨b1, 2, none⟩ = some (.int .i64 i) := B1.cell 2; have qq3 : w2.cell? ⟨b1, 3, none⟩ = some (.slice a na c) := B1.cell 3; unfold o45_1_1; go_simp
  refine st_val g45_1_1 rfl (wanted_free rfl) Y fun a5 e => ?_; clear Y
  have g4 := R.at_ e (by decide); replace R := R.put e; replace E := E.put e; clear h3; have h4 := g4; clear g4; clear e
  have Y : (execOp a5.eval o45_1_2).run Try.prog w2 = .ok (.value (.int .i64 na)) w2 := by unfold o45_1_2; go_simp
  refine st_val g45_1_2 rfl (wanted_free rfl) Y fun a6 e => ?_; clear Y
  have g5 := R.at_ e (by decide); replace R := R.put e; replace E := E.put e; clear h4; have h5 := g5; clear g5; clear e
  have Y : (execOp a6.eval o45_1_3).run Try.prog w2 = .ok (.value (.int .i64 0)) w2 := by unfold o45_1_3; go_simp
  refine st_val g45_1_3 rfl (wanted_free rfl) Y fun a7 e => ?_; clear Y
  have g6 := R.at_ e (by decide); replace R := R.put e; replace E := E.put e; replace h5 := so_ e h5; have h6 := g6; clear g6; clear e
  refine st_end ?_
  replace h1 := E.of h1; clear E
  change (c45_4).wp _ _ _ _
  refine wp_block (id := 0) (c := c45_5) ?_
  have SP : Spo RR W w2 := Spo.ofKeep K1
  have HRB : ¬ RR b1 := fun h => by have := HRW.out b1 h; omega
  clear K1
  refine wp_loop_ghost (c := c45_6) (fun n f9 w9 => ∃ j : Nat, n = na - j ∧ FrS 21 f9 ∧ f9.tmps[1]? = some (.pointer (some ⟨b1, 0, none⟩)) ∧ f9.tmps[5]? = some (.int .i64 na) ∧ f9.tmps[6]? = some (.int .i64 (j : Int)) ∧ Blk w9 b1 24 #[.int .i64 kd, .string s, .int .i64 i, .slice a na c] ∧ j ≤ na ∧ Spo RR W w9) (na - 0) ⟨0, rfl, R, h1, h5, h6, B1, Nat.zero_le _, SP⟩ ?_
  clear R h1 h5 h6 B1
  rintro n10 a8 w9 ⟨j, rfl, R, h1, h5, h6, B1, hj, SP⟩
  have hn9 := HNL.out
  refine wp_seq (x := c45_7) (y := c45_8) ?_
  change (Code.region 2 O45_2 false).wp _ _ _ _
  refine reg_in (l := [0]) rfl ?_
  have E := Ag_.refl a8
  obtain ⟨b11, hb11⟩ : ∃ x, (decide ((j : Int) < (na : Int))) = x := ⟨_, rfl⟩
  have Y : (execOp a8.eval o45_2_0).run Try.prog w9 = .ok (.value (.bool b11)) w9 := by have r5 := E.of h5; have r6 := E.of h6; rw [← hb11]; unfold o45_2_0; go_simp
  refine st_val g45_2_0 rfl (wanted_free rfl) Y fun a12 e => ?_; clear Y
  have g7 := R.at_ e (by decide); replace R := R.put e; replace E := E.put e; have h7 := g7; clear g7; clear e
  refine st_end ?_
  replace h1 := E.of h1; replace h5 := E.of h5; replace h6 := E.of h6; clear E
  change (c45_8).wp _ _ _ _
  refine wp_seq (x := c45_9) (y := c45_12) ?_
  cases b11 with
  | false =>
    have fb11 := hb11; clear hb11
    simp only [decide_eq_true_eq, decide_eq_false_iff_not, bne_iff_ne, bne_eq_false_iff_eq, beq_iff_eq, beq_eq_false_iff_ne, ne_eq, Bool.not_eq_true', Bool.not_eq_false', Bool.not_eq_eq_eq_not, Bool.not_true, Bool.not_false] at fb11
    refine wp_cond_false (x := Code.skip) (y := c45_11) (eval_slot h7) ?_
    refine wp_exit ?_
    change bodyPost Try.prog Try.f45 (fun e w' => e = .returned (.tuple #[]) ∧ Spo RR W w') .normal a12 w9
    exact ret_none rfl R ⟨rfl, SP⟩
  | true =>
    have fb11 := hb11; clear hb11
    simp only [decide_eq_true_eq, decide_eq_false_iff_not, bne_iff_ne, bne_eq_false_iff_eq, beq_iff_eq, beq_eq_false_iff_ne, ne_eq, Bool.not_eq_true', Bool.not_eq_false', Bool.not_eq_eq_eq_not, Bool.not_true, Bool.not_false] at fb11
    refine wp_cond_true (x := Code.skip) (y := c45_11) (eval_slot h7) ?_
    refine wp_skip ?_
    change (c45_12).wp _ _ _ _
    refine wp_seq (x := c45_13) (y := c45_19) ?_
    refine wp_block (id := 1) (c := c45_14) ?_
    refine wp_seq (x := c45_15) (y := c45_16) ?_
    change (Code.region 3 O45_3 false).wp _ _ _ _
    refine reg_in (l := [0, 1]) rfl ?_
    have E := Ag_.refl a12
    refine st_val g45_3_0 rfl (wanted_free rfl) (ym_ rfl (E.of h6)) fun a13 e => ?_
    have g8 := R.at_ e (by decide); replace R := R.put e; replace E := E.put e; have h8 := g8; clear g8; clear e
    refine st_val g45_3_1 rfl (wanted_free rfl) (ya_ rfl h8) fun a14 e => ?_
    have g2 := R.at_ e (by decide); replace R := R.put e; replace E := E.put e; replace h8 := so_ e h8; have h2 := g2; clear g2; clear e
    refine st_end ?_
    replace h1 := E.of h1; replace h5 := E.of h5; replace h6 := E.of h6; replace h7 := E.of h7; clear E
    change (c45_16).wp _ _ _ _
    refine wp_seq (x := c45_17) (y := c45_18) ?_
    change (Code.region 4 O45_4 false).wp _ _ _ _
    refine reg_in (l := [0, 1, 2, 3, 4, 5]) rfl ?_
    have E := Ag_.refl a14
    have Y : (execOp a14.eval o45_4_0).run Try.prog w9 = .ok (.value (.pointer (some ⟨b1, 3, none⟩))) w9 := by have r1 := E.of h1; unfold o45_4_0; go_simp
    refine st_val g45_4_0 rfl (wanted_free rfl) Y fun a15 e => ?_; clear Y
    have g9 := R.at_ e (by decide); replace R := R.put e; replace E := E.put e; have h9 := g9; clear g9; clear e
    have Y : (execOp a15.eval o45_4_1).run Try.prog w9 = .ok (.value (.slice a na c)) w9 := by have qq0 : w9.cell? ⟨b1, 0, none⟩ = some (.int .i64 kd) := B1.cell 0; have qq1 : w9.cell? ⟨b1, 1, none⟩ = some (.string s) := B1.cell 1; have qq2 : w9.cell? ⟨b1, 2, none⟩ = some (.int .i64 i) := B1.cell 2; have qq3 : w9.cell? ⟨b1, 3, none⟩ = some (.slice a na c) := B1.cell 3; unfold o45_4_1; go_simp
    refine st_val g45_4_1 rfl (wanted_free rfl) Y fun a16 e => ?_; clear Y
    have g10 := R.at_ e (by decide); replace R := R.put e; replace E := E.put e; replace h9 := so_ e h9; have h10 := g10; clear g10; clear e
    refine st_val g45_4_2 rfl (wanted_free rfl) (ym_ rfl (E.of h2)) fun a17 e => ?_
    have g11 := R.at_ e (by decide); replace R := R.put e; replace E := E.put e; replace h9 := so_ e h9; replace h10 := so_ e h10; have h11 := g11; clear g11; clear e
    obtain ⟨gA, hA, hR⟩ := HEA.out j (by omega)
    have hltA : (j : Int) < (na : Int) := by omega
    have HA := Lib.hid hA; clear hA
    have Y : (execOp a17.eval o45_4_3).run Try.prog w9 = .ok (.value (.pointer (some ⟨gA, j * 4, none⟩))) w9 := by have hA := HA.out; unfold o45_4_3; go_simp
    refine st_val g45_4_3 rfl (wanted_free rfl) Y fun a18 e => ?_; clear Y
    have g12 := R.at_ e (by decide); replace R := R.put e; replace E := E.put e; replace h9 := so_ e h9; replace h10 := so_ e h10; replace h11 := so_ e h11; have h12 := g12; clear g12; clear e
    obtain ⟨cs, hB, hsz, kk0, i0, nm0, a0, n0, c0, q0, q1, q2, q3, hcall⟩ := HEL.out w9 SP j (by omega) gA HA.out
    have HB := Lib.hid hB; clear hB; have HC := Lib.hid hcall; clear hcall
    have Y : (execOp a18.eval o45_4_4).run Try.prog w9 = .ok (.value (.agg #[.int .i64 kk0, .string nm0, .int .i64 i0, .slice a0 n0 c0])) w9 := by have u0 := HB.out.cell (j * 4); rw [q0] at u0; have u1 := HB.out.cell (j * 4 + 1); rw [q1] at u1; have u2 := HB.out.cell (j * 4 + 2); rw [q2] at u2; have u3 := HB.out.cell (j * 4 + 3); rw [q3] at u3; unfold o45_4_4; go_simp
    refine st_val g45_4_4 rfl (wanted_free rfl) Y fun a19 e => ?_; clear Y
    have g13 := R.at_ e (by decide); replace R := R.put e; replace E := E.put e; replace h9 := so_ e h9; replace h10 := so_ e h10; replace h11 := so_ e h11; replace h12 := so_ e h12; have h13 := g13; clear g13; clear e
    have Y : (execOp a19.eval o45_4_5).run Try.prog w9 = .ok (.enter 45 #[.agg #[.int .i64 kk0, .string nm0, .int .i64 i0, .slice a0 n0 c0]]) w9 := by unfold o45_4_5; go_simp
    refine st_call g45_4_5 rfl (wanted_free rfl) Y ((HC.out).mono ?_); clear Y
    rintro e9 w20 ⟨rfl, ks⟩
    replace B1 := B1.keep ks.kp HRB
    replace SP := SP.trans ks; clear ks HC HB q0 q1 q2 q3
    refine ⟨_, rfl, fun a21 e => ?_⟩
    replace R := R.put e; replace E := E.put e; replace h9 := so_ e h9; replace h10 := so_ e h10; replace h11 := so_ e h11; replace h12 := so_ e h12; replace h13 := so_ e h13; clear e
    refine st_end ?_
    replace h1 := E.of h1; replace h2 := E.of h2; replace h5 := E.of h5; replace h6 := E.of h6; replace h7 := E.of h7; replace h8 := E.of h8; clear E
    change (c45_18).wp _ _ _ _
    change (Code.region 5 O45_5 false).wp _ _ _ _
    refine reg_in (l := [0, 1, 2, 3, 4, 5]) rfl ?_
    have E := Ag_.refl a21
    have Y : (execOp a21.eval o45_5_0).run Try.prog w20 = .ok (.value (.pointer (some ⟨b1, 3, none⟩))) w20 := by have r1 := E.of h1; unfold o45_5_0; go_simp
    refine st_val g45_5_0 rfl (wanted_free rfl) Y fun a22 e => ?_; clear Y
    have g15 := R.at_ e (by decide); replace R := R.put e; replace E := E.put e; have h15 := g15; clear g15; clear e
    have Y : (execOp a22.eval o45_5_1).run Try.prog w20 = .ok (.value (.slice a na c)) w20 := by have qq0 : w20.cell? ⟨b1, 0, none⟩ = some (.int .i64 kd) := B1.cell 0; have qq1 : w20.cell? ⟨b1, 1, none⟩ = some (.string s) := B1.cell 1; have qq2 : w20.cell? ⟨b1, 2, none⟩ = some (.int .i64 i) := B1.cell 2; have qq3 : w20.cell? ⟨b1, 3, none⟩ = some (.slice a na c) := B1.cell 3; unfold o45_5_1; go_simp
    refine st_val g45_5_1 rfl (wanted_free rfl) Y fun a23 e => ?_; clear Y
    have g16 := R.at_ e (by decide); replace R := R.put e; replace E := E.put e; replace h15 := so_ e h15; have h16 := g16; clear g16; clear e
    refine st_val g45_5_2 rfl (wanted_free rfl) (ym_ rfl (E.of h2)) fun a24 e => ?_
    have g17 := R.at_ e (by decide); replace R := R.put e; replace E := E.put e; replace h15 := so_ e h15; replace h16 := so_ e h16; have h17 := g17; clear g17; clear e
    have Y : (execOp a24.eval o45_5_3).run Try.prog w20 = .ok (.value (.agg #[.int .i64 2, .string (⟨#[]⟩), .int .i64 77, .slice none 0 0])) w20 := by unfold o45_5_3; go_simp
    refine st_val g45_5_3 rfl (wanted_free rfl) Y fun a25 e => ?_; clear Y
    have g18 := R.at_ e (by decide); replace R := R.put e; replace E := E.put e; replace h15 := so_ e h15; replace h16 := so_ e h16; replace h17 := so_ e h17; have h18 := g18; clear g18; clear e
    have Y : (execOp a25.eval o45_5_4).run Try.prog w20 = .ok (.value (.pointer (some ⟨gA, j * 4, none⟩))) w20 := by have hA := HA.out; unfold o45_5_4; go_simp
    refine st_val g45_5_4 rfl (wanted_free rfl) Y fun a26 e => ?_; clear Y
    have g19 := R.at_ e (by decide); replace R := R.put e; replace E := E.put e; replace h15 := so_ e h15; replace h16 := so_ e h16; replace h17 := so_ e h17; replace h18 := so_ e h18; have h19 := g19; clear g19; clear e
    obtain ⟨cs2, hB2, hsz2, -⟩ := HEL.out w20 SP j (by omega) gA HA.out
    have HEQ := HEL.out w20 SP j (by omega) gA HA.out
    have Y : (execOp a26.eval o45_5_5).run Try.prog w20 = .ok .skip ((((w20.setCell ⟨gA, j * 4, none⟩ (.int .i64 2)).setCell ⟨gA, j * 4 + 1, none⟩ (.string ⟨#[]⟩)).setCell ⟨gA, j * 4 + 2, none⟩ (.int .i64 77)).setCell ⟨gA, j * 4 + 3, none⟩ (.slice none 0 0)) := by obtain ⟨cs3, hB3, hsz3, k9, i9, nm9, a9, n9, c9, r0, r1, r2, r3, -⟩ := HEQ; have z0 := hB3.frozen (j * 4); have z1 := hB3.frozen (j * 4 + 1); have z2 := hB3.frozen (j * 4 + 2); have z3 := hB3.frozen (j * 4 + 3); have u0 := hB3.cell (j * 4); rw [r0] at u0; have u1 := hB3.cell (j * 4 + 1); rw [r1] at u1; have u2 := hB3.cell (j * 4 + 2); rw [r2] at u2; have u3 := hB3.cell (j * 4 + 3); rw [r3] at u3; clear r0 r1 r2 r3 hB3 hsz3 hB2; unfold o45_5_5; go_simp
    have ks : Spo RR w20 ((((w20.setCell ⟨gA, j * 4, none⟩ (.int .i64 2)).setCell ⟨gA, j * 4 + 1, none⟩ (.string ⟨#[]⟩)).setCell ⟨gA, j * 4 + 2, none⟩ (.int .i64 77)).setCell ⟨gA, j * 4 + 3, none⟩ (.slice none 0 0)) := Spo.slot hB2 hR hsz2
    clear HEQ hB2 hsz2
    generalize ((((w20.setCell ⟨gA, j * 4, none⟩ (.int .i64 2)).setCell ⟨gA, j * 4 + 1, none⟩ (.string ⟨#[]⟩)).setCell ⟨gA, j * 4 + 2, none⟩ (.int .i64 77)).setCell ⟨gA, j * 4 + 3, none⟩ (.slice none 0 0)) = w27 at Y ks
    replace B1 := B1.keep ks.kp HRB
    replace SP := SP.trans ks; clear ks
    refine st_skip g45_5_5 rfl (wanted_free rfl) Y ?_; clear Y
    refine st_end ?_
    replace h1 := E.of h1; replace h2 := E.of h2; replace h5 := E.of h5; replace h6 := E.of h6; replace h7 := E.of h7; replace h8 := E.of h8; replace h9 := E.of h9; replace h10 := E.of h10; replace h11 := E.of h11; replace h12 := E.of h12; replace h13 := E.of h13; clear E
    change (c45_19).wp _ _ _ _
    change (Code.region 6 O45_6 false).wp _ _ _ _
    refine reg_in (l := [0, 1]) rfl ?_
    have E := Ag_.refl a26
    have Y : (execOp a26.eval o45_6_0).run Try.prog w27 = .ok (.value (.int .i64 ((j : Int) + 1))) w27 := by have r6 := E.of h6; have hwj : IntKind.i64.wrap ((j : Int) + 1) = (j : Int) + 1 := (by rw [IntKind.wrap_i64]; omega); unfold o45_6_0; go_simp
    refine st_val g45_6_0 rfl (wanted_free rfl) Y fun a28 e => ?_; clear Y
    have g20 := R.at_ e (by decide); replace R := R.put e; replace E := E.put e; have h20 := g20; clear g20; clear e
    refine st_val g45_6_1 rfl (wanted_free rfl) (ym_ rfl h20) fun a29 e => ?_
    have g6 := R.at_ e (by decide); replace R := R.put e; replace E := E.put e; replace h20 := so_ e h20; clear h6; have h6 := g6; clear g6; clear e
    refine st_end ?_
    replace h1 := E.of h1; replace h2 := E.of h2; replace h5 := E.of h5; replace h7 := E.of h7; replace h8 := E.of h8; replace h9 := E.of h9; replace h10 := E.of h10; replace h11 := E.of h11; replace h12 := E.of h12; replace h13 := E.of h13; replace h15 := E.of h15; replace h16 := E.of h16; replace h17 := E.of h17; replace h18 := E.of h18; replace h19 := E.of h19; clear E
    exact ⟨_, by omega, j + 1, rfl, R, h1, h5, h6, B1, (by omega), SP⟩
theorem spoil_any {RR : Nat → Prop} : ∀ (d : Nat) (W : World), (∀ g, RR g → g < W.heap.size) → ∀ (kd i : Int) (s : ByteArray) (a : Option Addr) (n c : Nat), Sl4 RR W d a n →
    Calls Try.prog 45 #[.agg #[.int .i64 kd, .string s, .int .i64 i, .slice a n c]] W fun e w' => e = .returned (.tuple #[]) ∧ Spo RR W w' := by
  intro d
  induction d with
  | zero =>
    intro W hW kd i s a n c hS
    have hn : n = 0 := hS
    refine enter_sx Try.func45 body45 rfl (by show (1 : Nat) ≤ 21; decide) fun f0 R hs => ?_
    exact spoil_w R (hs 0 _ rfl) (Keep.refl _ W) (Lib.hid hW) (Lib.hid (by omega)) (Lib.hid fun j hj => by omega) (Lib.hid fun w _ j hj => by omega)
  | succ d ih =>
    intro W hW kd i s a n c hS
    refine enter_sx Try.func45 body45 rfl (by show (1 : Nat) ≤ 21; decide) fun f0 R hs => ?_
    refine spoil_w R (hs 0 _ rfl) (Keep.refl _ W) (Lib.hid hW) (Lib.hid ?_) (Lib.hid fun j hj => ?_) (Lib.hid fun w hw j hj g hg => ?_)
    · rcases hS with h | ⟨g, cs, h1, h2, h3, h4, h5, h6⟩
      · omega
      · exact h5
    · rcases hS with h | ⟨g, cs, h1, h2, h3, h4, h5, h6⟩
      · omega
      · exact ⟨g, h1, h2⟩
    · rcases Sl4.on (d + 1) hS hw with h | ⟨g', cs, h1, h2, h3, h4, h5, h6⟩
      · omega
      · rw [hg] at h1
        cases h1
        obtain ⟨k, i', nm, a', n', c', q0, q1, q2, q3, q4⟩ := h6 j hj
        exact ⟨cs, h3, by omega, k, i', nm, a', n', c', q0, q1, q2, q3, ih w (fun g hg => Nat.lt_of_lt_of_le (hW g hg) hw.kp.size) k i' nm a' n' c' q4⟩
end Go.Proofs.Ythbofkffklejoaa
