/-
  An atom is written; terms with commas between, given what writing one does. Condition: fewer than 2^47 bytes; the listed variables.
-/
import Derived.Test.YtfkbbbjicaedmaaGreatDoorUWrH
namespace Go.Proofs.YtfkbbbjicaedmaaGreatDoor
open Go.RowKit Go.Maps
set_option linter.unusedVariables false
set_option linter.unusedSimpArgs false
theorem VarsAt.on {B : Nat} {W w : World} (h : VarsAt B W) (k : Keep (fun g => g < B) W w) : VarsAt B w := fun w' k' => h w' (k.trans k')
theorem SlS.at_ {S : Nat → Prop} {w : World} {a : Option Addr} {ps : List TP} (h : SlS S w a ps) {b off : Nat} (ha : a = some ⟨b, off, none⟩) {j : Nat} {p : TP} (hp : ps[j]? = some p) : (w.cell? ⟨b, off + j * 4, none⟩ = some (.int .i64 p.1.k) ∧ w.cell? ⟨b, off + j * 4 + 1, none⟩ = some (.string (str p.1.nm)) ∧ w.cell? ⟨b, off + j * 4 + 2, none⟩ = some (.int .i64 p.1.i) ∧ w.cell? ⟨b, off + j * 4 + 3, none⟩ = some (.slice p.2.1 p.1.args.length p.2.2)) ∧ TmS S w p.1 p.2.1 p.2.2 := by
  obtain ⟨b', off', e, ⟨h0, h1, h2, h3⟩, ht⟩ := h.mem hp
  rw [ha] at e
  cases e
  exact ⟨⟨h0, by rw [Nat.add_assoc]; exact h1, by rw [Nat.add_assoc]; exact h2, by rw [Nat.add_assoc]; exact h3⟩, ht⟩
def oz33_0_0 : Oper := ⟨some 4, Op.move (Operand.tmp 1), 9, "writer.go:34", #[], none⟩
def oz33_0_1 : Oper := ⟨some 5, Op.binOp Go.BinOp.eql 9 (Operand.tmp 4) (Operand.const (Value.string { data := #[91, 93] })) 9, 4, "writer.go:34", #[ed_ 0], none⟩
def oz33_0_2 : Oper := ⟨some 6, Op.move (Operand.tmp 5), 4, "writer.go:34", #[ed_ 1], none⟩
def oz33_0_3 : Oper := ⟨some 7, Op.move (Operand.tmp 1), 9, "writer.go:34", #[eg_ 2], some (2, false)⟩
def oz33_0_4 : Oper := ⟨some 8, Op.binOp Go.BinOp.eql 9 (Operand.tmp 7) (Operand.const (Value.string { data := #[123, 125] })) 9, 4, "writer.go:34", #[ed_ 3, eg_ 2], some (2, false)⟩
def oz33_0_5 : Oper := ⟨some 9, Op.pick (Operand.tmp 6) (Operand.const (Value.bool true)) (Operand.tmp 8), 4, "writer.go:34", #[ed_ 2, ed_ 4], none⟩
def Oz33_0 : Array Oper := List.toArray (oz33_0_0 :: oz33_0_1 :: oz33_0_2 :: oz33_0_3 :: oz33_0_4 :: oz33_0_5 :: [])
theorem gz33_0_0 : Oz33_0[0]? = some oz33_0_0 := rfl
theorem gz33_0_1 : Oz33_0[1]? = some oz33_0_1 := rfl
theorem gz33_0_2 : Oz33_0[2]? = some oz33_0_2 := rfl
theorem gz33_0_3 : Oz33_0[3]? = some oz33_0_3 := rfl
theorem gz33_0_4 : Oz33_0[4]? = some oz33_0_4 := rfl
theorem gz33_0_5 : Oz33_0[5]? = some oz33_0_5 := rfl
def cz33_2 : Code := Code.region 0 Oz33_0 false
def oz33_1_0 : Oper := ⟨some 10, Op.move (Operand.tmp 0), 57, "writer.go:35", #[], none⟩
def oz33_1_1 : Oper := ⟨some 11, Op.nilCheck (Operand.tmp 10), 0, "writer.go:35", #[ed_ 0], none⟩
def oz33_1_2 : Oper := ⟨some 12, Op.fieldAddr 46 (Operand.tmp 11) 0, 0, "writer.go:35", #[ed_ 1], none⟩
def oz33_1_3 : Oper := ⟨some 13, Op.move (Operand.tmp 1), 9, "writer.go:35", #[], none⟩
def oz33_1_4 : Oper := ⟨some 14, Op.call { callee := Callee.value (Operand.func 37), args := #[Operand.tmp 12, Operand.tmp 13], argTypes := #[44, 9] }, 61, "writer.go:35", #[ed_ 2, ed_ 3], none⟩
def Oz33_1 : Array Oper := List.toArray (oz33_1_0 :: oz33_1_1 :: oz33_1_2 :: oz33_1_3 :: oz33_1_4 :: [])
theorem gz33_1_0 : Oz33_1[0]? = some oz33_1_0 := rfl
theorem gz33_1_1 : Oz33_1[1]? = some oz33_1_1 := rfl
theorem gz33_1_2 : Oz33_1[2]? = some oz33_1_2 := rfl
theorem gz33_1_3 : Oz33_1[3]? = some oz33_1_3 := rfl
theorem gz33_1_4 : Oz33_1[4]? = some oz33_1_4 := rfl
def cz33_5 : Code := Code.region 1 Oz33_1 false
def cz33_4 : Code := Code.seq cz33_5 Code.ret
def cz33_3 : Code := Code.cond (Operand.tmp 9) cz33_4 Code.skip
def cz33_1 : Code := Code.seq cz33_2 cz33_3
def oz33_2_0 : Oper := ⟨some 15, Op.move (Operand.tmp 0), 57, "writer.go:38", #[], none⟩
def oz33_2_1 : Oper := ⟨some 16, Op.move (Operand.tmp 1), 9, "writer.go:38", #[], none⟩
def oz33_2_2 : Oper := ⟨some 17, Op.call { callee := Callee.value (Operand.func 42), args := #[Operand.tmp 15, Operand.tmp 16], argTypes := #[57, 9] }, 0, "writer.go:38", #[ed_ 0, ed_ 1], none⟩
def Oz33_2 : Array Oper := List.toArray (oz33_2_0 :: oz33_2_1 :: oz33_2_2 :: [])
theorem gz33_2_0 : Oz33_2[0]? = some oz33_2_0 := rfl
theorem gz33_2_1 : Oz33_2[1]? = some oz33_2_1 := rfl
theorem gz33_2_2 : Oz33_2[2]? = some oz33_2_2 := rfl
def cz33_8 : Code := Code.region 2 Oz33_2 false
def cz33_0 : Code := Code.seq cz33_1 cz33_8
theorem enz33_1037 : Enters Tryz.prog 37 := enters_of Tryz.func37 (by kernel_rfl) rfl
theorem enz33_1042 : Enters Tryz.prog 42 := enters_of Tryz.func42 (by kernel_rfl) rfl
theorem bodyz33 : Tryz.f33.body = some cz33_0 := by kernel_rfl
set_option maxRecDepth 100000 in
set_option maxHeartbeats 4000000 in
theorem atom_w {W : World} {B b : Nat} {R0 : Nat → Prop} {l0 L : List UInt8} {f0 : Act} {w0 : World} (R : FrS 18 f0) (h0 : f0.tmps[0]? = some (.pointer (some ⟨b, 0, none⟩))) (h1 : f0.tmps[1]? = some (.string (str L))) (KP : Keep (fun g => g < W.heap.size) W w0)  (HW : Hid (WAt B R0 W b l0)) (HV : Hid (VarsAt B W)) (HL : Hid (l0.length + (atmX bareC L).length ≤ 140737488355328)) (HLN : Hid (L.length ≤ 4611686018427387904)) : cz33_0.wp Tryz.prog (bodyPost Tryz.prog Tryz.f33 (fun e w' => e = .returned (.tuple #[]) ∧ Wr B R0 W w' b (l0 ++ atmX bareC L))) f0 w0 := by
  have HBW := HW.out.le; have HB0 : Hid (∀ k, R0 k → B ≤ k) := Lib.hid fun k hk => (HW.out.rr k hk).1; have HRR : Hid (∀ k, R0 k → R0 k ∨ W.heap.size ≤ k) := Lib.hid fun k hk => .inl hk
  have KX : Keep (fun g => g < W.heap.size ∧ ¬ R0 g) W w0 := KP.less fun g hg => hg.1
  obtain ⟨RR, hRR⟩ : ∃ q, q = R0 := ⟨_, rfl⟩; have HW2 : Hid (WAt B RR W b l0) := Lib.hid (by rw [hRR]; exact HW.out); have HR3 : Hid (∀ k, RR k → R0 k ∨ W.heap.size ≤ k) := Lib.hid (by rw [hRR]; exact HRR.out); clear HW HRR hRR; have HW := HW2; have HRR := HR3; clear HW2 HR3
  refine wp_seq (x := cz33_1) (y := cz33_8) ?_
  refine wp_seq (x := cz33_2) (y := cz33_3) ?_
  change (Code.region 0 Oz33_0 false).wp _ _ _ _
  refine reg_in (l := [0, 1, 2, 3, 4, 5]) rfl ?_
  have F : FE_ _ [] f0 f0 := ⟨R, Ag_.refl _⟩; clear R
  refine sv_ gz33_0_0 (ym_ rfl (F.of h1)) fun a101 e => ?_
  have h4 := pt_ F e; replace F := pu_ F e; clear e
  obtain ⟨l1, hl1⟩ : ∃ q, ((str L).toList == [91, 93]) = q := ⟨_, rfl⟩
  have Y : (execOp a101.eval oz33_0_1).run Tryz.prog w0 = .ok (.value (.bool l1)) w0 := by have e1 : ((str L).toList == [91, 93]) = l1 := hl1; unfold oz33_0_1; go_simp
  refine sv_ gz33_0_1 Y fun a102 e => ?_; clear Y
  clear h4; have h5 := pt_ F e; replace F := pu_ F e; clear e
  refine sv_ gz33_0_2 (ym_ rfl h5) fun a103 e => ?_
  clear h5; have h6 := pt_ F e; replace F := pu_ F e; clear e
  cases l1 with
  | false =>
    refine st_val gz33_0_3 rfl (wanted_is (j := 2) (d := 6) rfl rfl h6 rfl) (ym_ rfl (F.of h1)) fun a104 e => ?_
    have h7 := pt_ F e; replace F := pu_ F e; replace h6 := so_ e h6; clear e
    obtain ⟨l2, hl2⟩ : ∃ q, ((str L).toList == [123, 125]) = q := ⟨_, rfl⟩
    have Y : (execOp a104.eval oz33_0_4).run Tryz.prog w0 = .ok (.value (.bool l2)) w0 := by have e1 : ((str L).toList == [123, 125]) = l2 := hl2; unfold oz33_0_4; go_simp
    refine st_val gz33_0_4 rfl (wanted_is (j := 2) (d := 6) rfl rfl h6 rfl) Y fun a105 e => ?_; clear Y
    clear h7; have h8 := pt_ F e; replace F := pu_ F e; replace h6 := so_ e h6; clear e
    have Y : (execOp a105.eval oz33_0_5).run Tryz.prog w0 = .ok (.value (.bool l2)) w0 := by unfold oz33_0_5; go_simp
    refine sv_ gz33_0_5 Y fun a106 e => ?_; clear Y
    clear h6 h8; have h9 := pt_ F e; replace F := pu_ F e; clear e
    refine st_end ?_
    replace h0 := F.of h0; replace h1 := F.of h1; have R := F.r; clear F
    change (cz33_3).wp _ _ _ _
    cases l2 with
    | false =>
      refine wp_cond_false (x := cz33_4) (y := Code.skip) (eval_slot h9) ?_
      refine wp_skip ?_
      change (cz33_8).wp _ _ _ _
      change (Code.region 2 Oz33_2 false).wp _ _ _ _
      have HF : Hid (atmX bareC L = funX bareC L) := Lib.hid (by unfold atmX; rw [if_neg (fun h => h.elim (fun h => by have h1 := hl1; rw [str_list, h] at h1; simp at h1) (fun h => by have h1 := hl2; rw [str_list, h] at h1; simp at h1))])
      refine reg_in (l := [0, 1, 2]) rfl ?_
      have F : FE_ _ [] a106 a106 := ⟨R, Ag_.refl _⟩; clear R
      refine sv_ gz33_2_0 (ym_ rfl (F.of h0)) fun a107 e => ?_
      have h15 := pt_ F e; replace F := pu_ F e; clear e
      refine sv_ gz33_2_1 (ym_ rfl (F.of h1)) fun a108 e => ?_
      have h16 := pt_ F e; replace F := pu_ F e; replace h15 := so_ e h15; clear e
      refine st_call gz33_2_2 rfl (wanted_free rfl) (yc2_ enz33_1042 rfl h15 h16) ((wname_any (HW.out.on KP) (HV.out.on (KX.less fun g hg => ⟨Nat.lt_of_lt_of_le hg HBW, fun h => absurd hg (Nat.not_lt.2 (HB0.out g h))⟩)) (by have h := HL.out; rw [HF.out] at h; exact h) HLN.out).mono ?_)
      rintro e9 w109 ⟨rfl, ⟨RR2, hw, hr⟩, kf⟩
      have HR2 : Hid (∀ k, RR2 k → R0 k ∨ W.heap.size ≤ k) := Lib.hid fun k hk => (hr k hk).elim (HRR.out k) (fun h => .inr (Nat.le_trans KX.size h))
      replace KX := KX.trans (kf.less fun g hg => ⟨Nat.lt_of_lt_of_le hg.1 KX.size, fun h => (HRR.out g h).elim hg.2 (fun h => absurd hg.1 (Nat.not_lt.2 h))⟩)
      clear HW HRR hr kf KP; have HW := Lib.hid hw; clear hw; have HRR := HR2; clear HR2
      obtain ⟨RR, hRR⟩ : ∃ q, q = RR2 := ⟨_, rfl⟩; rw [← hRR] at HW HRR; clear hRR RR2
      have kk := trivial
      clear kk
      have KP := Keep.refl (fun g => g < w109.heap.size) w109
      refine ⟨_, rfl, fun a110 e => ?_⟩
      clear h15 h16; replace F := pu_ F e; clear e
      refine st_end ?_
      clear h0; clear h1; clear h9; have R := F.r; clear F
      change bodyPost Tryz.prog Tryz.f33 (fun e w' => e = .returned (.tuple #[]) ∧ Wr B R0 W w' b (l0 ++ atmX bareC L)) .normal a110 w109
      refine bodyPost_end (results_none rfl _ _ _) R.defers ?_
      exact ⟨rfl, ⟨RR, by have hw := HW.out.on KP; rw [HF.out]; exact hw, HRR.out⟩, KX⟩
    | true =>
      refine wp_cond_true (x := cz33_4) (y := Code.skip) (eval_slot h9) ?_
      refine wp_seq (x := cz33_5) (y := Code.ret) ?_
      change (Code.region 1 Oz33_1 false).wp _ _ _ _
      have HF : Hid (atmX bareC L = L) := Lib.hid (by unfold atmX; rw [if_pos (by first | exact .inl (by have h := hl1; rw [str_list] at h; simpa using h) | exact .inr (by have h := hl2; rw [str_list] at h; simpa using h))])
      refine reg_in (l := [0, 1, 2, 3, 4]) rfl ?_
      have F : FE_ _ [] a106 a106 := ⟨R, Ag_.refl _⟩; clear R
      refine sv_ gz33_1_0 (ym_ rfl (F.of h0)) fun a111 e => ?_
      have h10 := pt_ F e; replace F := pu_ F e; clear e
      have Y : (execOp a111.eval oz33_1_1).run Tryz.prog w0 = .ok (.value (.pointer (some ⟨b, 0, none⟩))) w0 := by unfold oz33_1_1; go_simp
      refine sv_ gz33_1_1 Y fun a112 e => ?_; clear Y
      clear h10; have h11 := pt_ F e; replace F := pu_ F e; clear e
      have Y : (execOp a112.eval oz33_1_2).run Tryz.prog w0 = .ok (.value (.pointer (some ⟨b, 0, none⟩))) w0 := by unfold oz33_1_2; go_simp
      refine sv_ gz33_1_2 Y fun a113 e => ?_; clear Y
      clear h11; have h12 := pt_ F e; replace F := pu_ F e; clear e
      refine sv_ gz33_1_3 (ym_ rfl (F.of h1)) fun a114 e => ?_
      have h13 := pt_ F e; replace F := pu_ F e; replace h12 := so_ e h12; clear e
      refine st_call gz33_1_4 rfl (wanted_free rfl) (yc2_ enz33_1037 rfl h12 h13) ((wstr_any (HW.out.on KP) L (by have h := HL.out; rw [HF.out] at h; exact h)).mono ?_)
      rintro e9 w115 ⟨rfl, ⟨RR2, hw, hr⟩, kf⟩
      have HR2 : Hid (∀ k, RR2 k → R0 k ∨ W.heap.size ≤ k) := Lib.hid fun k hk => (hr k hk).elim (HRR.out k) (fun h => .inr (Nat.le_trans KX.size h))
      replace KX := KX.trans (kf.less fun g hg => ⟨Nat.lt_of_lt_of_le hg.1 KX.size, fun h => (HRR.out g h).elim hg.2 (fun h => absurd hg.1 (Nat.not_lt.2 h))⟩)
      clear HW HRR hr kf KP; have HW := Lib.hid hw; clear hw; have HRR := HR2; clear HR2
      obtain ⟨RR, hRR⟩ : ∃ q, q = RR2 := ⟨_, rfl⟩; rw [← hRR] at HW HRR; clear hRR RR2
      have kk := trivial
      clear kk
      have KP := Keep.refl (fun g => g < w115.heap.size) w115
      refine ⟨_, rfl, fun a116 e => ?_⟩
      clear h12 h13; replace F := pu_ F e; clear e
      refine st_end ?_
      replace h0 := F.of h0; replace h1 := F.of h1; clear h9; have R := F.r; clear F
      change (Code.ret).wp _ _ _ _
      refine wp_ret ?_
      change bodyPost Tryz.prog Tryz.f33 (fun e w' => e = .returned (.tuple #[]) ∧ Wr B R0 W w' b (l0 ++ atmX bareC L)) .ret a116 w115
      refine bodyPost_ret (results_none rfl _ _ _) R.defers ?_
      exact ⟨rfl, ⟨RR, by have hw := HW.out.on KP; rw [HF.out]; exact hw, HRR.out⟩, KX⟩
  | true =>
    refine st_not gz33_0_3 rfl (wanted_is (j := 2) (d := 6) rfl rfl h6 rfl) fun a117 e => ?_
    have h7 := pt_ F e; replace F := pu_ F e; replace h6 := so_ e h6; clear e
    refine st_not gz33_0_4 rfl (wanted_is (j := 2) (d := 6) rfl rfl h6 rfl) fun a118 e => ?_
    clear h7; have h8 := pt_ F e; replace F := pu_ F e; replace h6 := so_ e h6; clear e
    have Y : (execOp a118.eval oz33_0_5).run Tryz.prog w0 = .ok (.value (.bool true)) w0 := by unfold oz33_0_5; go_simp
    refine sv_ gz33_0_5 Y fun a119 e => ?_; clear Y
    clear h6 h8; have h9 := pt_ F e; replace F := pu_ F e; clear e
    refine st_end ?_
    replace h0 := F.of h0; replace h1 := F.of h1; have R := F.r; clear F
    change (cz33_3).wp _ _ _ _
    refine wp_cond_true (x := cz33_4) (y := Code.skip) (eval_slot h9) ?_
    refine wp_seq (x := cz33_5) (y := Code.ret) ?_
    change (Code.region 1 Oz33_1 false).wp _ _ _ _
    have HF : Hid (atmX bareC L = L) := Lib.hid (by unfold atmX; rw [if_pos (by first | exact .inl (by have h := hl1; rw [str_list] at h; simpa using h) | exact .inr (by have h := hl2; rw [str_list] at h; simpa using h))])
    refine reg_in (l := [0, 1, 2, 3, 4]) rfl ?_
    have F : FE_ _ [] a119 a119 := ⟨R, Ag_.refl _⟩; clear R
    refine sv_ gz33_1_0 (ym_ rfl (F.of h0)) fun a120 e => ?_
    have h10 := pt_ F e; replace F := pu_ F e; clear e
    have Y : (execOp a120.eval oz33_1_1).run Tryz.prog w0 = .ok (.value (.pointer (some ⟨b, 0, none⟩))) w0 := by unfold oz33_1_1; go_simp
    refine sv_ gz33_1_1 Y fun a121 e => ?_; clear Y
    clear h10; have h11 := pt_ F e; replace F := pu_ F e; clear e
    have Y : (execOp a121.eval oz33_1_2).run Tryz.prog w0 = .ok (.value (.pointer (some ⟨b, 0, none⟩))) w0 := by unfold oz33_1_2; go_simp
    refine sv_ gz33_1_2 Y fun a122 e => ?_; clear Y
    clear h11; have h12 := pt_ F e; replace F := pu_ F e; clear e
    refine sv_ gz33_1_3 (ym_ rfl (F.of h1)) fun a123 e => ?_
    have h13 := pt_ F e; replace F := pu_ F e; replace h12 := so_ e h12; clear e
    refine st_call gz33_1_4 rfl (wanted_free rfl) (yc2_ enz33_1037 rfl h12 h13) ((wstr_any (HW.out.on KP) L (by have h := HL.out; rw [HF.out] at h; exact h)).mono ?_)
    rintro e9 w124 ⟨rfl, ⟨RR2, hw, hr⟩, kf⟩
    have HR2 : Hid (∀ k, RR2 k → R0 k ∨ W.heap.size ≤ k) := Lib.hid fun k hk => (hr k hk).elim (HRR.out k) (fun h => .inr (Nat.le_trans KX.size h))
    replace KX := KX.trans (kf.less fun g hg => ⟨Nat.lt_of_lt_of_le hg.1 KX.size, fun h => (HRR.out g h).elim hg.2 (fun h => absurd hg.1 (Nat.not_lt.2 h))⟩)
    clear HW HRR hr kf KP; have HW := Lib.hid hw; clear hw; have HRR := HR2; clear HR2
    obtain ⟨RR, hRR⟩ : ∃ q, q = RR2 := ⟨_, rfl⟩; rw [← hRR] at HW HRR; clear hRR RR2
    have kk := trivial
    clear kk
    have KP := Keep.refl (fun g => g < w124.heap.size) w124
    refine ⟨_, rfl, fun a125 e => ?_⟩
    clear h12 h13; replace F := pu_ F e; clear e
    refine st_end ?_
    replace h0 := F.of h0; replace h1 := F.of h1; clear h9; have R := F.r; clear F
    change (Code.ret).wp _ _ _ _
    refine wp_ret ?_
    change bodyPost Tryz.prog Tryz.f33 (fun e w' => e = .returned (.tuple #[]) ∧ Wr B R0 W w' b (l0 ++ atmX bareC L)) .ret a125 w124
    refine bodyPost_ret (results_none rfl _ _ _) R.defers ?_
    exact ⟨rfl, ⟨RR, by have hw := HW.out.on KP; rw [HF.out]; exact hw, HRR.out⟩, KX⟩
theorem watom_any {W : World} {B b : Nat} {R0 : Nat → Prop} {l0 L : List UInt8} (h : WAt B R0 W b l0) (hv : VarsAt B W) (hl : l0.length + (atmX bareC L).length ≤ 140737488355328) (hn : L.length ≤ 4611686018427387904) : Calls Tryz.prog 33 #[.pointer (some ⟨b, 0, none⟩), .string (str L)] W fun e w' => e = .returned (.tuple #[]) ∧ Wr B R0 W w' b (l0 ++ atmX bareC L) := by
  refine enter_sx Tryz.func33 bodyz33 rfl (by show (2 : Nat) ≤ 18; decide) fun f0 R0' hs => ?_
  exact atom_w R0' (hs 0 _ rfl) (hs 1 _ rfl) (Keep.refl _ W) (Lib.hid h) (Lib.hid hv) (Lib.hid hl) (Lib.hid hn)
def oz48_0_0 : Oper := ⟨some 6, Op.move (Operand.tmp 1), 22, "writer.go:95", #[], none⟩
def oz48_0_1 : Oper := ⟨some 7, Op.call { callee := Callee.builtin Go.Builtin.len, args := #[Operand.tmp 6], argTypes := #[22] }, 3, "writer.go:95", #[ed_ 0], none⟩
def oz48_0_2 : Oper := ⟨some 8, Op.move (Operand.const (Value.int IntKind.i64 0)), 3, "writer.go:95", #[], none⟩
def Oz48_0 : Array Oper := List.toArray (oz48_0_0 :: oz48_0_1 :: oz48_0_2 :: [])
theorem gz48_0_0 : Oz48_0[0]? = some oz48_0_0 := rfl
theorem gz48_0_1 : Oz48_0[1]? = some oz48_0_1 := rfl
theorem gz48_0_2 : Oz48_0[2]? = some oz48_0_2 := rfl
def cz48_1 : Code := Code.region 0 Oz48_0 false
def oz48_1_0 : Oper := ⟨some 9, Op.binOp Go.BinOp.lss 3 (Operand.tmp 8) (Operand.tmp 7) 3, 0, "writer.go:95", #[], none⟩
def Oz48_1 : Array Oper := List.toArray (oz48_1_0 :: [])
theorem gz48_1_0 : Oz48_1[0]? = some oz48_1_0 := rfl
def cz48_5 : Code := Code.region 1 Oz48_1 false
def cz48_9 : Code := Code.exit 0
def cz48_7 : Code := Code.cond (Operand.tmp 9) Code.skip cz48_9
def oz48_2_0 : Oper := ⟨some 10, Op.move (Operand.tmp 8), 3, "writer.go:95", #[], none⟩
def oz48_2_1 : Oper := ⟨some 11, Op.indexAddr 22 (Operand.tmp 6) (Operand.tmp 8), 0, "writer.go:95", #[], none⟩
def oz48_2_2 : Oper := ⟨some 12, Op.load 24 (Operand.tmp 11), 24, "writer.go:95", #[ed_ 1], none⟩
def oz48_2_3 : Oper := ⟨some 5, Op.alloc 24, 0, "writer.go:95", #[], none⟩
def oz48_2_4 : Oper := ⟨some 4, Op.assign (Operand.tmp 10), 3, "writer.go:95", #[ed_ 0, ep_ 0, ep_ 1, ep_ 2, ep_ 3], none⟩
def oz48_2_5 : Oper := ⟨none, Op.store 24 (Operand.tmp 5) (Operand.tmp 12), 0, "writer.go:95", #[ed_ 3, ed_ 2, ec_ 4, ep_ 0, ep_ 1, ep_ 2, ep_ 3, ep_ 4], none⟩
def Oz48_2 : Array Oper := List.toArray (oz48_2_0 :: oz48_2_1 :: oz48_2_2 :: oz48_2_3 :: oz48_2_4 :: oz48_2_5 :: [])
theorem gz48_2_0 : Oz48_2[0]? = some oz48_2_0 := rfl
theorem gz48_2_1 : Oz48_2[1]? = some oz48_2_1 := rfl
theorem gz48_2_2 : Oz48_2[2]? = some oz48_2_2 := rfl
theorem gz48_2_3 : Oz48_2[3]? = some oz48_2_3 := rfl
theorem gz48_2_4 : Oz48_2[4]? = some oz48_2_4 := rfl
theorem gz48_2_5 : Oz48_2[5]? = some oz48_2_5 := rfl
def cz48_13 : Code := Code.region 2 Oz48_2 false
def oz48_3_0 : Oper := ⟨some 13, Op.move (Operand.tmp 4), 3, "writer.go:96", #[], none⟩
def oz48_3_1 : Oper := ⟨some 14, Op.binOp Go.BinOp.gtr 3 (Operand.tmp 13) (Operand.const (Value.int IntKind.i64 0)) 3, 4, "writer.go:96", #[ed_ 0], none⟩
def Oz48_3 : Array Oper := List.toArray (oz48_3_0 :: oz48_3_1 :: [])
theorem gz48_3_0 : Oz48_3[0]? = some oz48_3_0 := rfl
theorem gz48_3_1 : Oz48_3[1]? = some oz48_3_1 := rfl
def cz48_16 : Code := Code.region 3 Oz48_3 false
def oz48_4_0 : Oper := ⟨some 15, Op.move (Operand.tmp 0), 57, "writer.go:97", #[], none⟩
def oz48_4_1 : Oper := ⟨some 16, Op.nilCheck (Operand.tmp 15), 0, "writer.go:97", #[ed_ 0], none⟩
def oz48_4_2 : Oper := ⟨some 17, Op.fieldAddr 46 (Operand.tmp 16) 0, 0, "writer.go:97", #[ed_ 1], none⟩
def oz48_4_3 : Oper := ⟨some 18, Op.call { callee := Callee.value (Operand.func 36), args := #[Operand.tmp 17, Operand.const (Value.int IntKind.u8 44)], argTypes := #[44, 5] }, 59, "writer.go:97", #[ed_ 2], none⟩
def Oz48_4 : Array Oper := List.toArray (oz48_4_0 :: oz48_4_1 :: oz48_4_2 :: oz48_4_3 :: [])
theorem gz48_4_0 : Oz48_4[0]? = some oz48_4_0 := rfl
theorem gz48_4_1 : Oz48_4[1]? = some oz48_4_1 := rfl
theorem gz48_4_2 : Oz48_4[2]? = some oz48_4_2 := rfl
theorem gz48_4_3 : Oz48_4[3]? = some oz48_4_3 := rfl
def cz48_18 : Code := Code.region 4 Oz48_4 false
def cz48_17 : Code := Code.cond (Operand.tmp 14) cz48_18 Code.skip
def cz48_15 : Code := Code.seq cz48_16 cz48_17
def oz48_5_0 : Oper := ⟨some 19, Op.move (Operand.tmp 0), 57, "writer.go:99", #[], none⟩
def oz48_5_1 : Oper := ⟨some 20, Op.load 24 (Operand.tmp 5), 24, "writer.go:99", #[], none⟩
def oz48_5_2 : Oper := ⟨some 21, Op.call { callee := Callee.value (Operand.func 23), args := #[Operand.tmp 19, Operand.tmp 20], argTypes := #[57, 24] }, 0, "writer.go:99", #[ed_ 0, ed_ 1], none⟩
def Oz48_5 : Array Oper := List.toArray (oz48_5_0 :: oz48_5_1 :: oz48_5_2 :: [])
theorem gz48_5_0 : Oz48_5[0]? = some oz48_5_0 := rfl
theorem gz48_5_1 : Oz48_5[1]? = some oz48_5_1 := rfl
theorem gz48_5_2 : Oz48_5[2]? = some oz48_5_2 := rfl
def cz48_20 : Code := Code.region 5 Oz48_5 false
def cz48_14 : Code := Code.seq cz48_15 cz48_20
def cz48_12 : Code := Code.seq cz48_13 cz48_14
def cz48_11 : Code := Code.block 1 cz48_12
def oz48_6_0 : Oper := ⟨some 22, Op.binOp Go.BinOp.add 3 (Operand.tmp 8) (Operand.const (Value.int IntKind.i64 1)) 3, 3, "writer.go:95", #[], none⟩
def oz48_6_1 : Oper := ⟨some 8, Op.move (Operand.tmp 22), 3, "writer.go:95", #[ed_ 0], none⟩
def Oz48_6 : Array Oper := List.toArray (oz48_6_0 :: oz48_6_1 :: [])
theorem gz48_6_0 : Oz48_6[0]? = some oz48_6_0 := rfl
theorem gz48_6_1 : Oz48_6[1]? = some oz48_6_1 := rfl
def cz48_21 : Code := Code.region 6 Oz48_6 false
def cz48_10 : Code := Code.seq cz48_11 cz48_21
def cz48_6 : Code := Code.seq cz48_7 cz48_10
def cz48_4 : Code := Code.seq cz48_5 cz48_6
def cz48_3 : Code := Code.loop cz48_4
def cz48_2 : Code := Code.block 0 cz48_3
def cz48_0 : Code := Code.seq cz48_1 cz48_2
theorem enz48_1023 : Enters Tryz.prog 23 := enters_of Tryz.func23 (by kernel_rfl) rfl
theorem bodyz48 : Tryz.f48.body = some cz48_0 := by kernel_rfl
set_option maxRecDepth 100000 in
set_option maxHeartbeats 4000000 in
theorem terms_w {k : Nat} {W : World} {B b c : Nat} {R0 S : Nat → Prop} {l0 : List UInt8} {xs : List (List UInt8)} {a : Option Addr} {ps : List TP} {f0 : Act} {w0 : World} (R : FrS 23 f0) (h0 : f0.tmps[0]? = some (.pointer (some ⟨b, 0, none⟩))) (h1 : f0.tmps[1]? = some (.slice a ps.length c)) (KP : Keep (fun g => g < W.heap.size) W w0)  (HW : Hid (WAt B R0 W b l0)) (HV : Hid (VarsAt B W)) (IH : Hid (TermW k)) (HQ : Hid (∀ p ∈ ps, p.1.tree.ns ≤ k ∧ p.1.right = true)) (HDJ : Hid (DJ S R0 W)) (HS : Hid (SlS S W a ps)) (HXS : Hid (xs = ps.map fun p => p.1.tree.tx bareC)) (HL : Hid (l0.length + (joinX xs).length ≤ 140737488355328)) (HLN : Hid (ps.length ≤ 1000000)) : cz48_0.wp Tryz.prog (bodyPost Tryz.prog Tryz.f48 (fun e w' => e = .returned (.tuple #[]) ∧ Wr B R0 W w' b (l0 ++ joinX xs))) f0 w0 := by
  have HBW := HW.out.le; have HB0 : Hid (∀ k, R0 k → B ≤ k) := Lib.hid fun k hk => (HW.out.rr k hk).1; have HRR : Hid (∀ k, R0 k → R0 k ∨ W.heap.size ≤ k) := Lib.hid fun k hk => .inl hk
  have KX : Keep (fun g => g < W.heap.size ∧ ¬ R0 g) W w0 := KP.less fun g hg => hg.1
  obtain ⟨RR, hRR⟩ : ∃ q, q = R0 := ⟨_, rfl⟩; have HW2 : Hid (WAt B RR W b l0) := Lib.hid (by rw [hRR]; exact HW.out); have HR3 : Hid (∀ k, RR k → R0 k ∨ W.heap.size ≤ k) := Lib.hid (by rw [hRR]; exact HRR.out); clear HW HRR hRR; have HW := HW2; have HRR := HR3; clear HW2 HR3
  refine wp_seq (x := cz48_1) (y := cz48_2) ?_
  change (Code.region 0 Oz48_0 false).wp _ _ _ _
  refine reg_in (l := [0, 1, 2]) rfl ?_
  have F : FE_ _ [] f0 f0 := ⟨R, Ag_.refl _⟩; clear R
  refine sv_ gz48_0_0 (ym_ rfl (F.of h1)) fun a101 e => ?_
  have h6 := pt_ F e; replace F := pu_ F e; clear e
  have Y : (execOp a101.eval oz48_0_1).run Tryz.prog w0 = .ok (.value (.int .i64 ps.length)) w0 := by unfold oz48_0_1; go_simp
  refine sv_ gz48_0_1 Y fun a102 e => ?_; clear Y
  have h7 := pt_ F e; replace F := pu_ F e; replace h6 := so_ e h6; clear e
  have Y : (execOp a102.eval oz48_0_2).run Tryz.prog w0 = .ok (.value (.int .i64 0)) w0 := by unfold oz48_0_2; go_simp
  refine sv_ gz48_0_2 Y fun a103 e => ?_; clear Y
  have h8 := pt_ F e; replace F := pu_ F e; replace h6 := so_ e h6; replace h7 := so_ e h7; clear e
  refine st_end ?_
  replace h0 := F.of h0; clear h1; have R := F.r; clear F
  change (cz48_2).wp _ _ _ _
  refine wp_block (id := 0) (c := cz48_3) ?_
  have HWR := Lib.hid (HW.out.on KP); clear HW KP; have HW := HWR; clear HWR
  refine wp_loop_ghost (c := cz48_4) (fun n fX wX => ∃ j : Nat, ∃ RR : Nat → Prop, n = ps.length - j ∧ FrS 23 fX ∧ fX.tmps[0]? = some (.pointer (some ⟨b, 0, none⟩)) ∧ fX.tmps[6]? = some (.slice a ps.length c) ∧ fX.tmps[7]? = some (.int .i64 ps.length) ∧ fX.tmps[8]? = some (.int .i64 (j : Int)) ∧ Keep (fun g => g < W.heap.size ∧ ¬ R0 g) W wX ∧ j ≤ ps.length ∧ Hid (WAt B RR wX b (l0 ++ joinX (xs.take j))) ∧ Hid (∀ k, RR k → R0 k ∨ W.heap.size ≤ k)) (ps.length - 0) ⟨0, _, rfl, R, h0, h6, h7, h8, KX, Nat.zero_le _, (Lib.hid (by simpa [joinX] using HW.out)), HRR⟩ ?_
  clear R h0 h6 h7 h8 KX
  rintro n106 a104 w105 ⟨j, RR, rfl, R, h0, h6, h7, h8, KX, hj, HW, HRR⟩
  have KP := Keep.refl (fun g => g < w105.heap.size) w105
  refine wp_seq (x := cz48_5) (y := cz48_6) ?_
  change (Code.region 1 Oz48_1 false).wp _ _ _ _
  refine reg_in (l := [0]) rfl ?_
  have F : FE_ _ [] a104 a104 := ⟨R, Ag_.refl _⟩; clear R
  obtain ⟨b107, hb107⟩ : ∃ x, (decide ((j : Int) < (ps.length : Int))) = x := ⟨_, rfl⟩
  have Y : (execOp a104.eval oz48_1_0).run Tryz.prog w105 = .ok (.value (.bool b107)) w105 := by have r7 := F.of h7; have r8 := F.of h8; rw [← hb107]; unfold oz48_1_0; go_simp
  refine sv_ gz48_1_0 Y fun a108 e => ?_; clear Y
  have h9 := pt_ F e; replace F := pu_ F e; clear e
  refine st_end ?_
  replace h0 := F.of h0; replace h6 := F.of h6; replace h7 := F.of h7; replace h8 := F.of h8; have R := F.r; clear F
  change (cz48_6).wp _ _ _ _
  refine wp_seq (x := cz48_7) (y := cz48_10) ?_
  cases b107 with
  | false =>
    have fb107 := hb107; clear hb107
    simp only [decide_eq_true_eq, decide_eq_false_iff_not, bne_iff_ne, bne_eq_false_iff_eq, beq_iff_eq, beq_eq_false_iff_ne, ne_eq, Bool.not_eq_true', Bool.not_eq_false', Bool.not_eq_eq_eq_not, Bool.not_true, Bool.not_false] at fb107
    refine wp_cond_false (x := Code.skip) (y := cz48_9) (eval_slot h9) ?_
    refine wp_exit ?_
    change bodyPost Tryz.prog Tryz.f48 (fun e w' => e = .returned (.tuple #[]) ∧ Wr B R0 W w' b (l0 ++ joinX xs)) .normal a108 w105
    refine bodyPost_end (results_none rfl _ _ _) R.defers ?_
    obtain rfl : j = ps.length := by omega
    exact ⟨rfl, ⟨RR, by have hw := HW.out.on KP; rw [show xs.take ps.length = xs by rw [HXS.out, List.take_of_length_le (by simp)]] at hw; exact hw, HRR.out⟩, KX⟩
  | true =>
    have fb107 := hb107; clear hb107
    simp only [decide_eq_true_eq, decide_eq_false_iff_not, bne_iff_ne, bne_eq_false_iff_eq, beq_iff_eq, beq_eq_false_iff_ne, ne_eq, Bool.not_eq_true', Bool.not_eq_false', Bool.not_eq_eq_eq_not, Bool.not_true, Bool.not_false] at fb107
    refine wp_cond_true (x := Code.skip) (y := cz48_9) (eval_slot h9) ?_
    refine wp_skip ?_
    change (cz48_10).wp _ _ _ _
    refine wp_seq (x := cz48_11) (y := cz48_21) ?_
    refine wp_block (id := 1) (c := cz48_12) ?_
    refine wp_seq (x := cz48_13) (y := cz48_14) ?_
    change (Code.region 2 Oz48_2 false).wp _ _ _ _
    refine reg_in (l := [0, 1, 2, 3, 4, 5]) rfl ?_
    have F : FE_ _ [] a108 a108 := ⟨R, Ag_.refl _⟩; clear R
    refine sv_ gz48_2_0 (ym_ rfl (F.of h8)) fun a109 e => ?_
    have h10 := pt_ F e; replace F := pu_ F e; clear e
    obtain ⟨p, hp⟩ : ∃ p, ps[j]? = some p := ⟨_, List.getElem?_eq_getElem (by omega)⟩; obtain ⟨bA, oA, hA, -, -⟩ := HS.out.mem hp; have HSA := Lib.hid hA; have HP := Lib.hid hp; have hltA : (j : Int) < (ps.length : Int) := by omega
    have HXP : Hid (xs[j]? = some (p.1.tree.tx bareC)) := Lib.hid (by rw [HXS.out, List.getElem?_map, hp]; rfl); clear hp hA
    have HJ : Hid (joinX (xs.take (j + 1)) = (if 0 < j then joinX (xs.take j) ++ [44] else []) ++ p.1.tree.tx bareC) := Lib.hid (join_take HXP.out); have HJL : Hid ((joinX (xs.take (j + 1))).length ≤ (joinX xs).length) := Lib.hid (join_len (by have h := HXS.out; rw [h, List.length_map]; omega))
    have Y : (execOp a109.eval oz48_2_1).run Tryz.prog w105 = .ok (.value (.pointer (some ⟨bA, oA + j * 4, none⟩))) w105 := by have r6 := F.of h6; have r8 := F.of h8; have hA := HSA.out; unfold oz48_2_1; go_simp
    refine sv_ gz48_2_1 Y fun a110 e => ?_; clear Y
    have h11 := pt_ F e; replace F := pu_ F e; replace h10 := so_ e h10; clear e
    have Y : (execOp a110.eval oz48_2_2).run Tryz.prog w105 = .ok (.value (.agg #[.int .i64 p.1.k, .string (str p.1.nm), .int .i64 p.1.i, .slice p.2.1 p.1.args.length p.2.2])) w105 := by obtain ⟨⟨c0, c1, c2, c3⟩, -⟩ := (HS.out.keep (HDJ.out.keep KX)).at_ HSA.out HP.out; unfold oz48_2_2; go_simp
    refine sv_ gz48_2_2 Y fun a111 e => ?_; clear Y
    have h12 := pt_ F e; replace F := pu_ F e; replace h10 := so_ e h10; replace h11 := so_ e h11; clear e
    have Y : (execOp a111.eval oz48_2_3).run Tryz.prog w105 = .ok (.value (.pointer (some ⟨w105.heap.size, 0, none⟩))) (w105.alloc (.cells #[.int .i64 0, .string (⟨#[]⟩), .int .i64 0, .slice none 0 0] 24)) := by unfold oz48_2_3; go_simp
    have B112 := Blk.new w105 24 #[.int .i64 0, .string (⟨#[]⟩), .int .i64 0, .slice none 0 0]
    obtain ⟨w113, hw⟩ : ∃ x, x = w105.alloc (.cells #[.int .i64 0, .string (⟨#[]⟩), .int .i64 0, .slice none 0 0] 24) := ⟨_, rfl⟩; rw [← hw] at Y B112
    obtain ⟨b112, hb⟩ : ∃ x, x = w105.heap.size := ⟨_, rfl⟩; rw [← hb] at Y B112
    have LKX_b112 := lk_ hb KX; replace KX := ka_ hw KX; have LKP_b112 := lk_ hb KP; replace KP := ka_ hw KP; clear hw hb
    refine sv_ gz48_2_3 Y fun a114 e => ?_; clear Y
    have h5 := pt_ F e; replace F := pu_ F e; replace h10 := so_ e h10; replace h11 := so_ e h11; replace h12 := so_ e h12; clear e
    refine sv_ gz48_2_4 (ya_ rfl h10) fun a115 e => ?_
    have h4 := pt_ F e; replace F := pu_ F e; replace h5 := so_ e h5; replace h10 := so_ e h10; replace h11 := so_ e h11; replace h12 := so_ e h12; clear e
    obtain ⟨w116, Y, hk, hB⟩ := ys4_ (o := oz48_2_5) rfl h5 h12 B112
    replace KX := kx_ hk KX (fun hx => absurd hx.1 (Nat.not_lt.2 LKX_b112)); replace KP := kx_ hk KP (Nat.not_lt.2 LKP_b112); clear B112; have B112 := hB; clear hB hk
    refine st_skip gz48_2_5 rfl (wanted_free rfl) Y ?_; clear Y
    refine st_end ?_
    replace h0 := F.of h0; replace h6 := F.of h6; replace h7 := F.of h7; replace h8 := F.of h8; replace h9 := F.of h9; have R := F.r; clear F
    change (cz48_14).wp _ _ _ _
    refine wp_seq (x := cz48_15) (y := cz48_20) ?_
    refine wp_seq (x := cz48_16) (y := cz48_17) ?_
    change (Code.region 3 Oz48_3 false).wp _ _ _ _
    refine reg_in (l := [0, 1]) rfl ?_
    have F : FE_ _ [] a115 a115 := ⟨R, Ag_.refl _⟩; clear R
    refine sv_ gz48_3_0 (ym_ rfl (F.of h4)) fun a117 e => ?_
    have h13 := pt_ F e; replace F := pu_ F e; clear e
    obtain ⟨b118, hb118⟩ : ∃ x, (decide (0 < (j : Int))) = x := ⟨_, rfl⟩
    have Y : (execOp a117.eval oz48_3_1).run Tryz.prog w116 = .ok (.value (.bool b118)) w116 := by rw [← hb118]; unfold oz48_3_1; go_simp
    refine sv_ gz48_3_1 Y fun a119 e => ?_; clear Y
    have h14 := pt_ F e; replace F := pu_ F e; replace h13 := so_ e h13; clear e
    refine st_end ?_
    replace h0 := F.of h0; replace h4 := F.of h4; replace h5 := F.of h5; replace h6 := F.of h6; replace h7 := F.of h7; replace h8 := F.of h8; replace h9 := F.of h9; replace h10 := F.of h10; replace h11 := F.of h11; replace h12 := F.of h12; have R := F.r; clear F
    change (cz48_17).wp _ _ _ _
    cases b118 with
    | false =>
      have fb118 := hb118; clear hb118
      simp only [decide_eq_true_eq, decide_eq_false_iff_not, bne_iff_ne, bne_eq_false_iff_eq, beq_iff_eq, beq_eq_false_iff_ne, ne_eq, Bool.not_eq_true', Bool.not_eq_false', Bool.not_eq_eq_eq_not, Bool.not_true, Bool.not_false] at fb118
      refine wp_cond_false (x := cz48_18) (y := Code.skip) (eval_slot h14) ?_
      refine wp_skip ?_
      change (cz48_20).wp _ _ _ _
      change (Code.region 5 Oz48_5 false).wp _ _ _ _
      have HJP : Hid (¬ 0 < j) := Lib.hid (by omega)
      refine reg_in (l := [0, 1, 2]) rfl ?_
      have F : FE_ _ [] a119 a119 := ⟨R, Ag_.refl _⟩; clear R
      refine sv_ gz48_5_0 (ym_ rfl (F.of h0)) fun a120 e => ?_
      have h19 := pt_ F e; replace F := pu_ F e; clear e
      refine sv_ gz48_5_1 (yl4_ rfl (F.of h5) B112) fun a121 e => ?_
      have h20 := pt_ F e; replace F := pu_ F e; replace h19 := so_ e h19; clear e
      have HJ0 : Hid (joinX (xs.take j) = []) := Lib.hid (by rw [show j = 0 by have := HJP.out; omega]; rfl)
      have hcall := IH.out w116 B b RR S _ p.1 p.2.1 p.2.2 (HQ.out p (List.mem_of_getElem? HP.out)).1 (HQ.out p (List.mem_of_getElem? HP.out)).2 (HW.out.on KP) (HV.out.on (KX.less fun g hg => ⟨Nat.lt_of_lt_of_le hg HBW, fun h => absurd hg (Nat.not_lt.2 (HB0.out g h))⟩)) (HDJ.out.next HRR.out KX.size) ((HS.out.keep (HDJ.out.keep KX)).at_ HSA.out HP.out).2 (by have h := HL.out; have h1 := HJL.out; have h2 : (joinX (xs.take j)).length = 0 := (by rw [HJ0.out]; rfl); rw [HJ.out, if_neg HJP.out] at h1; simp only [List.length_append, List.length_cons, List.length_nil] at h1 ⊢; omega)
      refine st_call gz48_5_2 rfl (wanted_free rfl) (yc2_ enz48_1023 rfl h19 h20) ((hcall).mono ?_)
      rintro e9 w122 ⟨rfl, ⟨RR2, hw, hr⟩, kf⟩
      have N_b112 : ¬ RR b112 := fun h => absurd (HW.out.rr b112 h).2 (Nat.not_lt.2 LKP_b112)
      have l_b112 := B112.lt; replace B112 := B112.keep kf ⟨l_b112, N_b112⟩
      replace N_b112 : ¬ RR2 b112 := fun h => (hr b112 h).elim N_b112 (fun h => absurd l_b112 (Nat.not_lt.2 h)); clear l_b112
      have HR2 : Hid (∀ k, RR2 k → R0 k ∨ W.heap.size ≤ k) := Lib.hid fun k hk => (hr k hk).elim (HRR.out k) (fun h => .inr (Nat.le_trans KX.size h))
      replace KX := KX.trans (kf.less fun g hg => ⟨Nat.lt_of_lt_of_le hg.1 KX.size, fun h => (HRR.out g h).elim hg.2 (fun h => absurd hg.1 (Nat.not_lt.2 h))⟩)
      clear HW HRR hr kf KP; have HW := Lib.hid hw; clear hw; have HRR := HR2; clear HR2
      obtain ⟨RR, hRR⟩ : ∃ q, q = RR2 := ⟨_, rfl⟩; rw [← hRR] at HW HRR N_b112; clear hRR RR2
      have kk := trivial
      clear kk
      clear hcall
      have KP := Keep.refl (fun g => g < w122.heap.size) w122
      refine ⟨_, rfl, fun a123 e => ?_⟩
      replace F := pu_ F e; replace h19 := so_ e h19; replace h20 := so_ e h20; clear e
      refine st_end ?_
      replace h0 := F.of h0; replace h4 := F.of h4; replace h5 := F.of h5; replace h6 := F.of h6; replace h7 := F.of h7; replace h8 := F.of h8; replace h9 := F.of h9; replace h10 := F.of h10; replace h11 := F.of h11; replace h12 := F.of h12; replace h13 := F.of h13; replace h14 := F.of h14; have R := F.r; clear F
      change (cz48_21).wp _ _ _ _
      change (Code.region 6 Oz48_6 false).wp _ _ _ _
      refine reg_in (l := [0, 1]) rfl ?_
      have F : FE_ _ [] a123 a123 := ⟨R, Ag_.refl _⟩; clear R
      have Y : (execOp a123.eval oz48_6_0).run Tryz.prog w122 = .ok (.value (.int .i64 ((j : Int) + 1))) w122 := by have r8 := F.of h8; have hwj : IntKind.i64.wrap ((j : Int) + 1) = (j : Int) + 1 := (by rw [IntKind.wrap_i64]; have := HLN.out; omega); unfold oz48_6_0; go_simp
      refine sv_ gz48_6_0 Y fun a124 e => ?_; clear Y
      have h22 := pt_ F e; replace F := pu_ F e; clear e
      refine sv_ gz48_6_1 (ym_ rfl h22) fun a125 e => ?_
      clear h8; have h8 := pt_ F e; replace F := pu_ F e; replace h22 := so_ e h22; clear e
      refine st_end ?_
      replace h0 := F.of h0; replace h4 := F.of h4; replace h5 := F.of h5; replace h6 := F.of h6; replace h7 := F.of h7; replace h9 := F.of h9; replace h10 := F.of h10; replace h11 := F.of h11; replace h12 := F.of h12; replace h13 := F.of h13; replace h14 := F.of h14; replace h19 := F.of h19; replace h20 := F.of h20; have R := F.r; clear F
      have HWR := Lib.hid (HW.out.on KP); clear HW KP; have HW := HWR; clear HWR
      clear B112
      exact ⟨_, by omega, j + 1, _, rfl, R, h0, h6, h7, h8, KX, (by omega), (Lib.hid (by have h := HW.out; rw [HJ.out]; rw [if_neg HJP.out]; rw [HJ0.out] at h; simpa [List.append_assoc] using h)), HRR⟩
    | true =>
      have fb118 := hb118; clear hb118
      simp only [decide_eq_true_eq, decide_eq_false_iff_not, bne_iff_ne, bne_eq_false_iff_eq, beq_iff_eq, beq_eq_false_iff_ne, ne_eq, Bool.not_eq_true', Bool.not_eq_false', Bool.not_eq_eq_eq_not, Bool.not_true, Bool.not_false] at fb118
      refine wp_cond_true (x := cz48_18) (y := Code.skip) (eval_slot h14) ?_
      change (Code.region 4 Oz48_4 false).wp _ _ _ _
      have HJP : Hid (0 < j) := Lib.hid (by omega)
      refine reg_in (l := [0, 1, 2, 3]) rfl ?_
      have F : FE_ _ [] a119 a119 := ⟨R, Ag_.refl _⟩; clear R
      refine sv_ gz48_4_0 (ym_ rfl (F.of h0)) fun a126 e => ?_
      have h15 := pt_ F e; replace F := pu_ F e; clear e
      have Y : (execOp a126.eval oz48_4_1).run Tryz.prog w116 = .ok (.value (.pointer (some ⟨b, 0, none⟩))) w116 := by unfold oz48_4_1; go_simp
      refine sv_ gz48_4_1 Y fun a127 e => ?_; clear Y
      have h16 := pt_ F e; replace F := pu_ F e; replace h15 := so_ e h15; clear e
      have Y : (execOp a127.eval oz48_4_2).run Tryz.prog w116 = .ok (.value (.pointer (some ⟨b, 0, none⟩))) w116 := by unfold oz48_4_2; go_simp
      refine sv_ gz48_4_2 Y fun a128 e => ?_; clear Y
      have h17 := pt_ F e; replace F := pu_ F e; replace h15 := so_ e h15; replace h16 := so_ e h16; clear e
      have Y : (execOp a128.eval oz48_4_3).run Tryz.prog w116 = .ok (.enter 36 #[.pointer (some ⟨b, 0, none⟩), .int .u8 44]) w116 := by unfold oz48_4_3; go_simp
      refine st_call gz48_4_3 rfl (wanted_free rfl) Y ((wbyte_any (HW.out.on KP) 44 (by have h := HL.out; have h1 := HJL.out; rw [HJ.out, if_pos HJP.out] at h1; simp only [List.length_append, List.length_cons, List.length_nil] at h1 ⊢; omega)).mono ?_); clear Y
      rintro e9 w129 ⟨rfl, ⟨RR2, hw, hr⟩, kf⟩
      have N_b112 : ¬ RR b112 := fun h => absurd (HW.out.rr b112 h).2 (Nat.not_lt.2 LKP_b112)
      have l_b112 := B112.lt; replace B112 := B112.keep kf ⟨l_b112, N_b112⟩
      replace N_b112 : ¬ RR2 b112 := fun h => (hr b112 h).elim N_b112 (fun h => absurd l_b112 (Nat.not_lt.2 h)); clear l_b112
      have HR2 : Hid (∀ k, RR2 k → R0 k ∨ W.heap.size ≤ k) := Lib.hid fun k hk => (hr k hk).elim (HRR.out k) (fun h => .inr (Nat.le_trans KX.size h))
      replace KX := KX.trans (kf.less fun g hg => ⟨Nat.lt_of_lt_of_le hg.1 KX.size, fun h => (HRR.out g h).elim hg.2 (fun h => absurd hg.1 (Nat.not_lt.2 h))⟩)
      clear HW HRR hr kf KP; have HW := Lib.hid hw; clear hw; have HRR := HR2; clear HR2
      obtain ⟨RR, hRR⟩ : ∃ q, q = RR2 := ⟨_, rfl⟩; rw [← hRR] at HW HRR N_b112; clear hRR RR2
      have kk := trivial
      clear kk
      have KP := Keep.refl (fun g => g < w129.heap.size) w129
      refine ⟨_, rfl, fun a130 e => ?_⟩
      replace F := pu_ F e; replace h15 := so_ e h15; replace h16 := so_ e h16; replace h17 := so_ e h17; clear e
      refine st_end ?_
      replace h0 := F.of h0; replace h4 := F.of h4; replace h5 := F.of h5; replace h6 := F.of h6; replace h7 := F.of h7; replace h8 := F.of h8; replace h9 := F.of h9; replace h10 := F.of h10; replace h11 := F.of h11; replace h12 := F.of h12; replace h13 := F.of h13; replace h14 := F.of h14; have R := F.r; clear F
      change (cz48_20).wp _ _ _ _
      change (Code.region 5 Oz48_5 false).wp _ _ _ _
      refine reg_in (l := [0, 1, 2]) rfl ?_
      have F : FE_ _ [] a130 a130 := ⟨R, Ag_.refl _⟩; clear R
      refine sv_ gz48_5_0 (ym_ rfl (F.of h0)) fun a131 e => ?_
      have h19 := pt_ F e; replace F := pu_ F e; clear e
      refine sv_ gz48_5_1 (yl4_ rfl (F.of h5) B112) fun a132 e => ?_
      have h20 := pt_ F e; replace F := pu_ F e; replace h19 := so_ e h19; clear e
      have hcall := IH.out w129 B b RR S _ p.1 p.2.1 p.2.2 (HQ.out p (List.mem_of_getElem? HP.out)).1 (HQ.out p (List.mem_of_getElem? HP.out)).2 (HW.out.on KP) (HV.out.on (KX.less fun g hg => ⟨Nat.lt_of_lt_of_le hg HBW, fun h => absurd hg (Nat.not_lt.2 (HB0.out g h))⟩)) (HDJ.out.next HRR.out KX.size) ((HS.out.keep (HDJ.out.keep KX)).at_ HSA.out HP.out).2 (by have h := HL.out; have h1 := HJL.out; rw [HJ.out, if_pos HJP.out] at h1; simp only [List.length_append, List.length_cons, List.length_nil] at h1 ⊢; omega)
      refine st_call gz48_5_2 rfl (wanted_free rfl) (yc2_ enz48_1023 rfl h19 h20) ((hcall).mono ?_)
      rintro e9 w133 ⟨rfl, ⟨RR2, hw, hr⟩, kf⟩
      have l_b112 := B112.lt; replace B112 := B112.keep kf ⟨l_b112, N_b112⟩
      replace N_b112 : ¬ RR2 b112 := fun h => (hr b112 h).elim N_b112 (fun h => absurd l_b112 (Nat.not_lt.2 h)); clear l_b112
      have HR2 : Hid (∀ k, RR2 k → R0 k ∨ W.heap.size ≤ k) := Lib.hid fun k hk => (hr k hk).elim (HRR.out k) (fun h => .inr (Nat.le_trans KX.size h))
      replace KX := KX.trans (kf.less fun g hg => ⟨Nat.lt_of_lt_of_le hg.1 KX.size, fun h => (HRR.out g h).elim hg.2 (fun h => absurd hg.1 (Nat.not_lt.2 h))⟩)
      clear HW HRR hr kf KP; have HW := Lib.hid hw; clear hw; have HRR := HR2; clear HR2
      obtain ⟨RR, hRR⟩ : ∃ q, q = RR2 := ⟨_, rfl⟩; rw [← hRR] at HW HRR N_b112; clear hRR RR2
      have kk := trivial
      clear kk
      clear hcall
      have KP := Keep.refl (fun g => g < w133.heap.size) w133
      refine ⟨_, rfl, fun a134 e => ?_⟩
      replace F := pu_ F e; replace h19 := so_ e h19; replace h20 := so_ e h20; clear e
      refine st_end ?_
      replace h0 := F.of h0; replace h4 := F.of h4; replace h5 := F.of h5; replace h6 := F.of h6; replace h7 := F.of h7; replace h8 := F.of h8; replace h9 := F.of h9; replace h10 := F.of h10; replace h11 := F.of h11; replace h12 := F.of h12; replace h13 := F.of h13; replace h14 := F.of h14; replace h15 := F.of h15; replace h16 := F.of h16; replace h17 := F.of h17; have R := F.r; clear F
      change (cz48_21).wp _ _ _ _
      change (Code.region 6 Oz48_6 false).wp _ _ _ _
      refine reg_in (l := [0, 1]) rfl ?_
      have F : FE_ _ [] a134 a134 := ⟨R, Ag_.refl _⟩; clear R
      have Y : (execOp a134.eval oz48_6_0).run Tryz.prog w133 = .ok (.value (.int .i64 ((j : Int) + 1))) w133 := by have r8 := F.of h8; have hwj : IntKind.i64.wrap ((j : Int) + 1) = (j : Int) + 1 := (by rw [IntKind.wrap_i64]; have := HLN.out; omega); unfold oz48_6_0; go_simp
      refine sv_ gz48_6_0 Y fun a135 e => ?_; clear Y
      have h22 := pt_ F e; replace F := pu_ F e; clear e
      refine sv_ gz48_6_1 (ym_ rfl h22) fun a136 e => ?_
      clear h8; have h8 := pt_ F e; replace F := pu_ F e; replace h22 := so_ e h22; clear e
      refine st_end ?_
      replace h0 := F.of h0; replace h4 := F.of h4; replace h5 := F.of h5; replace h6 := F.of h6; replace h7 := F.of h7; replace h9 := F.of h9; replace h10 := F.of h10; replace h11 := F.of h11; replace h12 := F.of h12; replace h13 := F.of h13; replace h14 := F.of h14; replace h15 := F.of h15; replace h16 := F.of h16; replace h17 := F.of h17; replace h19 := F.of h19; replace h20 := F.of h20; have R := F.r; clear F
      have HWR := Lib.hid (HW.out.on KP); clear HW KP; have HW := HWR; clear HWR
      clear B112
      exact ⟨_, by omega, j + 1, _, rfl, R, h0, h6, h7, h8, KX, (by omega), (Lib.hid (by have h := HW.out; rw [HJ.out]; rw [if_pos HJP.out]; simpa [List.append_assoc] using h)), HRR⟩
theorem terms_of {k : Nat} (ih : TermW k) : TermsW k := fun W B b R0 S l0 a c ps hq hn h hv hd hS hl => by
  refine enter_sx Tryz.func48 bodyz48 rfl (by show (2 : Nat) ≤ 23; decide) fun f0 R0' hs => ?_
  exact terms_w R0' (hs 0 _ rfl) (hs 1 _ rfl) (Keep.refl _ W) (Lib.hid h) (Lib.hid hv) (Lib.hid ih) (Lib.hid hq) (Lib.hid hd) (Lib.hid hS) (Lib.hid rfl) (Lib.hid hl) (Lib.hid hn)
end Go.Proofs.YtfkbbbjicaedmaaGreatDoor
