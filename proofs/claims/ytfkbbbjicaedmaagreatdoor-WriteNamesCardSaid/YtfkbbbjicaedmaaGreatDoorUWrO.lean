/-
  write.Name and write.Text, whatever they are asked. Condition: the listed variables.
-/
import Derived.Test.YtfkbbbjicaedmaaGreatDoorUWrN
namespace Go.Proofs.YtfkbbbjicaedmaaGreatDoor
open Go.RowKit Go.Maps
set_option linter.unusedVariables false
set_option linter.unusedSimpArgs false
theorem atm_ne (bare : List UInt8 → Bool) (L : List UInt8) (hb : ∀ l, bare l = true → l ≠ []) : atmX bare L ≠ [] := by
  unfold atmX
  split
  · rename_i h; rcases h with h | h <;> (rw [h]; simp)
  · unfold funX
    split
    · rename_i h; exact hb _ h
    · unfold quoX; simp
theorem bareC_ne {l : List UInt8} (h : bareC l = true) : l ≠ [] := by
  rintro rfl
  revert h
  decide
theorem ret_el2 {fn : Func} {R : Ending → World → Prop} {a : Act} {w : World} {p q : Nat} {v u : Value} (hr : fn.results = #[.tmp p, .tmp q]) (hd : a.defers = []) (hp : a.tmps[p]? = some v) (hq : a.tmps[q]? = some u) (hR : R (.returned (.tuple #[v, u])) w) : bodyPost Tryz.prog fn R .ret a w :=
  ⟨hd, _, by simp [results, hr, hp, hq], hR⟩
theorem itoa_ne (n : Int) : Lib.itoa n ≠ [] := fun h => by
  have := itoa_cls (bare := fun _ => false) (fun _ h => by cases h) n []
  rw [h] at this
  revert this
  decide
theorem tx_ne (t : T) : t.tx bareC ≠ [] := by
  cases t with
  | v x => rw [tx_v]; simp
  | n x => rw [tx_n]; exact itoa_ne x
  | a nm => rw [tx_a]; exact atm_ne _ _ fun l h => bareC_ne h
  | c nm args =>
    by_cases h : nm = [46] ∧ args.length = 2
    · rw [tx_list _ h]; simp
    · rw [tx_comp _ h]; simp
theorem W_box {B b : Nat} {R : Nat → Prop} {w w' : World} {l : List UInt8} (k : Keep (fun g => g < w.heap.size ∧ ¬ (fun g => g = b) g) w w') {V : World} {n : Nat} (hn : n ≤ b) (hb : b < w.heap.size) (K : Keep (fun g => g < n) V w) : Keep (fun g => g < n) V w' :=
  K.trans (k.less fun g hg => ⟨Nat.lt_trans (Nat.lt_of_lt_of_le hg hn) hb, fun e => by rw [e] at hg; omega⟩)
def oz12_0_0 : Oper := ⟨some 2, Op.assign (Operand.const (Value.string { data := #[] })), 9, "write.go:10", #[], none⟩
def oz12_0_1 : Oper := ⟨some 3, Op.assign (Operand.const (Value.int IntKind.i64 0)), 26, "write.go:10", #[ec_ 0], none⟩
def Oz12_0 : Array Oper := List.toArray (oz12_0_0 :: oz12_0_1 :: [])
theorem gz12_0_0 : Oz12_0[0]? = some oz12_0_0 := rfl
theorem gz12_0_1 : Oz12_0[1]? = some oz12_0_1 := rfl
def cz12_1 : Code := Code.region 0 Oz12_0 false
def oz12_1_0 : Oper := ⟨some 6, Op.move (Operand.tmp 0), 9, "write.go:12", #[], none⟩
def oz12_1_1 : Oper := ⟨some 7, Op.call { callee := Callee.builtin Go.Builtin.len, args := #[Operand.tmp 6], argTypes := #[9] }, 3, "write.go:12", #[ed_ 0], none⟩
def oz12_1_2 : Oper := ⟨some 8, Op.binOp Go.BinOp.gtr 3 (Operand.tmp 7) (Operand.const (Value.int IntKind.i64 64)) 3, 4, "write.go:12", #[ed_ 1], none⟩
def oz12_1_3 : Oper := ⟨some 5, Op.assign (Operand.tmp 8), 4, "write.go:12", #[ed_ 2], none⟩
def Oz12_1 : Array Oper := List.toArray (oz12_1_0 :: oz12_1_1 :: oz12_1_2 :: oz12_1_3 :: [])
theorem gz12_1_0 : Oz12_1[0]? = some oz12_1_0 := rfl
theorem gz12_1_1 : Oz12_1[1]? = some oz12_1_1 := rfl
theorem gz12_1_2 : Oz12_1[2]? = some oz12_1_2 := rfl
theorem gz12_1_3 : Oz12_1[3]? = some oz12_1_3 := rfl
def cz12_5 : Code := Code.region 1 Oz12_1 false
def oz12_2_0 : Oper := ⟨some 2, Op.assign (Operand.const (Value.string { data := #[] })), 9, "write.go:13", #[], none⟩
def oz12_2_1 : Oper := ⟨some 3, Op.assign (Operand.const (Value.int IntKind.i64 2)), 26, "write.go:13", #[ec_ 0, ep_ 0], none⟩
def Oz12_2 : Array Oper := List.toArray (oz12_2_0 :: oz12_2_1 :: [])
theorem gz12_2_0 : Oz12_2[0]? = some oz12_2_0 := rfl
theorem gz12_2_1 : Oz12_2[1]? = some oz12_2_1 := rfl
def cz12_8 : Code := Code.region 2 Oz12_2 false
def cz12_7 : Code := Code.seq cz12_8 Code.ret
def oz12_3_0 : Oper := ⟨some 10, Op.move (Operand.tmp 0), 9, "write.go:14", #[], none⟩
def oz12_3_1 : Oper := ⟨some 11, Op.call { callee := Callee.value (Operand.func 32), args := #[Operand.tmp 10], argTypes := #[9] }, 4, "write.go:14", #[ed_ 0], none⟩
def oz12_3_2 : Oper := ⟨some 12, Op.unOp Go.UnOp.not 4 (Operand.tmp 11), 4, "write.go:14", #[ed_ 1], none⟩
def oz12_3_3 : Oper := ⟨some 9, Op.assign (Operand.tmp 12), 4, "write.go:14", #[ed_ 2, ec_ 1], none⟩
def Oz12_3 : Array Oper := List.toArray (oz12_3_0 :: oz12_3_1 :: oz12_3_2 :: oz12_3_3 :: [])
theorem gz12_3_0 : Oz12_3[0]? = some oz12_3_0 := rfl
theorem gz12_3_1 : Oz12_3[1]? = some oz12_3_1 := rfl
theorem gz12_3_2 : Oz12_3[2]? = some oz12_3_2 := rfl
theorem gz12_3_3 : Oz12_3[3]? = some oz12_3_3 := rfl
def cz12_11 : Code := Code.region 3 Oz12_3 false
def oz12_4_0 : Oper := ⟨some 2, Op.assign (Operand.const (Value.string { data := #[] })), 9, "write.go:15", #[], none⟩
def oz12_4_1 : Oper := ⟨some 3, Op.assign (Operand.const (Value.int IntKind.i64 80)), 26, "write.go:15", #[ec_ 0, ep_ 0], none⟩
def Oz12_4 : Array Oper := List.toArray (oz12_4_0 :: oz12_4_1 :: [])
theorem gz12_4_0 : Oz12_4[0]? = some oz12_4_0 := rfl
theorem gz12_4_1 : Oz12_4[1]? = some oz12_4_1 := rfl
def cz12_14 : Code := Code.region 4 Oz12_4 false
def cz12_13 : Code := Code.seq cz12_14 Code.ret
def cz12_12 : Code := Code.cond (Operand.tmp 9) cz12_13 Code.skip
def cz12_10 : Code := Code.seq cz12_11 cz12_12
def cz12_6 : Code := Code.cond (Operand.tmp 5) cz12_7 cz12_10
def cz12_4 : Code := Code.seq cz12_5 cz12_6
def cz12_3 : Code := Code.block 0 cz12_4
def oz12_5_0 : Oper := ⟨some 4, Op.alloc 46, 0, "write.go:17", #[], none⟩
def Oz12_5 : Array Oper := List.toArray (oz12_5_0 :: [])
theorem gz12_5_0 : Oz12_5[0]? = some oz12_5_0 := rfl
def cz12_18 : Code := Code.region 5 Oz12_5 false
def oz12_6_0 : Oper := ⟨some 13, Op.move (Operand.tmp 0), 9, "write.go:18", #[], none⟩
def oz12_6_1 : Oper := ⟨some 14, Op.call { callee := Callee.value (Operand.func 33), args := #[Operand.tmp 4, Operand.tmp 13], argTypes := #[46, 9] }, 0, "write.go:18", #[ed_ 0], none⟩
def Oz12_6 : Array Oper := List.toArray (oz12_6_0 :: oz12_6_1 :: [])
theorem gz12_6_0 : Oz12_6[0]? = some oz12_6_0 := rfl
theorem gz12_6_1 : Oz12_6[1]? = some oz12_6_1 := rfl
def cz12_20 : Code := Code.region 6 Oz12_6 false
def oz12_7_0 : Oper := ⟨some 15, Op.fieldAddr 46 (Operand.tmp 4) 0, 0, "write.go:19", #[], none⟩
def oz12_7_1 : Oper := ⟨some 16, Op.call { callee := Callee.value (Operand.func 24), args := #[Operand.tmp 15], argTypes := #[44] }, 9, "write.go:19", #[ed_ 0], none⟩
def oz12_7_2 : Oper := ⟨some 2, Op.assign (Operand.tmp 16), 9, "write.go:19", #[ed_ 1, ec_ 1, ep_ 0, ep_ 1], none⟩
def oz12_7_3 : Oper := ⟨some 3, Op.assign (Operand.const (Value.int IntKind.i64 0)), 26, "write.go:19", #[ec_ 2, ep_ 0, ep_ 1, ep_ 2], none⟩
def Oz12_7 : Array Oper := List.toArray (oz12_7_0 :: oz12_7_1 :: oz12_7_2 :: oz12_7_3 :: [])
theorem gz12_7_0 : Oz12_7[0]? = some oz12_7_0 := rfl
theorem gz12_7_1 : Oz12_7[1]? = some oz12_7_1 := rfl
theorem gz12_7_2 : Oz12_7[2]? = some oz12_7_2 := rfl
theorem gz12_7_3 : Oz12_7[3]? = some oz12_7_3 := rfl
def cz12_22 : Code := Code.region 7 Oz12_7 false
def cz12_21 : Code := Code.seq cz12_22 Code.ret
def cz12_19 : Code := Code.seq cz12_20 cz12_21
def cz12_17 : Code := Code.seq cz12_18 cz12_19
def cz12_2 : Code := Code.seq cz12_3 cz12_17
def cz12_0 : Code := Code.seq cz12_1 cz12_2
theorem enz12_1024 : Enters Tryz.prog 24 := enters_of Tryz.func24 (by kernel_rfl) rfl
theorem enz12_1032 : Enters Tryz.prog 32 := enters_of Tryz.func32 (by kernel_rfl) rfl
theorem enz12_1033 : Enters Tryz.prog 33 := enters_of Tryz.func33 (by kernel_rfl) rfl
theorem bodyz12 : Tryz.f12.body = some cz12_0 := by kernel_rfl
set_option maxRecDepth 100000 in
set_option maxHeartbeats 4000000 in
theorem nameW_w {W : World} {L : List UInt8} {f0 : Act} {w0 : World} (R : FrS 17 f0) (h0 : f0.tmps[0]? = some (.string (str L))) (K1 : Keep (fun g => g < W.heap.size) W w0)  (HL : Hid (L.length ≤ 64 → (atmX bareC L).length ≤ 140737488355328)) (HV : Hid (VarsAt W.heap.size W)) : cz12_0.wp Tryz.prog (bodyPost Tryz.prog Tryz.f12 (fun e w' => e = .returned (.tuple #[.string (str (nmV L).1), .int .i64 (nmV L).2]) ∧ Keep (fun g => g < W.heap.size) W w')) f0 w0 := by
  refine wp_seq (x := cz12_1) (y := cz12_2) ?_
  change (Code.region 0 Oz12_0 false).wp _ _ _ _
  refine reg_in (l := [0, 1]) rfl ?_
  have F : FE_ _ [] f0 f0 := ⟨R, Ag_.refl _⟩; clear R
  have Y : (execOp f0.eval oz12_0_0).run Tryz.prog w0 = .ok (.value (.string (⟨#[]⟩))) w0 := by unfold oz12_0_0; go_simp
  refine sv_ gz12_0_0 Y fun a101 e => ?_; clear Y
  have h2 := pt_ F e; replace F := pu_ F e; clear e
  have Y : (execOp a101.eval oz12_0_1).run Tryz.prog w0 = .ok (.value (.int .i64 0)) w0 := by unfold oz12_0_1; go_simp
  refine sv_ gz12_0_1 Y fun a102 e => ?_; clear Y
  have h3 := pt_ F e; replace F := pu_ F e; replace h2 := so_ e h2; clear e
  refine st_end ?_
  replace h0 := F.of h0; have R := F.r; clear F
  change (cz12_2).wp _ _ _ _
  refine wp_seq (x := cz12_3) (y := cz12_17) ?_
  refine wp_block (id := 0) (c := cz12_4) ?_
  refine wp_seq (x := cz12_5) (y := cz12_6) ?_
  change (Code.region 1 Oz12_1 false).wp _ _ _ _
  refine reg_in (l := [0, 1, 2, 3]) rfl ?_
  have F : FE_ _ [] a102 a102 := ⟨R, Ag_.refl _⟩; clear R
  refine sv_ gz12_1_0 (ym_ rfl (F.of h0)) fun a103 e => ?_
  have h6 := pt_ F e; replace F := pu_ F e; clear e
  have Y : (execOp a103.eval oz12_1_1).run Tryz.prog w0 = .ok (.value (.int .i64 (L.length : Int))) w0 := by have e1 : ((str L).size : Int) = (L.length : Int) := (by rw [str_size]); unfold oz12_1_1; go_simp
  refine sv_ gz12_1_1 Y fun a104 e => ?_; clear Y
  clear h6; have h7 := pt_ F e; replace F := pu_ F e; clear e
  obtain ⟨b105, hb105⟩ : ∃ x, (decide (64 < (L.length : Int))) = x := ⟨_, rfl⟩
  have Y : (execOp a104.eval oz12_1_2).run Tryz.prog w0 = .ok (.value (.bool b105)) w0 := by rw [← hb105]; unfold oz12_1_2; go_simp
  refine sv_ gz12_1_2 Y fun a106 e => ?_; clear Y
  clear h7; have h8 := pt_ F e; replace F := pu_ F e; clear e
  refine sv_ gz12_1_3 (ya_ rfl h8) fun a107 e => ?_
  clear h8; have h5 := pt_ F e; replace F := pu_ F e; clear e
  refine st_end ?_
  replace h0 := F.of h0; replace h2 := F.of h2; replace h3 := F.of h3; have R := F.r; clear F
  change (cz12_6).wp _ _ _ _
  cases b105 with
  | false =>
    have fb105 := hb105; clear hb105
    simp only [decide_eq_true_eq, decide_eq_false_iff_not, bne_iff_ne, bne_eq_false_iff_eq, beq_iff_eq, beq_eq_false_iff_ne, ne_eq, Bool.not_eq_true', Bool.not_eq_false', Bool.not_eq_eq_eq_not, Bool.not_true, Bool.not_false] at fb105
    refine wp_cond_false (x := cz12_7) (y := cz12_10) (eval_slot h5) ?_
    refine wp_seq (x := cz12_11) (y := cz12_12) ?_
    change (Code.region 3 Oz12_3 false).wp _ _ _ _
    refine reg_in (l := [0, 1, 2, 3]) rfl ?_
    have F : FE_ _ [] a107 a107 := ⟨R, Ag_.refl _⟩; clear R
    refine sv_ gz12_3_0 (ym_ rfl (F.of h0)) fun a108 e => ?_
    have h10 := pt_ F e; replace F := pu_ F e; clear e
    obtain ⟨bl, hbl⟩ : ∃ q, tellX L = q := ⟨_, rfl⟩; have hcall := isTell_any w0 L (by omega); rw [hbl] at hcall
    refine st_call gz12_3_1 rfl (wanted_free rfl) (yc1_ enz12_1032 rfl h10) ((hcall).mono ?_)
    rintro e9 w109 ⟨rfl, kk⟩
    replace K1 := keep_onto K1 kk
    clear hcall; have HBL := Lib.hid hbl; clear hbl
    clear kk
    refine ⟨_, rfl, fun a110 e => ?_⟩
    clear h10; have h11 := pt_ F e; replace F := pu_ F e; clear e
    cases bl with
    | false =>
      have Y : (execOp a110.eval oz12_3_2).run Tryz.prog w109 = .ok (.value (.bool true)) w109 := by unfold oz12_3_2; go_simp
      refine sv_ gz12_3_2 Y fun a111 e => ?_; clear Y
      clear h11; have h12 := pt_ F e; replace F := pu_ F e; clear e
      refine sv_ gz12_3_3 (ya_ rfl h12) fun a112 e => ?_
      clear h12; have h9 := pt_ F e; replace F := pu_ F e; clear e
      refine st_end ?_
      replace h0 := F.of h0; replace h2 := F.of h2; replace h3 := F.of h3; clear h5; have R := F.r; clear F
      change (cz12_12).wp _ _ _ _
      refine wp_cond_true (x := cz12_13) (y := Code.skip) (eval_slot h9) ?_
      refine wp_seq (x := cz12_14) (y := Code.ret) ?_
      change (Code.region 4 Oz12_4 false).wp _ _ _ _
      refine reg_in (l := [0, 1]) rfl ?_
      have F : FE_ _ [] a112 a112 := ⟨R, Ag_.refl _⟩; clear R
      have Y : (execOp a112.eval oz12_4_0).run Tryz.prog w109 = .ok (.value (.string (⟨#[]⟩))) w109 := by unfold oz12_4_0; go_simp
      refine sv_ gz12_4_0 Y fun a113 e => ?_; clear Y
      clear h2; have h2 := pt_ F e; replace F := pu_ F e; clear e
      have Y : (execOp a113.eval oz12_4_1).run Tryz.prog w109 = .ok (.value (.int .i64 80)) w109 := by unfold oz12_4_1; go_simp
      refine sv_ gz12_4_1 Y fun a114 e => ?_; clear Y
      clear h3; have h3 := pt_ F e; replace F := pu_ F e; replace h2 := so_ e h2; clear e
      refine st_end ?_
      replace h0 := F.of h0; clear h9; have R := F.r; clear F
      change (Code.ret).wp _ _ _ _
      refine wp_ret ?_
      change bodyPost Tryz.prog Tryz.f12 (fun e w' => e = .returned (.tuple #[.string (str (nmV L).1), .int .i64 (nmV L).2]) ∧ Keep (fun g => g < W.heap.size) W w') .ret a114 w109
      refine ret_el2 rfl R.defers h2 h3 ?_
      exact ⟨by rw [nmV, if_neg (by omega), if_neg (by rw [HBL.out]; simp_all)] <;> rfl, K1⟩
    | true =>
      have Y : (execOp a110.eval oz12_3_2).run Tryz.prog w109 = .ok (.value (.bool false)) w109 := by unfold oz12_3_2; go_simp
      refine sv_ gz12_3_2 Y fun a115 e => ?_; clear Y
      clear h11; have h12 := pt_ F e; replace F := pu_ F e; clear e
      refine sv_ gz12_3_3 (ya_ rfl h12) fun a116 e => ?_
      clear h12; have h9 := pt_ F e; replace F := pu_ F e; clear e
      refine st_end ?_
      replace h0 := F.of h0; replace h2 := F.of h2; replace h3 := F.of h3; clear h5; have R := F.r; clear F
      change (cz12_12).wp _ _ _ _
      refine wp_cond_false (x := cz12_13) (y := Code.skip) (eval_slot h9) ?_
      refine wp_skip ?_
      change (cz12_17).wp _ _ _ _
      refine wp_seq (x := cz12_18) (y := cz12_19) ?_
      change (Code.region 5 Oz12_5 false).wp _ _ _ _
      refine reg_in (l := [0]) rfl ?_
      have F : FE_ _ [] a116 a116 := ⟨R, Ag_.refl _⟩; clear R
      have Y : (execOp a116.eval oz12_5_0).run Tryz.prog w109 = .ok (.value (.pointer (some ⟨w109.heap.size, 0, none⟩))) (w109.alloc (.cells #[.pointer none, .slice none 0 0] 46)) := by unfold oz12_5_0; go_simp
      have B117 := Blk.new w109 46 #[.pointer none, .slice none 0 0]
      obtain ⟨w118, hw⟩ : ∃ x, x = w109.alloc (.cells #[.pointer none, .slice none 0 0] 46) := ⟨_, rfl⟩; rw [← hw] at Y B117
      obtain ⟨b117, hb⟩ : ∃ x, x = w109.heap.size := ⟨_, rfl⟩; rw [← hb] at Y B117
      have LK1_b117 := lk_ hb K1; replace K1 := ka_ hw K1; clear hw hb
      refine sv_ gz12_5_0 Y fun a119 e => ?_; clear Y
      have h4 := pt_ F e; replace F := pu_ F e; clear e
      refine st_end ?_
      replace h0 := F.of h0; replace h2 := F.of h2; replace h3 := F.of h3; clear h9; have R := F.r; clear F
      change (cz12_19).wp _ _ _ _
      refine wp_seq (x := cz12_20) (y := cz12_21) ?_
      change (Code.region 6 Oz12_6 false).wp _ _ _ _
      refine reg_in (l := [0, 1]) rfl ?_
      have F : FE_ _ [] a119 a119 := ⟨R, Ag_.refl _⟩; clear R
      refine sv_ gz12_6_0 (ym_ rfl (F.of h0)) fun a120 e => ?_
      have h13 := pt_ F e; replace F := pu_ F e; clear e
      have l_b117 := B117.lt; have hcall := watom_any (WAt.new B117) (HV.out.up LK1_b117 K1) (by rw [List.length_nil, Nat.zero_add]; exact HL.out (by omega)) (by omega)
      refine st_call gz12_6_1 rfl (wanted_free rfl) (yc2_ enz12_1033 rfl (F.of h4) h13) ((hcall).mono ?_)
      rintro e9 w121 ⟨rfl, ⟨RR, hw, -⟩, kf⟩
      replace K1 := W_box (B := b117) (R := fun g => g = b117) (l := []) kf LK1_b117 l_b117 K1; clear kf; have HW := Lib.hid hw; clear hw l_b117
      clear B117
      have kk := trivial
      clear kk
      clear hcall
      refine ⟨_, rfl, fun a122 e => ?_⟩
      clear h13; replace F := pu_ F e; clear e
      refine st_end ?_
      clear h0; replace h2 := F.of h2; replace h3 := F.of h3; replace h4 := F.of h4; have R := F.r; clear F
      change (cz12_21).wp _ _ _ _
      refine wp_seq (x := cz12_22) (y := Code.ret) ?_
      change (Code.region 7 Oz12_7 false).wp _ _ _ _
      refine reg_in (l := [0, 1, 2, 3]) rfl ?_
      have F : FE_ _ [] a122 a122 := ⟨R, Ag_.refl _⟩; clear R
      have Y : (execOp a122.eval oz12_7_0).run Tryz.prog w121 = .ok (.value (.pointer (some ⟨b117, 0, none⟩))) w121 := by have r4 := F.of h4; unfold oz12_7_0; go_simp
      refine sv_ gz12_7_0 Y fun a123 e => ?_; clear Y
      have h15 := pt_ F e; replace F := pu_ F e; clear e
      have hcall := wstring_any HW.out (by rw [List.nil_append]; exact atm_ne _ _ fun l h => bareC_ne h); rw [List.nil_append] at hcall
      refine st_call gz12_7_1 rfl (wanted_free rfl) (yc1_ enz12_1024 rfl h15) ((hcall).mono ?_)
      rintro e9 w124 ⟨rfl, kf⟩
      replace K1 := K1.trans (kf.less fun g hg => Nat.lt_of_lt_of_le hg LK1_b117); clear kf HW
      have kk := trivial
      clear kk
      clear hcall
      refine ⟨_, rfl, fun a125 e => ?_⟩
      clear h15; have h16 := pt_ F e; replace F := pu_ F e; clear e
      refine sv_ gz12_7_2 (ya_ rfl h16) fun a126 e => ?_
      clear h16 h2; have h2 := pt_ F e; replace F := pu_ F e; clear e
      have Y : (execOp a126.eval oz12_7_3).run Tryz.prog w124 = .ok (.value (.int .i64 0)) w124 := by unfold oz12_7_3; go_simp
      refine sv_ gz12_7_3 Y fun a127 e => ?_; clear Y
      clear h3; have h3 := pt_ F e; replace F := pu_ F e; replace h2 := so_ e h2; clear e
      refine st_end ?_
      clear h4; have R := F.r; clear F
      change (Code.ret).wp _ _ _ _
      refine wp_ret ?_
      change bodyPost Tryz.prog Tryz.f12 (fun e w' => e = .returned (.tuple #[.string (str (nmV L).1), .int .i64 (nmV L).2]) ∧ Keep (fun g => g < W.heap.size) W w') .ret a127 w124
      refine ret_el2 rfl R.defers h2 h3 ?_
      exact ⟨by rw [nmV, if_neg (by omega), if_pos HBL.out], K1⟩
  | true =>
    have fb105 := hb105; clear hb105
    simp only [decide_eq_true_eq, decide_eq_false_iff_not, bne_iff_ne, bne_eq_false_iff_eq, beq_iff_eq, beq_eq_false_iff_ne, ne_eq, Bool.not_eq_true', Bool.not_eq_false', Bool.not_eq_eq_eq_not, Bool.not_true, Bool.not_false] at fb105
    refine wp_cond_true (x := cz12_7) (y := cz12_10) (eval_slot h5) ?_
    refine wp_seq (x := cz12_8) (y := Code.ret) ?_
    change (Code.region 2 Oz12_2 false).wp _ _ _ _
    refine reg_in (l := [0, 1]) rfl ?_
    have F : FE_ _ [] a107 a107 := ⟨R, Ag_.refl _⟩; clear R
    have Y : (execOp a107.eval oz12_2_0).run Tryz.prog w0 = .ok (.value (.string (⟨#[]⟩))) w0 := by unfold oz12_2_0; go_simp
    refine sv_ gz12_2_0 Y fun a128 e => ?_; clear Y
    clear h2; have h2 := pt_ F e; replace F := pu_ F e; clear e
    have Y : (execOp a128.eval oz12_2_1).run Tryz.prog w0 = .ok (.value (.int .i64 2)) w0 := by unfold oz12_2_1; go_simp
    refine sv_ gz12_2_1 Y fun a129 e => ?_; clear Y
    clear h3; have h3 := pt_ F e; replace F := pu_ F e; replace h2 := so_ e h2; clear e
    refine st_end ?_
    replace h0 := F.of h0; clear h5; have R := F.r; clear F
    change (Code.ret).wp _ _ _ _
    refine wp_ret ?_
    change bodyPost Tryz.prog Tryz.f12 (fun e w' => e = .returned (.tuple #[.string (str (nmV L).1), .int .i64 (nmV L).2]) ∧ Keep (fun g => g < W.heap.size) W w') .ret a129 w0
    refine ret_el2 rfl R.defers h2 h3 ?_
    exact ⟨by rw [nmV, if_pos (by omega)] <;> rfl, K1⟩
theorem wName_any (W : World) (L : List UInt8) (hv : VarsAt W.heap.size W) : Calls Tryz.prog 12 #[.string (str L)] W fun e w' => e = .returned (.tuple #[.string (str (nmV L).1), .int .i64 (nmV L).2]) ∧ Keep (fun g => g < W.heap.size) W w' := by
  refine enter_sx Tryz.func12 bodyz12 rfl (by show (1 : Nat) ≤ 17; decide) fun f0 R0' hs => ?_
  exact nameW_w R0' (hs 0 _ rfl) (Keep.refl _ W) (Lib.hid fun h => Nat.le_trans (atm_len bareC L) (by omega)) (Lib.hid hv)
def oz8_0_0 : Oper := ⟨some 1, Op.box 24 (Operand.tmp 0), 0, "write.go:23", #[], none⟩
def oz8_0_1 : Oper := ⟨some 2, Op.assign (Operand.const (Value.string { data := #[] })), 9, "write.go:23", #[], none⟩
def oz8_0_2 : Oper := ⟨some 3, Op.assign (Operand.const (Value.int IntKind.i64 0)), 26, "write.go:23", #[ec_ 1], none⟩
def Oz8_0 : Array Oper := List.toArray (oz8_0_0 :: oz8_0_1 :: oz8_0_2 :: [])
theorem gz8_0_0 : Oz8_0[0]? = some oz8_0_0 := rfl
theorem gz8_0_1 : Oz8_0[1]? = some oz8_0_1 := rfl
theorem gz8_0_2 : Oz8_0[2]? = some oz8_0_2 := rfl
def cz8_1 : Code := Code.region 0 Oz8_0 false
def oz8_1_0 : Oper := ⟨some 6, Op.load 24 (Operand.tmp 1), 24, "write.go:25", #[], none⟩
def oz8_1_1 : Oper := ⟨some 7, Op.call { callee := Callee.value (Operand.func 21), args := #[Operand.tmp 6], argTypes := #[24] }, 26, "write.go:25", #[ed_ 0], none⟩
def oz8_1_2 : Oper := ⟨some 8, Op.binOp Go.BinOp.neq 26 (Operand.tmp 7) (Operand.const (Value.int IntKind.i64 0)) 26, 4, "write.go:25", #[ed_ 1], none⟩
def oz8_1_3 : Oper := ⟨some 5, Op.assign (Operand.tmp 8), 4, "write.go:25", #[ed_ 2, ec_ 1], none⟩
def Oz8_1 : Array Oper := List.toArray (oz8_1_0 :: oz8_1_1 :: oz8_1_2 :: oz8_1_3 :: [])
theorem gz8_1_0 : Oz8_1[0]? = some oz8_1_0 := rfl
theorem gz8_1_1 : Oz8_1[1]? = some oz8_1_1 := rfl
theorem gz8_1_2 : Oz8_1[2]? = some oz8_1_2 := rfl
theorem gz8_1_3 : Oz8_1[3]? = some oz8_1_3 := rfl
def cz8_5 : Code := Code.region 1 Oz8_1 false
def oz8_2_0 : Oper := ⟨some 2, Op.assign (Operand.const (Value.string { data := #[] })), 9, "write.go:26", #[], none⟩
def oz8_2_1 : Oper := ⟨some 3, Op.assign (Operand.const (Value.int IntKind.i64 70)), 26, "write.go:26", #[ec_ 0, ep_ 0], none⟩
def Oz8_2 : Array Oper := List.toArray (oz8_2_0 :: oz8_2_1 :: [])
theorem gz8_2_0 : Oz8_2[0]? = some oz8_2_0 := rfl
theorem gz8_2_1 : Oz8_2[1]? = some oz8_2_1 := rfl
def cz8_8 : Code := Code.region 2 Oz8_2 false
def cz8_7 : Code := Code.seq cz8_8 Code.ret
def oz8_3_0 : Oper := ⟨some 10, Op.load 24 (Operand.tmp 1), 24, "write.go:27", #[], none⟩
def oz8_3_1 : Oper := ⟨some 11, Op.call { callee := Callee.value (Operand.func 22), args := #[Operand.tmp 10], argTypes := #[24] }, 4, "write.go:27", #[ed_ 0], none⟩
def oz8_3_2 : Oper := ⟨some 12, Op.unOp Go.UnOp.not 4 (Operand.tmp 11), 4, "write.go:27", #[ed_ 1], none⟩
def oz8_3_3 : Oper := ⟨some 9, Op.assign (Operand.tmp 12), 4, "write.go:27", #[ed_ 2, ec_ 1], none⟩
def Oz8_3 : Array Oper := List.toArray (oz8_3_0 :: oz8_3_1 :: oz8_3_2 :: oz8_3_3 :: [])
theorem gz8_3_0 : Oz8_3[0]? = some oz8_3_0 := rfl
theorem gz8_3_1 : Oz8_3[1]? = some oz8_3_1 := rfl
theorem gz8_3_2 : Oz8_3[2]? = some oz8_3_2 := rfl
theorem gz8_3_3 : Oz8_3[3]? = some oz8_3_3 := rfl
def cz8_11 : Code := Code.region 3 Oz8_3 false
def oz8_4_0 : Oper := ⟨some 2, Op.assign (Operand.const (Value.string { data := #[] })), 9, "write.go:28", #[], none⟩
def oz8_4_1 : Oper := ⟨some 3, Op.assign (Operand.const (Value.int IntKind.i64 80)), 26, "write.go:28", #[ec_ 0, ep_ 0], none⟩
def Oz8_4 : Array Oper := List.toArray (oz8_4_0 :: oz8_4_1 :: [])
theorem gz8_4_0 : Oz8_4[0]? = some oz8_4_0 := rfl
theorem gz8_4_1 : Oz8_4[1]? = some oz8_4_1 := rfl
def cz8_14 : Code := Code.region 4 Oz8_4 false
def cz8_13 : Code := Code.seq cz8_14 Code.ret
def cz8_12 : Code := Code.cond (Operand.tmp 9) cz8_13 Code.skip
def cz8_10 : Code := Code.seq cz8_11 cz8_12
def cz8_6 : Code := Code.cond (Operand.tmp 5) cz8_7 cz8_10
def cz8_4 : Code := Code.seq cz8_5 cz8_6
def cz8_3 : Code := Code.block 0 cz8_4
def oz8_5_0 : Oper := ⟨some 4, Op.alloc 46, 0, "write.go:30", #[], none⟩
def Oz8_5 : Array Oper := List.toArray (oz8_5_0 :: [])
theorem gz8_5_0 : Oz8_5[0]? = some oz8_5_0 := rfl
def cz8_18 : Code := Code.region 5 Oz8_5 false
def oz8_6_0 : Oper := ⟨some 13, Op.load 24 (Operand.tmp 1), 24, "write.go:31", #[], none⟩
def oz8_6_1 : Oper := ⟨some 14, Op.call { callee := Callee.value (Operand.func 23), args := #[Operand.tmp 4, Operand.tmp 13], argTypes := #[46, 24] }, 0, "write.go:31", #[ed_ 0], none⟩
def Oz8_6 : Array Oper := List.toArray (oz8_6_0 :: oz8_6_1 :: [])
theorem gz8_6_0 : Oz8_6[0]? = some oz8_6_0 := rfl
theorem gz8_6_1 : Oz8_6[1]? = some oz8_6_1 := rfl
def cz8_20 : Code := Code.region 6 Oz8_6 false
def oz8_7_0 : Oper := ⟨some 15, Op.fieldAddr 46 (Operand.tmp 4) 0, 0, "write.go:32", #[], none⟩
def oz8_7_1 : Oper := ⟨some 16, Op.call { callee := Callee.value (Operand.func 24), args := #[Operand.tmp 15], argTypes := #[44] }, 9, "write.go:32", #[ed_ 0], none⟩
def oz8_7_2 : Oper := ⟨some 2, Op.assign (Operand.tmp 16), 9, "write.go:32", #[ed_ 1, ec_ 1, ep_ 0, ep_ 1], none⟩
def oz8_7_3 : Oper := ⟨some 3, Op.assign (Operand.const (Value.int IntKind.i64 0)), 26, "write.go:32", #[ec_ 2, ep_ 0, ep_ 1, ep_ 2], none⟩
def Oz8_7 : Array Oper := List.toArray (oz8_7_0 :: oz8_7_1 :: oz8_7_2 :: oz8_7_3 :: [])
theorem gz8_7_0 : Oz8_7[0]? = some oz8_7_0 := rfl
theorem gz8_7_1 : Oz8_7[1]? = some oz8_7_1 := rfl
theorem gz8_7_2 : Oz8_7[2]? = some oz8_7_2 := rfl
theorem gz8_7_3 : Oz8_7[3]? = some oz8_7_3 := rfl
def cz8_22 : Code := Code.region 7 Oz8_7 false
def cz8_21 : Code := Code.seq cz8_22 Code.ret
def cz8_19 : Code := Code.seq cz8_20 cz8_21
def cz8_17 : Code := Code.seq cz8_18 cz8_19
def cz8_2 : Code := Code.seq cz8_3 cz8_17
def cz8_0 : Code := Code.seq cz8_1 cz8_2
theorem enz8_1021 : Enters Tryz.prog 21 := enters_of Tryz.func21 (by kernel_rfl) rfl
theorem enz8_1022 : Enters Tryz.prog 22 := enters_of Tryz.func22 (by kernel_rfl) rfl
theorem enz8_1023 : Enters Tryz.prog 23 := enters_of Tryz.func23 (by kernel_rfl) rfl
theorem enz8_1024 : Enters Tryz.prog 24 := enters_of Tryz.func24 (by kernel_rfl) rfl
theorem bodyz8 : Tryz.f8.body = some cz8_0 := by kernel_rfl
set_option maxRecDepth 100000 in
set_option maxHeartbeats 4000000 in
theorem textW_w {W : World} {t : Tm} {a : Option Addr} {c : Nat} {f0 : Act} {w0 : World} (R : FrS 17 f0) (h0 : f0.tmps[0]? = some (.agg #[.int .i64 t.k, .string (str t.nm), .int .i64 t.i, .slice a t.args.length c])) (K1 : Keep (fun g => g < W.heap.size) W w0)  (HT : Hid (TmAt W.heap.size W t a c)) (HV : Hid (VarsAt W.heap.size W)) : cz8_0.wp Tryz.prog (bodyPost Tryz.prog Tryz.f8 (fun e w' => e = .returned (.tuple #[.string (str (txV t).1), .int .i64 (txV t).2]) ∧ Keep (fun g => g < W.heap.size) W w')) f0 w0 := by
  refine wp_seq (x := cz8_1) (y := cz8_2) ?_
  change (Code.region 0 Oz8_0 false).wp _ _ _ _
  refine reg_in (l := [0, 1, 2]) rfl ?_
  have F : FE_ _ [] f0 f0 := ⟨R, Ag_.refl _⟩; clear R
  have Y : (execOp f0.eval oz8_0_0).run Tryz.prog w0 = .ok (.value (.pointer (some ⟨w0.heap.size, 0, none⟩))) (w0.alloc (.cells #[.int .i64 t.k, .string (str t.nm), .int .i64 t.i, .slice a t.args.length c] 24)) := by have r0 := F.of h0; unfold oz8_0_0; go_simp
  have B101 := Blk.new w0 24 #[.int .i64 t.k, .string (str t.nm), .int .i64 t.i, .slice a t.args.length c]
  obtain ⟨w102, hw⟩ : ∃ x, x = w0.alloc (.cells #[.int .i64 t.k, .string (str t.nm), .int .i64 t.i, .slice a t.args.length c] 24) := ⟨_, rfl⟩; rw [← hw] at Y B101
  obtain ⟨b101, hb⟩ : ∃ x, x = w0.heap.size := ⟨_, rfl⟩; rw [← hb] at Y B101
  have LK1_b101 := lk_ hb K1; replace K1 := ka_ hw K1; clear hw hb
  refine sv_ gz8_0_0 Y fun a103 e => ?_; clear Y
  have h1 := pt_ F e; replace F := pu_ F e; clear e
  have Y : (execOp a103.eval oz8_0_1).run Tryz.prog w102 = .ok (.value (.string (⟨#[]⟩))) w102 := by unfold oz8_0_1; go_simp
  refine sv_ gz8_0_1 Y fun a104 e => ?_; clear Y
  have h2 := pt_ F e; replace F := pu_ F e; replace h1 := so_ e h1; clear e
  have Y : (execOp a104.eval oz8_0_2).run Tryz.prog w102 = .ok (.value (.int .i64 0)) w102 := by unfold oz8_0_2; go_simp
  refine sv_ gz8_0_2 Y fun a105 e => ?_; clear Y
  have h3 := pt_ F e; replace F := pu_ F e; replace h1 := so_ e h1; replace h2 := so_ e h2; clear e
  refine st_end ?_
  clear h0; have R := F.r; clear F
  change (cz8_2).wp _ _ _ _
  refine wp_seq (x := cz8_3) (y := cz8_17) ?_
  refine wp_block (id := 0) (c := cz8_4) ?_
  refine wp_seq (x := cz8_5) (y := cz8_6) ?_
  change (Code.region 1 Oz8_1 false).wp _ _ _ _
  refine reg_in (l := [0, 1, 2, 3]) rfl ?_
  have F : FE_ _ [] a105 a105 := ⟨R, Ag_.refl _⟩; clear R
  refine sv_ gz8_1_0 (yl4_ rfl (F.of h1) B101) fun a106 e => ?_
  have h6 := pt_ F e; replace F := pu_ F e; clear e
  obtain ⟨nb, hbr⟩ : ∃ q, (!t.right) = q := ⟨_, rfl⟩; have hcall := check_any (HT.out.on K1)
  refine st_call gz8_1_1 rfl (wanted_free rfl) (yc1_ enz8_1021 rfl h6) ((hcall).mono ?_)
  rintro e9 w107 ⟨rfl, kk⟩
  replace K1 := keep_onto K1 kk
  replace B101 := blk_on B101 kk
  clear hcall; have HR := Lib.hid hbr; clear hbr
  clear kk
  refine ⟨_, rfl, fun a108 e => ?_⟩
  clear h6; have h7 := pt_ F e; replace F := pu_ F e; clear e
  have Y : (execOp a108.eval oz8_1_2).run Tryz.prog w107 = .ok (.value (.bool nb)) w107 := by have e1 : ((if t.right = true then (0 : Int) else 70) != 0) = nb := (by have h := HR.out; rw [← h]; cases t.right <;> rfl); unfold oz8_1_2; go_simp
  refine sv_ gz8_1_2 Y fun a109 e => ?_; clear Y
  clear h7; have h8 := pt_ F e; replace F := pu_ F e; clear e
  refine sv_ gz8_1_3 (ya_ rfl h8) fun a110 e => ?_
  clear h8; have h5 := pt_ F e; replace F := pu_ F e; clear e
  refine st_end ?_
  replace h1 := F.of h1; replace h2 := F.of h2; replace h3 := F.of h3; have R := F.r; clear F
  change (cz8_6).wp _ _ _ _
  cases nb with
  | false =>
    refine wp_cond_false (x := cz8_7) (y := cz8_10) (eval_slot h5) ?_
    refine wp_seq (x := cz8_11) (y := cz8_12) ?_
    change (Code.region 3 Oz8_3 false).wp _ _ _ _
    refine reg_in (l := [0, 1, 2, 3]) rfl ?_
    have F : FE_ _ [] a110 a110 := ⟨R, Ag_.refl _⟩; clear R
    refine sv_ gz8_3_0 (yl4_ rfl (F.of h1) B101) fun a111 e => ?_
    have h10 := pt_ F e; replace F := pu_ F e; clear e
    obtain ⟨bl, hbl⟩ : ∃ q, t.tree.tell = q := ⟨_, rfl⟩; have hcall := tell_all t.tree.ns w107 t a c (Nat.le_refl _) (by have h := HR.out; simpa using h) (HT.out.on K1); rw [hbl] at hcall
    refine st_call gz8_3_1 rfl (wanted_free rfl) (yc1_ enz8_1022 rfl h10) ((hcall).mono ?_)
    rintro e9 w112 ⟨rfl, kk⟩
    replace K1 := keep_onto K1 kk
    replace B101 := blk_on B101 kk
    clear hcall; have HBL := Lib.hid hbl; clear hbl
    clear kk
    refine ⟨_, rfl, fun a113 e => ?_⟩
    clear h10; have h11 := pt_ F e; replace F := pu_ F e; clear e
    cases bl with
    | false =>
      have Y : (execOp a113.eval oz8_3_2).run Tryz.prog w112 = .ok (.value (.bool true)) w112 := by unfold oz8_3_2; go_simp
      refine sv_ gz8_3_2 Y fun a114 e => ?_; clear Y
      clear h11; have h12 := pt_ F e; replace F := pu_ F e; clear e
      refine sv_ gz8_3_3 (ya_ rfl h12) fun a115 e => ?_
      clear h12; have h9 := pt_ F e; replace F := pu_ F e; clear e
      refine st_end ?_
      replace h1 := F.of h1; replace h2 := F.of h2; replace h3 := F.of h3; clear h5; have R := F.r; clear F
      change (cz8_12).wp _ _ _ _
      refine wp_cond_true (x := cz8_13) (y := Code.skip) (eval_slot h9) ?_
      refine wp_seq (x := cz8_14) (y := Code.ret) ?_
      change (Code.region 4 Oz8_4 false).wp _ _ _ _
      refine reg_in (l := [0, 1]) rfl ?_
      have F : FE_ _ [] a115 a115 := ⟨R, Ag_.refl _⟩; clear R
      have Y : (execOp a115.eval oz8_4_0).run Tryz.prog w112 = .ok (.value (.string (⟨#[]⟩))) w112 := by unfold oz8_4_0; go_simp
      refine sv_ gz8_4_0 Y fun a116 e => ?_; clear Y
      clear h2; have h2 := pt_ F e; replace F := pu_ F e; clear e
      have Y : (execOp a116.eval oz8_4_1).run Tryz.prog w112 = .ok (.value (.int .i64 80)) w112 := by unfold oz8_4_1; go_simp
      refine sv_ gz8_4_1 Y fun a117 e => ?_; clear Y
      clear h3; have h3 := pt_ F e; replace F := pu_ F e; replace h2 := so_ e h2; clear e
      refine st_end ?_
      replace h1 := F.of h1; clear h9; have R := F.r; clear F
      change (Code.ret).wp _ _ _ _
      refine wp_ret ?_
      change bodyPost Tryz.prog Tryz.f8 (fun e w' => e = .returned (.tuple #[.string (str (txV t).1), .int .i64 (txV t).2]) ∧ Keep (fun g => g < W.heap.size) W w') .ret a117 w112
      refine ret_el2 rfl R.defers h2 h3 ?_
      exact ⟨by rw [txV, if_pos (by have h := HR.out; simpa using h), if_neg (by rw [HBL.out]; simp_all)] <;> rfl, K1⟩
    | true =>
      have Y : (execOp a113.eval oz8_3_2).run Tryz.prog w112 = .ok (.value (.bool false)) w112 := by unfold oz8_3_2; go_simp
      refine sv_ gz8_3_2 Y fun a118 e => ?_; clear Y
      clear h11; have h12 := pt_ F e; replace F := pu_ F e; clear e
      refine sv_ gz8_3_3 (ya_ rfl h12) fun a119 e => ?_
      clear h12; have h9 := pt_ F e; replace F := pu_ F e; clear e
      refine st_end ?_
      replace h1 := F.of h1; replace h2 := F.of h2; replace h3 := F.of h3; clear h5; have R := F.r; clear F
      change (cz8_12).wp _ _ _ _
      refine wp_cond_false (x := cz8_13) (y := Code.skip) (eval_slot h9) ?_
      refine wp_skip ?_
      change (cz8_17).wp _ _ _ _
      refine wp_seq (x := cz8_18) (y := cz8_19) ?_
      change (Code.region 5 Oz8_5 false).wp _ _ _ _
      refine reg_in (l := [0]) rfl ?_
      have F : FE_ _ [] a119 a119 := ⟨R, Ag_.refl _⟩; clear R
      have Y : (execOp a119.eval oz8_5_0).run Tryz.prog w112 = .ok (.value (.pointer (some ⟨w112.heap.size, 0, none⟩))) (w112.alloc (.cells #[.pointer none, .slice none 0 0] 46)) := by unfold oz8_5_0; go_simp
      have B120 := Blk.new w112 46 #[.pointer none, .slice none 0 0]
      obtain ⟨w121, hw⟩ : ∃ x, x = w112.alloc (.cells #[.pointer none, .slice none 0 0] 46) := ⟨_, rfl⟩; rw [← hw] at Y B120
      obtain ⟨b120, hb⟩ : ∃ x, x = w112.heap.size := ⟨_, rfl⟩; rw [← hb] at Y B120
      have Nb101_b120 := nb_ hb B101; replace B101 := ba_ hw B101; have LK1_b120 := lk_ hb K1; replace K1 := ka_ hw K1; clear hw hb
      refine sv_ gz8_5_0 Y fun a122 e => ?_; clear Y
      have h4 := pt_ F e; replace F := pu_ F e; clear e
      refine st_end ?_
      replace h1 := F.of h1; replace h2 := F.of h2; replace h3 := F.of h3; clear h9; have R := F.r; clear F
      change (cz8_19).wp _ _ _ _
      refine wp_seq (x := cz8_20) (y := cz8_21) ?_
      change (Code.region 6 Oz8_6 false).wp _ _ _ _
      refine reg_in (l := [0, 1]) rfl ?_
      have F : FE_ _ [] a122 a122 := ⟨R, Ag_.refl _⟩; clear R
      refine sv_ gz8_6_0 (yl4_ rfl (F.of h1) B101) fun a123 e => ?_
      have h13 := pt_ F e; replace F := pu_ F e; clear e
      have l_b120 := B120.lt; have HRT : Hid (t.right = true) := Lib.hid (by have h := HR.out; simpa using h); have hcall := term_all t.tree.ns _ _ _ _ _ _ _ _ _ (Nat.le_refl _) HRT.out (WAt.new B120) (HV.out.up LK1_b120 K1) (by intro g hg; have hg' : g < W.heap.size := hg; have hW := LK1_b120; exact ⟨by omega, fun e => by have e' : g = _ := e; omega⟩) ((TmS.of HT.out (Nat.le_refl _)).keep K1) (by rw [List.length_nil, Nat.zero_add]; exact Nat.le_trans (tx_short HT.out HRT.out bareC) (by decide))
      refine st_call gz8_6_1 rfl (wanted_free rfl) (yc2_ enz8_1023 rfl (F.of h4) h13) ((hcall).mono ?_)
      rintro e9 w124 ⟨rfl, ⟨RR, hw, -⟩, kf⟩
      replace K1 := W_box (B := b120) (R := fun g => g = b120) (l := []) kf LK1_b120 l_b120 K1; clear kf; have HW := Lib.hid hw; clear hw l_b120
      clear B101
      clear B120
      have kk := trivial
      clear kk
      clear hcall
      refine ⟨_, rfl, fun a125 e => ?_⟩
      clear h13; replace F := pu_ F e; clear e
      refine st_end ?_
      clear h1; replace h2 := F.of h2; replace h3 := F.of h3; replace h4 := F.of h4; have R := F.r; clear F
      change (cz8_21).wp _ _ _ _
      refine wp_seq (x := cz8_22) (y := Code.ret) ?_
      change (Code.region 7 Oz8_7 false).wp _ _ _ _
      refine reg_in (l := [0, 1, 2, 3]) rfl ?_
      have F : FE_ _ [] a125 a125 := ⟨R, Ag_.refl _⟩; clear R
      have Y : (execOp a125.eval oz8_7_0).run Tryz.prog w124 = .ok (.value (.pointer (some ⟨b120, 0, none⟩))) w124 := by have r4 := F.of h4; unfold oz8_7_0; go_simp
      refine sv_ gz8_7_0 Y fun a126 e => ?_; clear Y
      have h15 := pt_ F e; replace F := pu_ F e; clear e
      have hcall := wstring_any HW.out (by rw [List.nil_append]; exact tx_ne _); rw [List.nil_append] at hcall
      refine st_call gz8_7_1 rfl (wanted_free rfl) (yc1_ enz8_1024 rfl h15) ((hcall).mono ?_)
      rintro e9 w127 ⟨rfl, kf⟩
      replace K1 := K1.trans (kf.less fun g hg => Nat.lt_of_lt_of_le hg LK1_b120); clear kf HW
      have kk := trivial
      clear kk
      clear hcall
      refine ⟨_, rfl, fun a128 e => ?_⟩
      clear h15; have h16 := pt_ F e; replace F := pu_ F e; clear e
      refine sv_ gz8_7_2 (ya_ rfl h16) fun a129 e => ?_
      clear h16 h2; have h2 := pt_ F e; replace F := pu_ F e; clear e
      have Y : (execOp a129.eval oz8_7_3).run Tryz.prog w127 = .ok (.value (.int .i64 0)) w127 := by unfold oz8_7_3; go_simp
      refine sv_ gz8_7_3 Y fun a130 e => ?_; clear Y
      clear h3; have h3 := pt_ F e; replace F := pu_ F e; replace h2 := so_ e h2; clear e
      refine st_end ?_
      clear h4; have R := F.r; clear F
      change (Code.ret).wp _ _ _ _
      refine wp_ret ?_
      change bodyPost Tryz.prog Tryz.f8 (fun e w' => e = .returned (.tuple #[.string (str (txV t).1), .int .i64 (txV t).2]) ∧ Keep (fun g => g < W.heap.size) W w') .ret a130 w127
      refine ret_el2 rfl R.defers h2 h3 ?_
      exact ⟨by rw [txV, if_pos HRT.out, if_pos HBL.out], K1⟩
  | true =>
    refine wp_cond_true (x := cz8_7) (y := cz8_10) (eval_slot h5) ?_
    refine wp_seq (x := cz8_8) (y := Code.ret) ?_
    change (Code.region 2 Oz8_2 false).wp _ _ _ _
    refine reg_in (l := [0, 1]) rfl ?_
    have F : FE_ _ [] a110 a110 := ⟨R, Ag_.refl _⟩; clear R
    have Y : (execOp a110.eval oz8_2_0).run Tryz.prog w107 = .ok (.value (.string (⟨#[]⟩))) w107 := by unfold oz8_2_0; go_simp
    refine sv_ gz8_2_0 Y fun a131 e => ?_; clear Y
    clear h2; have h2 := pt_ F e; replace F := pu_ F e; clear e
    have Y : (execOp a131.eval oz8_2_1).run Tryz.prog w107 = .ok (.value (.int .i64 70)) w107 := by unfold oz8_2_1; go_simp
    refine sv_ gz8_2_1 Y fun a132 e => ?_; clear Y
    clear h3; have h3 := pt_ F e; replace F := pu_ F e; replace h2 := so_ e h2; clear e
    refine st_end ?_
    replace h1 := F.of h1; clear h5; have R := F.r; clear F
    change (Code.ret).wp _ _ _ _
    refine wp_ret ?_
    change bodyPost Tryz.prog Tryz.f8 (fun e w' => e = .returned (.tuple #[.string (str (txV t).1), .int .i64 (txV t).2]) ∧ Keep (fun g => g < W.heap.size) W w') .ret a132 w107
    refine ret_el2 rfl R.defers h2 h3 ?_
    exact ⟨by rw [txV, if_neg (by have h := HR.out; simpa using h)] <;> rfl, K1⟩
theorem wText_any {W : World} {t : Tm} {a : Option Addr} {c : Nat} (h : TmAt W.heap.size W t a c) (hv : VarsAt W.heap.size W) : Calls Tryz.prog 8 #[tv t a c] W fun e w' => e = .returned (.tuple #[.string (str (txV t).1), .int .i64 (txV t).2]) ∧ Keep (fun g => g < W.heap.size) W w' := by
  refine enter_sx Tryz.func8 bodyz8 rfl (by show (1 : Nat) ≤ 17; decide) fun f0 R0' hs => ?_
  exact textW_w R0' (hs 0 _ rfl) (Keep.refl _ W) (Lib.hid h) (Lib.hid hv)
end Go.Proofs.YtfkbbbjicaedmaaGreatDoor
