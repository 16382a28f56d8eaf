/-
  A compound term and a list are written, given what writing smaller terms does. Condition: fewer than 2^47 bytes; the listed variables.
-/
import Derived.Test.YtfkbbbjicaedmaaGreatDoorQWrJ
namespace Go.Proofs.YtfkbbbjicaedmaaGreatDoor
open Go.RowKit Go.Maps
set_option linter.unusedVariables false
set_option linter.unusedSimpArgs false
theorem part_ns {t x : Tm} (h4 : t.k = 4) (hx : x ∈ t.args) {k : Nat} (hk : t.tree.ns ≤ k + 1) : x.tree.ns ≤ k := by
  rw [tree_4 h4, T.ns_c] at hk
  have := ns_mem (List.mem_map_of_mem (f := Tm.tree) hx)
  omega
theorem part_right' {t x : Tm} (hr : t.right = true) (h4 : t.k = 4) (hx : x ∈ t.args) : x.right = true := right_of.2 (Tm.part_right (right_of.1 hr) h4 x hx)
theorem nilX_k {e : T} (h : e.tm.k ≠ 3) : isNilX e = false := by cases e <;> first | rfl | exact absurd rfl h
theorem nilX_nm {e : T} (h : e.tm.nm ≠ [91, 93]) : isNilX e = false := by
  cases e with
  | a nm => simp [isNilX]; exact h
  | _ => rfl
theorem nilX_yes {e : T} (h1 : e.tm.k = 3) (h2 : e.tm.nm = [91, 93]) : isNilX e = true := by
  cases e with
  | a nm => simp [isNilX]; exact h2
  | v n => exact absurd h1 (by simp [T.tm, Tm.k])
  | n n => exact absurd h1 (by simp [T.tm, Tm.k])
  | c nm args => exact absurd h1 (by simp [T.tm, Tm.k])
def ListW (k : Nat) : Prop := ∀ (W : World) (B b : Nat) (R0 S : Nat → Prop) (l0 : List UInt8) (t : Tm) (a : Option Addr) (c : Nat), t.tree.ns ≤ k + 1 → t.right = true → t.k = 4 → (t.nm = [46] ∧ t.args.length = 2) → WAt B R0 W b l0 → VarsAt B W → DJ S R0 W → TmS S W t a c → l0.length + (t.tree.tx bareC).length ≤ 140737488355328 →
  Calls Tryz.prog 47 #[.pointer (some ⟨b, 0, none⟩), tv t a c] W fun e w' => e = .returned (.tuple #[]) ∧ Wr B R0 W w' b (l0 ++ t.tree.tx bareC)
def oz39_0_0 : Oper := ⟨some 3, Op.box 24 (Operand.tmp 1), 0, "writer.go:70", #[], none⟩
def Oz39_0 : Array Oper := List.toArray (oz39_0_0 :: [])
theorem gz39_0_0 : Oz39_0[0]? = some oz39_0_0 := rfl
def cz39_1 : Code := Code.region 0 Oz39_0 false
def oz39_1_0 : Oper := ⟨some 4, Op.fieldAddr 24 (Operand.tmp 3) 1, 0, "writer.go:71", #[], none⟩
def oz39_1_1 : Oper := ⟨some 5, Op.load 9 (Operand.tmp 4), 9, "writer.go:71", #[ed_ 0], none⟩
def oz39_1_2 : Oper := ⟨some 6, Op.binOp Go.BinOp.eql 9 (Operand.tmp 5) (Operand.const (Value.string { data := #[46] })) 9, 4, "writer.go:71", #[ed_ 1], none⟩
def oz39_1_3 : Oper := ⟨some 7, Op.move (Operand.tmp 6), 4, "writer.go:71", #[ed_ 2], none⟩
def oz39_1_4 : Oper := ⟨some 8, Op.fieldAddr 24 (Operand.tmp 3) 3, 0, "writer.go:71", #[eg_ 3], some (3, true)⟩
def oz39_1_5 : Oper := ⟨some 9, Op.load 22 (Operand.tmp 8), 22, "writer.go:71", #[ed_ 4, eg_ 3], some (3, true)⟩
def oz39_1_6 : Oper := ⟨some 10, Op.call { callee := Callee.builtin Go.Builtin.len, args := #[Operand.tmp 9], argTypes := #[22] }, 3, "writer.go:71", #[ed_ 5, eg_ 3], some (3, true)⟩
def oz39_1_7 : Oper := ⟨some 11, Op.binOp Go.BinOp.eql 3 (Operand.tmp 10) (Operand.const (Value.int IntKind.i64 2)) 3, 4, "writer.go:71", #[ed_ 6, eg_ 3], some (3, true)⟩
def oz39_1_8 : Oper := ⟨some 12, Op.pick (Operand.tmp 7) (Operand.tmp 11) (Operand.const (Value.bool false)), 4, "writer.go:71", #[ed_ 3, ed_ 7], none⟩
def Oz39_1 : Array Oper := List.toArray (oz39_1_0 :: oz39_1_1 :: oz39_1_2 :: oz39_1_3 :: oz39_1_4 :: oz39_1_5 :: oz39_1_6 :: oz39_1_7 :: oz39_1_8 :: [])
theorem gz39_1_0 : Oz39_1[0]? = some oz39_1_0 := rfl
theorem gz39_1_1 : Oz39_1[1]? = some oz39_1_1 := rfl
theorem gz39_1_2 : Oz39_1[2]? = some oz39_1_2 := rfl
theorem gz39_1_3 : Oz39_1[3]? = some oz39_1_3 := rfl
theorem gz39_1_4 : Oz39_1[4]? = some oz39_1_4 := rfl
theorem gz39_1_5 : Oz39_1[5]? = some oz39_1_5 := rfl
theorem gz39_1_6 : Oz39_1[6]? = some oz39_1_6 := rfl
theorem gz39_1_7 : Oz39_1[7]? = some oz39_1_7 := rfl
theorem gz39_1_8 : Oz39_1[8]? = some oz39_1_8 := rfl
def cz39_4 : Code := Code.region 1 Oz39_1 false
def oz39_2_0 : Oper := ⟨some 13, Op.move (Operand.tmp 0), 57, "writer.go:72", #[], none⟩
def oz39_2_1 : Oper := ⟨some 14, Op.load 24 (Operand.tmp 3), 24, "writer.go:72", #[], none⟩
def oz39_2_2 : Oper := ⟨some 15, Op.call { callee := Callee.value (Operand.func 47), args := #[Operand.tmp 13, Operand.tmp 14], argTypes := #[57, 24] }, 0, "writer.go:72", #[ed_ 0, ed_ 1], none⟩
def Oz39_2 : Array Oper := List.toArray (oz39_2_0 :: oz39_2_1 :: oz39_2_2 :: [])
theorem gz39_2_0 : Oz39_2[0]? = some oz39_2_0 := rfl
theorem gz39_2_1 : Oz39_2[1]? = some oz39_2_1 := rfl
theorem gz39_2_2 : Oz39_2[2]? = some oz39_2_2 := rfl
def cz39_7 : Code := Code.region 2 Oz39_2 false
def cz39_6 : Code := Code.seq cz39_7 Code.ret
def cz39_5 : Code := Code.cond (Operand.tmp 12) cz39_6 Code.skip
def cz39_3 : Code := Code.seq cz39_4 cz39_5
def oz39_3_0 : Oper := ⟨some 16, Op.move (Operand.tmp 0), 57, "writer.go:75", #[], none⟩
def oz39_3_1 : Oper := ⟨some 17, Op.fieldAddr 24 (Operand.tmp 3) 1, 0, "writer.go:75", #[], none⟩
def oz39_3_2 : Oper := ⟨some 18, Op.load 9 (Operand.tmp 17), 9, "writer.go:75", #[ed_ 1], none⟩
def oz39_3_3 : Oper := ⟨some 19, Op.call { callee := Callee.value (Operand.func 42), args := #[Operand.tmp 16, Operand.tmp 18], argTypes := #[57, 9] }, 0, "writer.go:75", #[ed_ 0, ed_ 2], none⟩
def Oz39_3 : Array Oper := List.toArray (oz39_3_0 :: oz39_3_1 :: oz39_3_2 :: oz39_3_3 :: [])
theorem gz39_3_0 : Oz39_3[0]? = some oz39_3_0 := rfl
theorem gz39_3_1 : Oz39_3[1]? = some oz39_3_1 := rfl
theorem gz39_3_2 : Oz39_3[2]? = some oz39_3_2 := rfl
theorem gz39_3_3 : Oz39_3[3]? = some oz39_3_3 := rfl
def cz39_11 : Code := Code.region 3 Oz39_3 false
def oz39_4_0 : Oper := ⟨some 20, Op.move (Operand.tmp 0), 57, "writer.go:76", #[], none⟩
def oz39_4_1 : Oper := ⟨some 21, Op.nilCheck (Operand.tmp 20), 0, "writer.go:76", #[ed_ 0], none⟩
def oz39_4_2 : Oper := ⟨some 22, Op.fieldAddr 46 (Operand.tmp 21) 0, 0, "writer.go:76", #[ed_ 1], none⟩
def oz39_4_3 : Oper := ⟨some 23, Op.call { callee := Callee.value (Operand.func 36), args := #[Operand.tmp 22, Operand.const (Value.int IntKind.u8 40)], argTypes := #[44, 5] }, 59, "writer.go:76", #[ed_ 2], none⟩
def Oz39_4 : Array Oper := List.toArray (oz39_4_0 :: oz39_4_1 :: oz39_4_2 :: oz39_4_3 :: [])
theorem gz39_4_0 : Oz39_4[0]? = some oz39_4_0 := rfl
theorem gz39_4_1 : Oz39_4[1]? = some oz39_4_1 := rfl
theorem gz39_4_2 : Oz39_4[2]? = some oz39_4_2 := rfl
theorem gz39_4_3 : Oz39_4[3]? = some oz39_4_3 := rfl
def cz39_13 : Code := Code.region 4 Oz39_4 false
def oz39_5_0 : Oper := ⟨some 24, Op.move (Operand.tmp 0), 57, "writer.go:77", #[], none⟩
def oz39_5_1 : Oper := ⟨some 25, Op.fieldAddr 24 (Operand.tmp 3) 3, 0, "writer.go:77", #[], none⟩
def oz39_5_2 : Oper := ⟨some 26, Op.load 22 (Operand.tmp 25), 22, "writer.go:77", #[ed_ 1], none⟩
def oz39_5_3 : Oper := ⟨some 27, Op.call { callee := Callee.value (Operand.func 48), args := #[Operand.tmp 24, Operand.tmp 26], argTypes := #[57, 22] }, 0, "writer.go:77", #[ed_ 0, ed_ 2], none⟩
def Oz39_5 : Array Oper := List.toArray (oz39_5_0 :: oz39_5_1 :: oz39_5_2 :: oz39_5_3 :: [])
theorem gz39_5_0 : Oz39_5[0]? = some oz39_5_0 := rfl
theorem gz39_5_1 : Oz39_5[1]? = some oz39_5_1 := rfl
theorem gz39_5_2 : Oz39_5[2]? = some oz39_5_2 := rfl
theorem gz39_5_3 : Oz39_5[3]? = some oz39_5_3 := rfl
def cz39_15 : Code := Code.region 5 Oz39_5 false
def oz39_6_0 : Oper := ⟨some 28, Op.move (Operand.tmp 0), 57, "writer.go:78", #[], none⟩
def oz39_6_1 : Oper := ⟨some 29, Op.nilCheck (Operand.tmp 28), 0, "writer.go:78", #[ed_ 0], none⟩
def oz39_6_2 : Oper := ⟨some 30, Op.fieldAddr 46 (Operand.tmp 29) 0, 0, "writer.go:78", #[ed_ 1], none⟩
def oz39_6_3 : Oper := ⟨some 31, Op.call { callee := Callee.value (Operand.func 36), args := #[Operand.tmp 30, Operand.const (Value.int IntKind.u8 41)], argTypes := #[44, 5] }, 59, "writer.go:78", #[ed_ 2], none⟩
def Oz39_6 : Array Oper := List.toArray (oz39_6_0 :: oz39_6_1 :: oz39_6_2 :: oz39_6_3 :: [])
theorem gz39_6_0 : Oz39_6[0]? = some oz39_6_0 := rfl
theorem gz39_6_1 : Oz39_6[1]? = some oz39_6_1 := rfl
theorem gz39_6_2 : Oz39_6[2]? = some oz39_6_2 := rfl
theorem gz39_6_3 : Oz39_6[3]? = some oz39_6_3 := rfl
def cz39_16 : Code := Code.region 6 Oz39_6 false
def cz39_14 : Code := Code.seq cz39_15 cz39_16
def cz39_12 : Code := Code.seq cz39_13 cz39_14
def cz39_10 : Code := Code.seq cz39_11 cz39_12
def cz39_2 : Code := Code.seq cz39_3 cz39_10
def cz39_0 : Code := Code.seq cz39_1 cz39_2
theorem enz39_1042 : Enters Tryz.prog 42 := enters_of Tryz.func42 (by kernel_rfl) rfl
theorem enz39_1047 : Enters Tryz.prog 47 := enters_of Tryz.func47 (by kernel_rfl) rfl
theorem enz39_1048 : Enters Tryz.prog 48 := enters_of Tryz.func48 (by kernel_rfl) rfl
theorem bodyz39 : Tryz.f39.body = some cz39_0 := by kernel_rfl
set_option maxRecDepth 100000 in
set_option maxHeartbeats 4000000 in
theorem comp_w {k : Nat} {W : World} {B b c : Nat} {R0 S : Nat → Prop} {l0 : List UInt8} {t : Tm} {a : Option Addr} {f0 : Act} {w0 : World} (R : FrS 32 f0) (h0 : f0.tmps[0]? = some (.pointer (some ⟨b, 0, none⟩))) (h1 : f0.tmps[1]? = some (.agg #[.int .i64 t.k, .string (str t.nm), .int .i64 t.i, .slice a t.args.length c])) (KP : Keep (fun g => g < W.heap.size) W w0)  (HW : Hid (WAt B R0 W b l0)) (HV : Hid (VarsAt B W)) (IHS : Hid (TermsW k)) (IHL : Hid (ListW k)) (HNS : Hid (t.tree.ns ≤ k + 1)) (HR : Hid (t.right = true)) (HK : Hid (t.k = 4)) (HDJ : Hid (DJ S R0 W)) (HT : Hid (TmS S W t a c)) (HL : Hid (l0.length + (t.tree.tx bareC).length ≤ 140737488355328)) : cz39_0.wp Tryz.prog (bodyPost Tryz.prog Tryz.f39 (fun e w' => e = .returned (.tuple #[]) ∧ Wr B R0 W w' b (l0 ++ t.tree.tx bareC))) f0 w0 := by
  have HBW := HW.out.le; have HB0 : Hid (∀ k, R0 k → B ≤ k) := Lib.hid fun k hk => (HW.out.rr k hk).1; have HRR : Hid (∀ k, R0 k → R0 k ∨ W.heap.size ≤ k) := Lib.hid fun k hk => .inl hk
  have KX : Keep (fun g => g < W.heap.size ∧ ¬ R0 g) W w0 := KP.less fun g hg => hg.1
  obtain ⟨RR, hRR⟩ : ∃ q, q = R0 := ⟨_, rfl⟩; have HW2 : Hid (WAt B RR W b l0) := Lib.hid (by rw [hRR]; exact HW.out); have HR3 : Hid (∀ k, RR k → R0 k ∨ W.heap.size ≤ k) := Lib.hid (by rw [hRR]; exact HRR.out); clear HW HRR hRR; have HW := HW2; have HRR := HR3; clear HW2 HR3
  refine wp_seq (x := cz39_1) (y := cz39_2) ?_
  change (Code.region 0 Oz39_0 false).wp _ _ _ _
  refine reg_in (l := [0]) rfl ?_
  have F : FE_ _ [] f0 f0 := ⟨R, Ag_.refl _⟩; clear R
  have Y : (execOp f0.eval oz39_0_0).run Tryz.prog w0 = .ok (.value (.pointer (some ⟨w0.heap.size, 0, none⟩))) (w0.alloc (.cells #[.int .i64 t.k, .string (str t.nm), .int .i64 t.i, .slice a t.args.length c] 24)) := by have r1 := F.of h1; unfold oz39_0_0; go_simp
  have B101 := Blk.new w0 24 #[.int .i64 t.k, .string (str t.nm), .int .i64 t.i, .slice a t.args.length c]
  obtain ⟨w102, hw⟩ : ∃ x, x = w0.alloc (.cells #[.int .i64 t.k, .string (str t.nm), .int .i64 t.i, .slice a t.args.length c] 24) := ⟨_, rfl⟩; rw [← hw] at Y B101
  obtain ⟨b101, hb⟩ : ∃ x, x = w0.heap.size := ⟨_, rfl⟩; rw [← hb] at Y B101
  have LKP_b101 := lk_ hb KP; replace KP := ka_ hw KP; have LKX_b101 := lk_ hb KX; replace KX := ka_ hw KX; clear hw hb
  refine sv_ gz39_0_0 Y fun a103 e => ?_; clear Y
  have h3 := pt_ F e; replace F := pu_ F e; clear e
  refine st_end ?_
  replace h0 := F.of h0; clear h1; have R := F.r; clear F
  change (cz39_2).wp _ _ _ _
  refine wp_seq (x := cz39_3) (y := cz39_10) ?_
  refine wp_seq (x := cz39_4) (y := cz39_5) ?_
  change (Code.region 1 Oz39_1 false).wp _ _ _ _
  refine reg_in (l := [0, 1, 2, 3, 4, 5, 6, 7, 8]) rfl ?_
  have F : FE_ _ [] a103 a103 := ⟨R, Ag_.refl _⟩; clear R
  refine sv_ gz39_1_0 (yf1_ rfl (F.of h3)) fun a104 e => ?_
  have h4 := pt_ F e; replace F := pu_ F e; clear e
  refine sv_ gz39_1_1 (yk1_ rfl h4 B101) fun a105 e => ?_
  clear h4; have h5 := pt_ F e; replace F := pu_ F e; clear e
  obtain ⟨l1, hl1⟩ : ∃ q, ((str t.nm).toList == [46]) = q := ⟨_, rfl⟩
  have Y : (execOp a105.eval oz39_1_2).run Tryz.prog w102 = .ok (.value (.bool l1)) w102 := by have e1 : ((str t.nm).toList == [46]) = l1 := hl1; unfold oz39_1_2; go_simp
  refine sv_ gz39_1_2 Y fun a106 e => ?_; clear Y
  clear h5; have h6 := pt_ F e; replace F := pu_ F e; clear e
  refine sv_ gz39_1_3 (ym_ rfl h6) fun a107 e => ?_
  clear h6; have h7 := pt_ F e; replace F := pu_ F e; clear e
  cases l1 with
  | false =>
    refine st_not gz39_1_4 rfl (wanted_is (j := 3) (d := 7) rfl rfl h7 rfl) fun a108 e => ?_
    have h8 := pt_ F e; replace F := pu_ F e; replace h7 := so_ e h7; clear e
    refine st_not gz39_1_5 rfl (wanted_is (j := 3) (d := 7) rfl rfl h7 rfl) fun a109 e => ?_
    clear h8; have h9 := pt_ F e; replace F := pu_ F e; replace h7 := so_ e h7; clear e
    refine st_not gz39_1_6 rfl (wanted_is (j := 3) (d := 7) rfl rfl h7 rfl) fun a110 e => ?_
    clear h9; have h10 := pt_ F e; replace F := pu_ F e; replace h7 := so_ e h7; clear e
    refine st_not gz39_1_7 rfl (wanted_is (j := 3) (d := 7) rfl rfl h7 rfl) fun a111 e => ?_
    clear h10; have h11 := pt_ F e; replace F := pu_ F e; replace h7 := so_ e h7; clear e
    have Y : (execOp a111.eval oz39_1_8).run Tryz.prog w102 = .ok (.value (.bool false)) w102 := by unfold oz39_1_8; go_simp
    refine sv_ gz39_1_8 Y fun a112 e => ?_; clear Y
    clear h7 h11; have h12 := pt_ F e; replace F := pu_ F e; clear e
    refine st_end ?_
    replace h0 := F.of h0; replace h3 := F.of h3; have R := F.r; clear F
    change (cz39_5).wp _ _ _ _
    refine wp_cond_false (x := cz39_6) (y := Code.skip) (eval_slot h12) ?_
    refine wp_skip ?_
    change (cz39_10).wp _ _ _ _
    refine wp_seq (x := cz39_11) (y := cz39_12) ?_
    change (Code.region 3 Oz39_3 false).wp _ _ _ _
    have HF : ¬ (t.nm = [46] ∧ (t.args.map Tm.tree).length = 2) := fun h => by rw [List.length_map] at h; first | (have h1 := hl1; rw [str_list, h.1] at h1; simp at h1; done) | omega
    obtain ⟨xs, hxs⟩ : ∃ q, q = (t.args.map Tm.tree).map (T.tx bareC) := ⟨_, rfl⟩; have HXS := Lib.hid hxs
    have HTX : Hid (t.tree.tx bareC = funX bareC t.nm ++ 40 :: (joinX xs ++ [41])) := Lib.hid (by rw [tree_4 HK.out, tx_comp bareC HF, hxs]); clear HF hxs
    have HL2 : Hid (l0.length + (funX bareC t.nm).length + (joinX xs).length + 2 ≤ 140737488355328) := Lib.hid (by have h := HL.out; rw [HTX.out] at h; simp only [List.length_append, List.length_cons, List.length_nil] at h; omega)
    refine reg_in (l := [0, 1, 2, 3]) rfl ?_
    have F : FE_ _ [] a112 a112 := ⟨R, Ag_.refl _⟩; clear R
    refine sv_ gz39_3_0 (ym_ rfl (F.of h0)) fun a113 e => ?_
    have h16 := pt_ F e; replace F := pu_ F e; clear e
    refine sv_ gz39_3_1 (yf1_ rfl (F.of h3)) fun a114 e => ?_
    have h17 := pt_ F e; replace F := pu_ F e; replace h16 := so_ e h16; clear e
    refine sv_ gz39_3_2 (yk1_ rfl h17 B101) fun a115 e => ?_
    clear h17; have h18 := pt_ F e; replace F := pu_ F e; replace h16 := so_ e h16; clear e
    refine st_call gz39_3_3 rfl (wanted_free rfl) (yc2_ enz39_1042 rfl h16 h18) ((wname_any (L := t.nm) (HW.out.on KP) (HV.out.on (KX.less fun g hg => ⟨Nat.lt_of_lt_of_le hg HBW, fun h => absurd hg (Nat.not_lt.2 (HB0.out g h))⟩)) (by have h := HL2.out; omega) (by have h := (Tm.ok_args (right_of.1 HR.out).1 HK.out).2.2.2; omega)).mono ?_)
    rintro e9 w116 ⟨rfl, ⟨RR2, hw, hr⟩, kf⟩
    have N_b101 : ¬ RR b101 := fun h => absurd (HW.out.rr b101 h).2 (Nat.not_lt.2 LKP_b101)
    have l_b101 := B101.lt; replace B101 := B101.keep kf ⟨l_b101, N_b101⟩
    replace N_b101 : ¬ RR2 b101 := fun h => (hr b101 h).elim N_b101 (fun h => absurd l_b101 (Nat.not_lt.2 h)); clear l_b101
    have HR2 : Hid (∀ k, RR2 k → R0 k ∨ W.heap.size ≤ k) := Lib.hid fun k hk => (hr k hk).elim (HRR.out k) (fun h => .inr (Nat.le_trans KX.size h))
    replace KX := KX.trans (kf.less fun g hg => ⟨Nat.lt_of_lt_of_le hg.1 KX.size, fun h => (HRR.out g h).elim hg.2 (fun h => absurd hg.1 (Nat.not_lt.2 h))⟩)
    clear HW HRR hr kf KP; have HW := Lib.hid hw; clear hw; have HRR := HR2; clear HR2
    obtain ⟨RR, hRR⟩ : ∃ q, q = RR2 := ⟨_, rfl⟩; rw [← hRR] at HW HRR N_b101; clear hRR RR2
    have kk := trivial
    clear kk
    have KP := Keep.refl (fun g => g < w116.heap.size) w116
    refine ⟨_, rfl, fun a117 e => ?_⟩
    clear h16 h18; replace F := pu_ F e; clear e
    refine st_end ?_
    replace h0 := F.of h0; replace h3 := F.of h3; clear h12; have R := F.r; clear F
    change (cz39_12).wp _ _ _ _
    refine wp_seq (x := cz39_13) (y := cz39_14) ?_
    change (Code.region 4 Oz39_4 false).wp _ _ _ _
    refine reg_in (l := [0, 1, 2, 3]) rfl ?_
    have F : FE_ _ [] a117 a117 := ⟨R, Ag_.refl _⟩; clear R
    refine sv_ gz39_4_0 (ym_ rfl (F.of h0)) fun a118 e => ?_
    have h20 := pt_ F e; replace F := pu_ F e; clear e
    have Y : (execOp a118.eval oz39_4_1).run Tryz.prog w116 = .ok (.value (.pointer (some ⟨b, 0, none⟩))) w116 := by unfold oz39_4_1; go_simp
    refine sv_ gz39_4_1 Y fun a119 e => ?_; clear Y
    clear h20; have h21 := pt_ F e; replace F := pu_ F e; clear e
    have Y : (execOp a119.eval oz39_4_2).run Tryz.prog w116 = .ok (.value (.pointer (some ⟨b, 0, none⟩))) w116 := by unfold oz39_4_2; go_simp
    refine sv_ gz39_4_2 Y fun a120 e => ?_; clear Y
    clear h21; have h22 := pt_ F e; replace F := pu_ F e; clear e
    have Y : (execOp a120.eval oz39_4_3).run Tryz.prog w116 = .ok (.enter 36 #[.pointer (some ⟨b, 0, none⟩), .int .u8 40]) w116 := by unfold oz39_4_3; go_simp
    refine st_call gz39_4_3 rfl (wanted_free rfl) Y ((wbyte_any (HW.out.on KP) 40 (by have h := HL2.out; simp only [List.length_append, List.length_cons, List.length_nil]; omega)).mono ?_); clear Y
    rintro e9 w121 ⟨rfl, ⟨RR2, hw, hr⟩, kf⟩
    have l_b101 := B101.lt; replace B101 := B101.keep kf ⟨l_b101, N_b101⟩
    replace N_b101 : ¬ RR2 b101 := fun h => (hr b101 h).elim N_b101 (fun h => absurd l_b101 (Nat.not_lt.2 h)); clear l_b101
    have HR2 : Hid (∀ k, RR2 k → R0 k ∨ W.heap.size ≤ k) := Lib.hid fun k hk => (hr k hk).elim (HRR.out k) (fun h => .inr (Nat.le_trans KX.size h))
    replace KX := KX.trans (kf.less fun g hg => ⟨Nat.lt_of_lt_of_le hg.1 KX.size, fun h => (HRR.out g h).elim hg.2 (fun h => absurd hg.1 (Nat.not_lt.2 h))⟩)
    clear HW HRR hr kf KP; have HW := Lib.hid hw; clear hw; have HRR := HR2; clear HR2
    obtain ⟨RR, hRR⟩ : ∃ q, q = RR2 := ⟨_, rfl⟩; rw [← hRR] at HW HRR N_b101; clear hRR RR2
    have kk := trivial
    clear kk
    have KP := Keep.refl (fun g => g < w121.heap.size) w121
    refine ⟨_, rfl, fun a122 e => ?_⟩
    clear h22; replace F := pu_ F e; clear e
    refine st_end ?_
    replace h0 := F.of h0; replace h3 := F.of h3; have R := F.r; clear F
    change (cz39_14).wp _ _ _ _
    refine wp_seq (x := cz39_15) (y := cz39_16) ?_
    change (Code.region 5 Oz39_5 false).wp _ _ _ _
    refine reg_in (l := [0, 1, 2, 3]) rfl ?_
    have F : FE_ _ [] a122 a122 := ⟨R, Ag_.refl _⟩; clear R
    refine sv_ gz39_5_0 (ym_ rfl (F.of h0)) fun a123 e => ?_
    have h24 := pt_ F e; replace F := pu_ F e; clear e
    refine sv_ gz39_5_1 (yf3_ rfl (F.of h3)) fun a124 e => ?_
    have h25 := pt_ F e; replace F := pu_ F e; replace h24 := so_ e h24; clear e
    refine sv_ gz39_5_2 (yk3_ rfl h25 B101) fun a125 e => ?_
    clear h25; have h26 := pt_ F e; replace F := pu_ F e; replace h24 := so_ e h24; clear e
    obtain ⟨ps, hps, hS⟩ := (HT.out.keep (HDJ.out.keep KX)).args; have hpl : ps.length = t.args.length := by rw [← hps, List.length_map]
    have hXP : (ps.map fun p => p.1.tree.tx bareC) = xs := by rw [HXS.out, ← hps, List.map_map, List.map_map]; rfl
    have hmem : ∀ p ∈ ps, p.1 ∈ t.args := fun p hp => by rw [← hps]; exact List.mem_map_of_mem hp
    have hcall := IHS.out w121 B b RR S _ a c ps (fun p hp => ⟨part_ns HK.out (hmem p hp) HNS.out, part_right' HR.out HK.out (hmem p hp)⟩) (by rw [hpl]; have := (Tm.ok_args (right_of.1 HR.out).1 HK.out).2.1; omega) (HW.out.on KP) (HV.out.on (KX.less fun g hg => ⟨Nat.lt_of_lt_of_le hg HBW, fun h => absurd hg (Nat.not_lt.2 (HB0.out g h))⟩)) (HDJ.out.next HRR.out KX.size) hS (by rw [hXP]; have h := HL2.out; simp only [List.length_append, List.length_cons, List.length_nil]; omega); rw [hpl, hXP] at hcall; clear hS hXP hmem hps hpl
    refine st_call gz39_5_3 rfl (wanted_free rfl) (yc2_ enz39_1048 rfl h24 h26) ((hcall).mono ?_)
    rintro e9 w126 ⟨rfl, ⟨RR2, hw, hr⟩, kf⟩
    have l_b101 := B101.lt; replace B101 := B101.keep kf ⟨l_b101, N_b101⟩
    replace N_b101 : ¬ RR2 b101 := fun h => (hr b101 h).elim N_b101 (fun h => absurd l_b101 (Nat.not_lt.2 h)); clear l_b101
    have HR2 : Hid (∀ k, RR2 k → R0 k ∨ W.heap.size ≤ k) := Lib.hid fun k hk => (hr k hk).elim (HRR.out k) (fun h => .inr (Nat.le_trans KX.size h))
    replace KX := KX.trans (kf.less fun g hg => ⟨Nat.lt_of_lt_of_le hg.1 KX.size, fun h => (HRR.out g h).elim hg.2 (fun h => absurd hg.1 (Nat.not_lt.2 h))⟩)
    clear HW HRR hr kf KP; have HW := Lib.hid hw; clear hw; have HRR := HR2; clear HR2
    obtain ⟨RR, hRR⟩ : ∃ q, q = RR2 := ⟨_, rfl⟩; rw [← hRR] at HW HRR N_b101; clear hRR RR2
    have kk := trivial
    clear kk
    clear hcall
    have KP := Keep.refl (fun g => g < w126.heap.size) w126
    refine ⟨_, rfl, fun a127 e => ?_⟩
    clear h24 h26; replace F := pu_ F e; clear e
    refine st_end ?_
    replace h0 := F.of h0; clear h3; have R := F.r; clear F
    change (cz39_16).wp _ _ _ _
    change (Code.region 6 Oz39_6 false).wp _ _ _ _
    refine reg_in (l := [0, 1, 2, 3]) rfl ?_
    have F : FE_ _ [] a127 a127 := ⟨R, Ag_.refl _⟩; clear R
    refine sv_ gz39_6_0 (ym_ rfl (F.of h0)) fun a128 e => ?_
    have h28 := pt_ F e; replace F := pu_ F e; clear e
    have Y : (execOp a128.eval oz39_6_1).run Tryz.prog w126 = .ok (.value (.pointer (some ⟨b, 0, none⟩))) w126 := by unfold oz39_6_1; go_simp
    refine sv_ gz39_6_1 Y fun a129 e => ?_; clear Y
    clear h28; have h29 := pt_ F e; replace F := pu_ F e; clear e
    have Y : (execOp a129.eval oz39_6_2).run Tryz.prog w126 = .ok (.value (.pointer (some ⟨b, 0, none⟩))) w126 := by unfold oz39_6_2; go_simp
    refine sv_ gz39_6_2 Y fun a130 e => ?_; clear Y
    clear h29; have h30 := pt_ F e; replace F := pu_ F e; clear e
    have Y : (execOp a130.eval oz39_6_3).run Tryz.prog w126 = .ok (.enter 36 #[.pointer (some ⟨b, 0, none⟩), .int .u8 41]) w126 := by unfold oz39_6_3; go_simp
    refine st_call gz39_6_3 rfl (wanted_free rfl) Y ((wbyte_any (HW.out.on KP) 41 (by have h := HL2.out; simp only [List.length_append, List.length_cons, List.length_nil]; omega)).mono ?_); clear Y
    rintro e9 w131 ⟨rfl, ⟨RR2, hw, hr⟩, kf⟩
    have l_b101 := B101.lt; replace B101 := B101.keep kf ⟨l_b101, N_b101⟩
    replace N_b101 : ¬ RR2 b101 := fun h => (hr b101 h).elim N_b101 (fun h => absurd l_b101 (Nat.not_lt.2 h)); clear l_b101
    have HR2 : Hid (∀ k, RR2 k → R0 k ∨ W.heap.size ≤ k) := Lib.hid fun k hk => (hr k hk).elim (HRR.out k) (fun h => .inr (Nat.le_trans KX.size h))
    replace KX := KX.trans (kf.less fun g hg => ⟨Nat.lt_of_lt_of_le hg.1 KX.size, fun h => (HRR.out g h).elim hg.2 (fun h => absurd hg.1 (Nat.not_lt.2 h))⟩)
    clear HW HRR hr kf KP; have HW := Lib.hid hw; clear hw; have HRR := HR2; clear HR2
    obtain ⟨RR, hRR⟩ : ∃ q, q = RR2 := ⟨_, rfl⟩; rw [← hRR] at HW HRR N_b101; clear hRR RR2
    have kk := trivial
    clear kk
    have KP := Keep.refl (fun g => g < w131.heap.size) w131
    refine ⟨_, rfl, fun a132 e => ?_⟩
    clear h30; replace F := pu_ F e; clear e
    refine st_end ?_
    clear h0; have R := F.r; clear F
    change bodyPost Tryz.prog Tryz.f39 (fun e w' => e = .returned (.tuple #[]) ∧ Wr B R0 W w' b (l0 ++ t.tree.tx bareC)) .normal a132 w131
    refine bodyPost_end (results_none rfl _ _ _) R.defers ?_
    exact ⟨rfl, ⟨RR, by have hw := HW.out.on KP; rw [HTX.out]; simpa [List.append_assoc] using hw, HRR.out⟩, KX⟩
  | true =>
    refine st_val gz39_1_4 rfl (wanted_is (j := 3) (d := 7) rfl rfl h7 rfl) (yf3_ rfl (F.of h3)) fun a133 e => ?_
    have h8 := pt_ F e; replace F := pu_ F e; replace h7 := so_ e h7; clear e
    refine st_val gz39_1_5 rfl (wanted_is (j := 3) (d := 7) rfl rfl h7 rfl) (yk3_ rfl h8 B101) fun a134 e => ?_
    clear h8; have h9 := pt_ F e; replace F := pu_ F e; replace h7 := so_ e h7; clear e
    have Y : (execOp a134.eval oz39_1_6).run Tryz.prog w102 = .ok (.value (.int .i64 t.args.length)) w102 := by unfold oz39_1_6; go_simp
    refine st_val gz39_1_6 rfl (wanted_is (j := 3) (d := 7) rfl rfl h7 rfl) Y fun a135 e => ?_; clear Y
    clear h9; have h10 := pt_ F e; replace F := pu_ F e; replace h7 := so_ e h7; clear e
    obtain ⟨b136, hb136⟩ : ∃ x, (((t.args.length : Int) == (2 : Int))) = x := ⟨_, rfl⟩
    have Y : (execOp a135.eval oz39_1_7).run Tryz.prog w102 = .ok (.value (.bool b136)) w102 := by rw [← hb136]; unfold oz39_1_7; go_simp
    refine st_val gz39_1_7 rfl (wanted_is (j := 3) (d := 7) rfl rfl h7 rfl) Y fun a137 e => ?_; clear Y
    clear h10; have h11 := pt_ F e; replace F := pu_ F e; replace h7 := so_ e h7; clear e
    have Y : (execOp a137.eval oz39_1_8).run Tryz.prog w102 = .ok (.value (.bool b136)) w102 := by unfold oz39_1_8; go_simp
    refine sv_ gz39_1_8 Y fun a138 e => ?_; clear Y
    clear h7 h11; have h12 := pt_ F e; replace F := pu_ F e; clear e
    refine st_end ?_
    replace h0 := F.of h0; replace h3 := F.of h3; have R := F.r; clear F
    change (cz39_5).wp _ _ _ _
    cases b136 with
    | false =>
      have fb136 := hb136; clear hb136
      simp only [decide_eq_true_eq, decide_eq_false_iff_not, bne_iff_ne, bne_eq_false_iff_eq, beq_iff_eq, beq_eq_false_iff_ne, ne_eq, Bool.not_eq_true', Bool.not_eq_false', Bool.not_eq_eq_eq_not, Bool.not_true, Bool.not_false] at fb136
      refine wp_cond_false (x := cz39_6) (y := Code.skip) (eval_slot h12) ?_
      refine wp_skip ?_
      change (cz39_10).wp _ _ _ _
      refine wp_seq (x := cz39_11) (y := cz39_12) ?_
      change (Code.region 3 Oz39_3 false).wp _ _ _ _
      have HF : ¬ (t.nm = [46] ∧ (t.args.map Tm.tree).length = 2) := fun h => by rw [List.length_map] at h; first | (have h1 := hl1; rw [str_list, h.1] at h1; simp at h1; done) | omega
      obtain ⟨xs, hxs⟩ : ∃ q, q = (t.args.map Tm.tree).map (T.tx bareC) := ⟨_, rfl⟩; have HXS := Lib.hid hxs
      have HTX : Hid (t.tree.tx bareC = funX bareC t.nm ++ 40 :: (joinX xs ++ [41])) := Lib.hid (by rw [tree_4 HK.out, tx_comp bareC HF, hxs]); clear HF hxs
      have HL2 : Hid (l0.length + (funX bareC t.nm).length + (joinX xs).length + 2 ≤ 140737488355328) := Lib.hid (by have h := HL.out; rw [HTX.out] at h; simp only [List.length_append, List.length_cons, List.length_nil] at h; omega)
      refine reg_in (l := [0, 1, 2, 3]) rfl ?_
      have F : FE_ _ [] a138 a138 := ⟨R, Ag_.refl _⟩; clear R
      refine sv_ gz39_3_0 (ym_ rfl (F.of h0)) fun a139 e => ?_
      have h16 := pt_ F e; replace F := pu_ F e; clear e
      refine sv_ gz39_3_1 (yf1_ rfl (F.of h3)) fun a140 e => ?_
      have h17 := pt_ F e; replace F := pu_ F e; replace h16 := so_ e h16; clear e
      refine sv_ gz39_3_2 (yk1_ rfl h17 B101) fun a141 e => ?_
      clear h17; have h18 := pt_ F e; replace F := pu_ F e; replace h16 := so_ e h16; clear e
      refine st_call gz39_3_3 rfl (wanted_free rfl) (yc2_ enz39_1042 rfl h16 h18) ((wname_any (L := t.nm) (HW.out.on KP) (HV.out.on (KX.less fun g hg => ⟨Nat.lt_of_lt_of_le hg HBW, fun h => absurd hg (Nat.not_lt.2 (HB0.out g h))⟩)) (by have h := HL2.out; omega) (by have h := (Tm.ok_args (right_of.1 HR.out).1 HK.out).2.2.2; omega)).mono ?_)
      rintro e9 w142 ⟨rfl, ⟨RR2, hw, hr⟩, kf⟩
      have N_b101 : ¬ RR b101 := fun h => absurd (HW.out.rr b101 h).2 (Nat.not_lt.2 LKP_b101)
      have l_b101 := B101.lt; replace B101 := B101.keep kf ⟨l_b101, N_b101⟩
      replace N_b101 : ¬ RR2 b101 := fun h => (hr b101 h).elim N_b101 (fun h => absurd l_b101 (Nat.not_lt.2 h)); clear l_b101
      have HR2 : Hid (∀ k, RR2 k → R0 k ∨ W.heap.size ≤ k) := Lib.hid fun k hk => (hr k hk).elim (HRR.out k) (fun h => .inr (Nat.le_trans KX.size h))
      replace KX := KX.trans (kf.less fun g hg => ⟨Nat.lt_of_lt_of_le hg.1 KX.size, fun h => (HRR.out g h).elim hg.2 (fun h => absurd hg.1 (Nat.not_lt.2 h))⟩)
      clear HW HRR hr kf KP; have HW := Lib.hid hw; clear hw; have HRR := HR2; clear HR2
      obtain ⟨RR, hRR⟩ : ∃ q, q = RR2 := ⟨_, rfl⟩; rw [← hRR] at HW HRR N_b101; clear hRR RR2
      have kk := trivial
      clear kk
      have KP := Keep.refl (fun g => g < w142.heap.size) w142
      refine ⟨_, rfl, fun a143 e => ?_⟩
      clear h16 h18; replace F := pu_ F e; clear e
      refine st_end ?_
      replace h0 := F.of h0; replace h3 := F.of h3; clear h12; have R := F.r; clear F
      change (cz39_12).wp _ _ _ _
      refine wp_seq (x := cz39_13) (y := cz39_14) ?_
      change (Code.region 4 Oz39_4 false).wp _ _ _ _
      refine reg_in (l := [0, 1, 2, 3]) rfl ?_
      have F : FE_ _ [] a143 a143 := ⟨R, Ag_.refl _⟩; clear R
      refine sv_ gz39_4_0 (ym_ rfl (F.of h0)) fun a144 e => ?_
      have h20 := pt_ F e; replace F := pu_ F e; clear e
      have Y : (execOp a144.eval oz39_4_1).run Tryz.prog w142 = .ok (.value (.pointer (some ⟨b, 0, none⟩))) w142 := by unfold oz39_4_1; go_simp
      refine sv_ gz39_4_1 Y fun a145 e => ?_; clear Y
      clear h20; have h21 := pt_ F e; replace F := pu_ F e; clear e
      have Y : (execOp a145.eval oz39_4_2).run Tryz.prog w142 = .ok (.value (.pointer (some ⟨b, 0, none⟩))) w142 := by unfold oz39_4_2; go_simp
      refine sv_ gz39_4_2 Y fun a146 e => ?_; clear Y
      clear h21; have h22 := pt_ F e; replace F := pu_ F e; clear e
      have Y : (execOp a146.eval oz39_4_3).run Tryz.prog w142 = .ok (.enter 36 #[.pointer (some ⟨b, 0, none⟩), .int .u8 40]) w142 := by unfold oz39_4_3; go_simp
      refine st_call gz39_4_3 rfl (wanted_free rfl) Y ((wbyte_any (HW.out.on KP) 40 (by have h := HL2.out; simp only [List.length_append, List.length_cons, List.length_nil]; omega)).mono ?_); clear Y
      rintro e9 w147 ⟨rfl, ⟨RR2, hw, hr⟩, kf⟩
      have l_b101 := B101.lt; replace B101 := B101.keep kf ⟨l_b101, N_b101⟩
      replace N_b101 : ¬ RR2 b101 := fun h => (hr b101 h).elim N_b101 (fun h => absurd l_b101 (Nat.not_lt.2 h)); clear l_b101
      have HR2 : Hid (∀ k, RR2 k → R0 k ∨ W.heap.size ≤ k) := Lib.hid fun k hk => (hr k hk).elim (HRR.out k) (fun h => .inr (Nat.le_trans KX.size h))
      replace KX := KX.trans (kf.less fun g hg => ⟨Nat.lt_of_lt_of_le hg.1 KX.size, fun h => (HRR.out g h).elim hg.2 (fun h => absurd hg.1 (Nat.not_lt.2 h))⟩)
      clear HW HRR hr kf KP; have HW := Lib.hid hw; clear hw; have HRR := HR2; clear HR2
      obtain ⟨RR, hRR⟩ : ∃ q, q = RR2 := ⟨_, rfl⟩; rw [← hRR] at HW HRR N_b101; clear hRR RR2
      have kk := trivial
      clear kk
      have KP := Keep.refl (fun g => g < w147.heap.size) w147
      refine ⟨_, rfl, fun a148 e => ?_⟩
      clear h22; replace F := pu_ F e; clear e
      refine st_end ?_
      replace h0 := F.of h0; replace h3 := F.of h3; have R := F.r; clear F
      change (cz39_14).wp _ _ _ _
      refine wp_seq (x := cz39_15) (y := cz39_16) ?_
      change (Code.region 5 Oz39_5 false).wp _ _ _ _
      refine reg_in (l := [0, 1, 2, 3]) rfl ?_
      have F : FE_ _ [] a148 a148 := ⟨R, Ag_.refl _⟩; clear R
      refine sv_ gz39_5_0 (ym_ rfl (F.of h0)) fun a149 e => ?_
      have h24 := pt_ F e; replace F := pu_ F e; clear e
      refine sv_ gz39_5_1 (yf3_ rfl (F.of h3)) fun a150 e => ?_
      have h25 := pt_ F e; replace F := pu_ F e; replace h24 := so_ e h24; clear e
      refine sv_ gz39_5_2 (yk3_ rfl h25 B101) fun a151 e => ?_
      clear h25; have h26 := pt_ F e; replace F := pu_ F e; replace h24 := so_ e h24; clear e
      obtain ⟨ps, hps, hS⟩ := (HT.out.keep (HDJ.out.keep KX)).args; have hpl : ps.length = t.args.length := by rw [← hps, List.length_map]
      have hXP : (ps.map fun p => p.1.tree.tx bareC) = xs := by rw [HXS.out, ← hps, List.map_map, List.map_map]; rfl
      have hmem : ∀ p ∈ ps, p.1 ∈ t.args := fun p hp => by rw [← hps]; exact List.mem_map_of_mem hp
      have hcall := IHS.out w147 B b RR S _ a c ps (fun p hp => ⟨part_ns HK.out (hmem p hp) HNS.out, part_right' HR.out HK.out (hmem p hp)⟩) (by rw [hpl]; have := (Tm.ok_args (right_of.1 HR.out).1 HK.out).2.1; omega) (HW.out.on KP) (HV.out.on (KX.less fun g hg => ⟨Nat.lt_of_lt_of_le hg HBW, fun h => absurd hg (Nat.not_lt.2 (HB0.out g h))⟩)) (HDJ.out.next HRR.out KX.size) hS (by rw [hXP]; have h := HL2.out; simp only [List.length_append, List.length_cons, List.length_nil]; omega); rw [hpl, hXP] at hcall; clear hS hXP hmem hps hpl
      refine st_call gz39_5_3 rfl (wanted_free rfl) (yc2_ enz39_1048 rfl h24 h26) ((hcall).mono ?_)
      rintro e9 w152 ⟨rfl, ⟨RR2, hw, hr⟩, kf⟩
      have l_b101 := B101.lt; replace B101 := B101.keep kf ⟨l_b101, N_b101⟩
      replace N_b101 : ¬ RR2 b101 := fun h => (hr b101 h).elim N_b101 (fun h => absurd l_b101 (Nat.not_lt.2 h)); clear l_b101
      have HR2 : Hid (∀ k, RR2 k → R0 k ∨ W.heap.size ≤ k) := Lib.hid fun k hk => (hr k hk).elim (HRR.out k) (fun h => .inr (Nat.le_trans KX.size h))
      replace KX := KX.trans (kf.less fun g hg => ⟨Nat.lt_of_lt_of_le hg.1 KX.size, fun h => (HRR.out g h).elim hg.2 (fun h => absurd hg.1 (Nat.not_lt.2 h))⟩)
      clear HW HRR hr kf KP; have HW := Lib.hid hw; clear hw; have HRR := HR2; clear HR2
      obtain ⟨RR, hRR⟩ : ∃ q, q = RR2 := ⟨_, rfl⟩; rw [← hRR] at HW HRR N_b101; clear hRR RR2
      have kk := trivial
      clear kk
      clear hcall
      have KP := Keep.refl (fun g => g < w152.heap.size) w152
      refine ⟨_, rfl, fun a153 e => ?_⟩
      clear h24 h26; replace F := pu_ F e; clear e
      refine st_end ?_
      replace h0 := F.of h0; clear h3; have R := F.r; clear F
      change (cz39_16).wp _ _ _ _
      change (Code.region 6 Oz39_6 false).wp _ _ _ _
      refine reg_in (l := [0, 1, 2, 3]) rfl ?_
      have F : FE_ _ [] a153 a153 := ⟨R, Ag_.refl _⟩; clear R
      refine sv_ gz39_6_0 (ym_ rfl (F.of h0)) fun a154 e => ?_
      have h28 := pt_ F e; replace F := pu_ F e; clear e
      have Y : (execOp a154.eval oz39_6_1).run Tryz.prog w152 = .ok (.value (.pointer (some ⟨b, 0, none⟩))) w152 := by unfold oz39_6_1; go_simp
      refine sv_ gz39_6_1 Y fun a155 e => ?_; clear Y
      clear h28; have h29 := pt_ F e; replace F := pu_ F e; clear e
      have Y : (execOp a155.eval oz39_6_2).run Tryz.prog w152 = .ok (.value (.pointer (some ⟨b, 0, none⟩))) w152 := by unfold oz39_6_2; go_simp
      refine sv_ gz39_6_2 Y fun a156 e => ?_; clear Y
      clear h29; have h30 := pt_ F e; replace F := pu_ F e; clear e
      have Y : (execOp a156.eval oz39_6_3).run Tryz.prog w152 = .ok (.enter 36 #[.pointer (some ⟨b, 0, none⟩), .int .u8 41]) w152 := by unfold oz39_6_3; go_simp
      refine st_call gz39_6_3 rfl (wanted_free rfl) Y ((wbyte_any (HW.out.on KP) 41 (by have h := HL2.out; simp only [List.length_append, List.length_cons, List.length_nil]; omega)).mono ?_); clear Y
      rintro e9 w157 ⟨rfl, ⟨RR2, hw, hr⟩, kf⟩
      have l_b101 := B101.lt; replace B101 := B101.keep kf ⟨l_b101, N_b101⟩
      replace N_b101 : ¬ RR2 b101 := fun h => (hr b101 h).elim N_b101 (fun h => absurd l_b101 (Nat.not_lt.2 h)); clear l_b101
      have HR2 : Hid (∀ k, RR2 k → R0 k ∨ W.heap.size ≤ k) := Lib.hid fun k hk => (hr k hk).elim (HRR.out k) (fun h => .inr (Nat.le_trans KX.size h))
      replace KX := KX.trans (kf.less fun g hg => ⟨Nat.lt_of_lt_of_le hg.1 KX.size, fun h => (HRR.out g h).elim hg.2 (fun h => absurd hg.1 (Nat.not_lt.2 h))⟩)
      clear HW HRR hr kf KP; have HW := Lib.hid hw; clear hw; have HRR := HR2; clear HR2
      obtain ⟨RR, hRR⟩ : ∃ q, q = RR2 := ⟨_, rfl⟩; rw [← hRR] at HW HRR N_b101; clear hRR RR2
      have kk := trivial
      clear kk
      have KP := Keep.refl (fun g => g < w157.heap.size) w157
      refine ⟨_, rfl, fun a158 e => ?_⟩
      clear h30; replace F := pu_ F e; clear e
      refine st_end ?_
      clear h0; have R := F.r; clear F
      change bodyPost Tryz.prog Tryz.f39 (fun e w' => e = .returned (.tuple #[]) ∧ Wr B R0 W w' b (l0 ++ t.tree.tx bareC)) .normal a158 w157
      refine bodyPost_end (results_none rfl _ _ _) R.defers ?_
      exact ⟨rfl, ⟨RR, by have hw := HW.out.on KP; rw [HTX.out]; simpa [List.append_assoc] using hw, HRR.out⟩, KX⟩
    | true =>
      have fb136 := hb136; clear hb136
      simp only [decide_eq_true_eq, decide_eq_false_iff_not, bne_iff_ne, bne_eq_false_iff_eq, beq_iff_eq, beq_eq_false_iff_ne, ne_eq, Bool.not_eq_true', Bool.not_eq_false', Bool.not_eq_eq_eq_not, Bool.not_true, Bool.not_false] at fb136
      refine wp_cond_true (x := cz39_6) (y := Code.skip) (eval_slot h12) ?_
      refine wp_seq (x := cz39_7) (y := Code.ret) ?_
      change (Code.region 2 Oz39_2 false).wp _ _ _ _
      have HC : Hid (t.nm = [46] ∧ t.args.length = 2) := Lib.hid ⟨by have h := hl1; rw [str_list] at h; simpa using h, by omega⟩
      refine reg_in (l := [0, 1, 2]) rfl ?_
      have F : FE_ _ [] a138 a138 := ⟨R, Ag_.refl _⟩; clear R
      refine sv_ gz39_2_0 (ym_ rfl (F.of h0)) fun a159 e => ?_
      have h13 := pt_ F e; replace F := pu_ F e; clear e
      refine sv_ gz39_2_1 (yl4_ rfl (F.of h3) B101) fun a160 e => ?_
      have h14 := pt_ F e; replace F := pu_ F e; replace h13 := so_ e h13; clear e
      refine st_call gz39_2_2 rfl (wanted_free rfl) (yc2_ enz39_1047 rfl h13 h14) ((IHL.out w102 B b RR S _ t a c HNS.out HR.out HK.out HC.out (HW.out.on KP) (HV.out.on (KX.less fun g hg => ⟨Nat.lt_of_lt_of_le hg HBW, fun h => absurd hg (Nat.not_lt.2 (HB0.out g h))⟩)) (HDJ.out.next HRR.out KX.size) (HT.out.keep (HDJ.out.keep KX)) HL.out).mono ?_)
      rintro e9 w161 ⟨rfl, ⟨RR2, hw, hr⟩, kf⟩
      have N_b101 : ¬ RR b101 := fun h => absurd (HW.out.rr b101 h).2 (Nat.not_lt.2 LKP_b101)
      have l_b101 := B101.lt; replace B101 := B101.keep kf ⟨l_b101, N_b101⟩
      replace N_b101 : ¬ RR2 b101 := fun h => (hr b101 h).elim N_b101 (fun h => absurd l_b101 (Nat.not_lt.2 h)); clear l_b101
      have HR2 : Hid (∀ k, RR2 k → R0 k ∨ W.heap.size ≤ k) := Lib.hid fun k hk => (hr k hk).elim (HRR.out k) (fun h => .inr (Nat.le_trans KX.size h))
      replace KX := KX.trans (kf.less fun g hg => ⟨Nat.lt_of_lt_of_le hg.1 KX.size, fun h => (HRR.out g h).elim hg.2 (fun h => absurd hg.1 (Nat.not_lt.2 h))⟩)
      clear HW HRR hr kf KP; have HW := Lib.hid hw; clear hw; have HRR := HR2; clear HR2
      obtain ⟨RR, hRR⟩ : ∃ q, q = RR2 := ⟨_, rfl⟩; rw [← hRR] at HW HRR N_b101; clear hRR RR2
      have kk := trivial
      clear kk
      have KP := Keep.refl (fun g => g < w161.heap.size) w161
      refine ⟨_, rfl, fun a162 e => ?_⟩
      clear h13 h14; replace F := pu_ F e; clear e
      refine st_end ?_
      replace h0 := F.of h0; replace h3 := F.of h3; clear h12; have R := F.r; clear F
      change (Code.ret).wp _ _ _ _
      refine wp_ret ?_
      change bodyPost Tryz.prog Tryz.f39 (fun e w' => e = .returned (.tuple #[]) ∧ Wr B R0 W w' b (l0 ++ t.tree.tx bareC)) .ret a162 w161
      refine bodyPost_ret (results_none rfl _ _ _) R.defers ?_
      exact ⟨rfl, ⟨RR, HW.out.on KP, HRR.out⟩, KX⟩
theorem comp_of {k : Nat} {W : World} {B b c : Nat} {R0 S : Nat → Prop} {l0 : List UInt8} {t : Tm} {a : Option Addr} (ihs : TermsW k) (ihl : ListW k) (hns : t.tree.ns ≤ k + 1) (hr : t.right = true) (hk : t.k = 4) (hw : WAt B R0 W b l0) (hv : VarsAt B W) (hd : DJ S R0 W) (hT : TmS S W t a c) (hl : l0.length + (t.tree.tx bareC).length ≤ 140737488355328) : Calls Tryz.prog 39 #[.pointer (some ⟨b, 0, none⟩), tv t a c] W fun e w' => e = .returned (.tuple #[]) ∧ Wr B R0 W w' b (l0 ++ t.tree.tx bareC) := by
  refine enter_sx Tryz.func39 bodyz39 rfl (by show (2 : Nat) ≤ 32; decide) fun f0 R0' hs => ?_
  exact comp_w R0' (hs 0 _ rfl) (hs 1 _ rfl) (Keep.refl _ W) (Lib.hid hw) (Lib.hid hv) (Lib.hid ihs) (Lib.hid ihl) (Lib.hid hns) (Lib.hid hr) (Lib.hid hk) (Lib.hid hd) (Lib.hid hT) (Lib.hid hl)
def oz47_0_0 : Oper := ⟨some 3, Op.box 24 (Operand.tmp 1), 0, "writer.go:82", #[], none⟩
def Oz47_0 : Array Oper := List.toArray (oz47_0_0 :: [])
theorem gz47_0_0 : Oz47_0[0]? = some oz47_0_0 := rfl
def cz47_1 : Code := Code.region 0 Oz47_0 false
def oz47_1_0 : Oper := ⟨some 7, Op.load 24 (Operand.tmp 3), 24, "writer.go:83", #[], none⟩
def oz47_1_1 : Oper := ⟨some 8, Op.call { callee := Callee.value (Operand.func 58), args := #[Operand.tmp 7], argTypes := #[24] }, 52, "writer.go:83", #[ed_ 0], none⟩
def oz47_1_2 : Oper := ⟨some 6, Op.move (Operand.tmp 8), 52, "writer.go:83", #[ed_ 1], none⟩
def oz47_1_3 : Oper := ⟨some 9, Op.extract (Operand.tmp 6) 0, 22, "writer.go:83", #[ed_ 2], none⟩
def oz47_1_4 : Oper := ⟨some 10, Op.extract (Operand.tmp 6) 1, 24, "writer.go:83", #[ed_ 2, { on := 6, ground := Go.Ground.gcOnly Go.Departure.lateStores }], none⟩
def oz47_1_5 : Oper := ⟨some 5, Op.alloc 24, 0, "writer.go:83", #[], none⟩
def oz47_1_6 : Oper := ⟨some 4, Op.assign (Operand.tmp 9), 22, "writer.go:83", #[ed_ 3, ec_ 1, ep_ 0, ep_ 1, ep_ 2, ep_ 3, { on := 4, ground := Go.Ground.textOnly Go.Departure.lateStores }, ep_ 5], none⟩
def oz47_1_7 : Oper := ⟨none, Op.store 24 (Operand.tmp 5) (Operand.tmp 10), 0, "writer.go:83", #[ed_ 5, ed_ 4, ec_ 6, ep_ 0, ep_ 1, ep_ 2, ep_ 3, ep_ 4, ep_ 5, ep_ 6], none⟩
def Oz47_1 : Array Oper := List.toArray (oz47_1_0 :: oz47_1_1 :: oz47_1_2 :: oz47_1_3 :: oz47_1_4 :: oz47_1_5 :: oz47_1_6 :: oz47_1_7 :: [])
theorem gz47_1_0 : Oz47_1[0]? = some oz47_1_0 := rfl
theorem gz47_1_1 : Oz47_1[1]? = some oz47_1_1 := rfl
theorem gz47_1_2 : Oz47_1[2]? = some oz47_1_2 := rfl
theorem gz47_1_3 : Oz47_1[3]? = some oz47_1_3 := rfl
theorem gz47_1_4 : Oz47_1[4]? = some oz47_1_4 := rfl
theorem gz47_1_5 : Oz47_1[5]? = some oz47_1_5 := rfl
theorem gz47_1_6 : Oz47_1[6]? = some oz47_1_6 := rfl
theorem gz47_1_7 : Oz47_1[7]? = some oz47_1_7 := rfl
def cz47_3 : Code := Code.region 1 Oz47_1 false
def oz47_2_0 : Oper := ⟨some 11, Op.move (Operand.tmp 0), 57, "writer.go:84", #[], none⟩
def oz47_2_1 : Oper := ⟨some 12, Op.nilCheck (Operand.tmp 11), 0, "writer.go:84", #[ed_ 0], none⟩
def oz47_2_2 : Oper := ⟨some 13, Op.fieldAddr 46 (Operand.tmp 12) 0, 0, "writer.go:84", #[ed_ 1], none⟩
def oz47_2_3 : Oper := ⟨some 14, Op.call { callee := Callee.value (Operand.func 36), args := #[Operand.tmp 13, Operand.const (Value.int IntKind.u8 91)], argTypes := #[44, 5] }, 59, "writer.go:84", #[ed_ 2], none⟩
def Oz47_2 : Array Oper := List.toArray (oz47_2_0 :: oz47_2_1 :: oz47_2_2 :: oz47_2_3 :: [])
theorem gz47_2_0 : Oz47_2[0]? = some oz47_2_0 := rfl
theorem gz47_2_1 : Oz47_2[1]? = some oz47_2_1 := rfl
theorem gz47_2_2 : Oz47_2[2]? = some oz47_2_2 := rfl
theorem gz47_2_3 : Oz47_2[3]? = some oz47_2_3 := rfl
def cz47_5 : Code := Code.region 2 Oz47_2 false
def oz47_3_0 : Oper := ⟨some 15, Op.move (Operand.tmp 0), 57, "writer.go:85", #[], none⟩
def oz47_3_1 : Oper := ⟨some 16, Op.move (Operand.tmp 4), 22, "writer.go:85", #[], none⟩
def oz47_3_2 : Oper := ⟨some 17, Op.call { callee := Callee.value (Operand.func 48), args := #[Operand.tmp 15, Operand.tmp 16], argTypes := #[57, 22] }, 0, "writer.go:85", #[ed_ 0, ed_ 1], none⟩
def Oz47_3 : Array Oper := List.toArray (oz47_3_0 :: oz47_3_1 :: oz47_3_2 :: [])
theorem gz47_3_0 : Oz47_3[0]? = some oz47_3_0 := rfl
theorem gz47_3_1 : Oz47_3[1]? = some oz47_3_1 := rfl
theorem gz47_3_2 : Oz47_3[2]? = some oz47_3_2 := rfl
def cz47_7 : Code := Code.region 3 Oz47_3 false
def oz47_4_0 : Oper := ⟨some 18, Op.fieldAddr 24 (Operand.tmp 5) 0, 0, "writer.go:86", #[], none⟩
def oz47_4_1 : Oper := ⟨some 19, Op.load 3 (Operand.tmp 18), 3, "writer.go:86", #[ed_ 0], none⟩
def oz47_4_2 : Oper := ⟨some 20, Op.binOp Go.BinOp.neq 3 (Operand.tmp 19) (Operand.const (Value.int IntKind.i64 3)) 3, 4, "writer.go:86", #[ed_ 1], none⟩
def oz47_4_3 : Oper := ⟨some 21, Op.move (Operand.tmp 20), 4, "writer.go:86", #[ed_ 2], none⟩
def oz47_4_4 : Oper := ⟨some 22, Op.fieldAddr 24 (Operand.tmp 5) 1, 0, "writer.go:86", #[eg_ 3], some (3, false)⟩
def oz47_4_5 : Oper := ⟨some 23, Op.load 9 (Operand.tmp 22), 9, "writer.go:86", #[ed_ 4, eg_ 3], some (3, false)⟩
def oz47_4_6 : Oper := ⟨some 24, Op.binOp Go.BinOp.neq 9 (Operand.tmp 23) (Operand.const (Value.string { data := #[91, 93] })) 9, 4, "writer.go:86", #[ed_ 5, eg_ 3], some (3, false)⟩
def oz47_4_7 : Oper := ⟨some 25, Op.pick (Operand.tmp 21) (Operand.const (Value.bool true)) (Operand.tmp 24), 4, "writer.go:86", #[ed_ 3, ed_ 6], none⟩
def Oz47_4 : Array Oper := List.toArray (oz47_4_0 :: oz47_4_1 :: oz47_4_2 :: oz47_4_3 :: oz47_4_4 :: oz47_4_5 :: oz47_4_6 :: oz47_4_7 :: [])
theorem gz47_4_0 : Oz47_4[0]? = some oz47_4_0 := rfl
theorem gz47_4_1 : Oz47_4[1]? = some oz47_4_1 := rfl
theorem gz47_4_2 : Oz47_4[2]? = some oz47_4_2 := rfl
theorem gz47_4_3 : Oz47_4[3]? = some oz47_4_3 := rfl
theorem gz47_4_4 : Oz47_4[4]? = some oz47_4_4 := rfl
theorem gz47_4_5 : Oz47_4[5]? = some oz47_4_5 := rfl
theorem gz47_4_6 : Oz47_4[6]? = some oz47_4_6 := rfl
theorem gz47_4_7 : Oz47_4[7]? = some oz47_4_7 := rfl
def cz47_10 : Code := Code.region 4 Oz47_4 false
def oz47_5_0 : Oper := ⟨some 26, Op.move (Operand.tmp 0), 57, "writer.go:87", #[], none⟩
def oz47_5_1 : Oper := ⟨some 27, Op.nilCheck (Operand.tmp 26), 0, "writer.go:87", #[ed_ 0], none⟩
def oz47_5_2 : Oper := ⟨some 28, Op.fieldAddr 46 (Operand.tmp 27) 0, 0, "writer.go:87", #[ed_ 1], none⟩
def oz47_5_3 : Oper := ⟨some 29, Op.call { callee := Callee.value (Operand.func 36), args := #[Operand.tmp 28, Operand.const (Value.int IntKind.u8 124)], argTypes := #[44, 5] }, 59, "writer.go:87", #[ed_ 2], none⟩
def Oz47_5 : Array Oper := List.toArray (oz47_5_0 :: oz47_5_1 :: oz47_5_2 :: oz47_5_3 :: [])
theorem gz47_5_0 : Oz47_5[0]? = some oz47_5_0 := rfl
theorem gz47_5_1 : Oz47_5[1]? = some oz47_5_1 := rfl
theorem gz47_5_2 : Oz47_5[2]? = some oz47_5_2 := rfl
theorem gz47_5_3 : Oz47_5[3]? = some oz47_5_3 := rfl
def cz47_13 : Code := Code.region 5 Oz47_5 false
def oz47_6_0 : Oper := ⟨some 30, Op.move (Operand.tmp 0), 57, "writer.go:88", #[], none⟩
def oz47_6_1 : Oper := ⟨some 31, Op.load 24 (Operand.tmp 5), 24, "writer.go:88", #[], none⟩
def oz47_6_2 : Oper := ⟨some 32, Op.call { callee := Callee.value (Operand.func 23), args := #[Operand.tmp 30, Operand.tmp 31], argTypes := #[57, 24] }, 0, "writer.go:88", #[ed_ 0, ed_ 1], none⟩
def Oz47_6 : Array Oper := List.toArray (oz47_6_0 :: oz47_6_1 :: oz47_6_2 :: [])
theorem gz47_6_0 : Oz47_6[0]? = some oz47_6_0 := rfl
theorem gz47_6_1 : Oz47_6[1]? = some oz47_6_1 := rfl
theorem gz47_6_2 : Oz47_6[2]? = some oz47_6_2 := rfl
def cz47_14 : Code := Code.region 6 Oz47_6 false
def cz47_12 : Code := Code.seq cz47_13 cz47_14
def cz47_11 : Code := Code.cond (Operand.tmp 25) cz47_12 Code.skip
def cz47_9 : Code := Code.seq cz47_10 cz47_11
def oz47_7_0 : Oper := ⟨some 33, Op.move (Operand.tmp 0), 57, "writer.go:90", #[], none⟩
def oz47_7_1 : Oper := ⟨some 34, Op.nilCheck (Operand.tmp 33), 0, "writer.go:90", #[ed_ 0], none⟩
def oz47_7_2 : Oper := ⟨some 35, Op.fieldAddr 46 (Operand.tmp 34) 0, 0, "writer.go:90", #[ed_ 1], none⟩
def oz47_7_3 : Oper := ⟨some 36, Op.call { callee := Callee.value (Operand.func 36), args := #[Operand.tmp 35, Operand.const (Value.int IntKind.u8 93)], argTypes := #[44, 5] }, 59, "writer.go:90", #[ed_ 2], none⟩
def Oz47_7 : Array Oper := List.toArray (oz47_7_0 :: oz47_7_1 :: oz47_7_2 :: oz47_7_3 :: [])
theorem gz47_7_0 : Oz47_7[0]? = some oz47_7_0 := rfl
theorem gz47_7_1 : Oz47_7[1]? = some oz47_7_1 := rfl
theorem gz47_7_2 : Oz47_7[2]? = some oz47_7_2 := rfl
theorem gz47_7_3 : Oz47_7[3]? = some oz47_7_3 := rfl
def cz47_16 : Code := Code.region 7 Oz47_7 false
def cz47_8 : Code := Code.seq cz47_9 cz47_16
def cz47_6 : Code := Code.seq cz47_7 cz47_8
def cz47_4 : Code := Code.seq cz47_5 cz47_6
def cz47_2 : Code := Code.seq cz47_3 cz47_4
def cz47_0 : Code := Code.seq cz47_1 cz47_2
theorem enz47_1023 : Enters Tryz.prog 23 := enters_of Tryz.func23 (by kernel_rfl) rfl
theorem enz47_1048 : Enters Tryz.prog 48 := enters_of Tryz.func48 (by kernel_rfl) rfl
theorem enz47_1058 : Enters Tryz.prog 58 := enters_of Tryz.func58 (by kernel_rfl) rfl
theorem bodyz47 : Tryz.f47.body = some cz47_0 := by kernel_rfl
set_option maxRecDepth 100000 in
set_option maxHeartbeats 4000000 in
theorem list_w {k : Nat} {W : World} {B b c : Nat} {R0 S : Nat → Prop} {l0 : List UInt8} {t : Tm} {a : Option Addr} {f0 : Act} {w0 : World} (R : FrS 37 f0) (h0 : f0.tmps[0]? = some (.pointer (some ⟨b, 0, none⟩))) (h1 : f0.tmps[1]? = some (.agg #[.int .i64 t.k, .string (str t.nm), .int .i64 t.i, .slice a t.args.length c])) (KP : Keep (fun g => g < W.heap.size) W w0)  (HW : Hid (WAt B R0 W b l0)) (HV : Hid (VarsAt B W)) (IHT : Hid (TermW k)) (IHS : Hid (TermsW k)) (HNS : Hid (t.tree.ns ≤ k + 1)) (HR : Hid (t.right = true)) (HK : Hid (t.k = 4)) (HC : Hid (t.nm = [46] ∧ t.args.length = 2)) (HDJ : Hid (DJ S R0 W)) (HT : Hid (TmS S W t a c)) (HL : Hid (l0.length + (t.tree.tx bareC).length ≤ 140737488355328)) : cz47_0.wp Tryz.prog (bodyPost Tryz.prog Tryz.f47 (fun e w' => e = .returned (.tuple #[]) ∧ Wr B R0 W w' b (l0 ++ t.tree.tx bareC))) f0 w0 := by
  have HBW := HW.out.le; have HB0 : Hid (∀ k, R0 k → B ≤ k) := Lib.hid fun k hk => (HW.out.rr k hk).1; have HRR : Hid (∀ k, R0 k → R0 k ∨ W.heap.size ≤ k) := Lib.hid fun k hk => .inl hk
  have KX : Keep (fun g => g < W.heap.size ∧ ¬ R0 g) W w0 := KP.less fun g hg => hg.1
  obtain ⟨RR, hRR⟩ : ∃ q, q = R0 := ⟨_, rfl⟩; have HW2 : Hid (WAt B RR W b l0) := Lib.hid (by rw [hRR]; exact HW.out); have HR3 : Hid (∀ k, RR k → R0 k ∨ W.heap.size ≤ k) := Lib.hid (by rw [hRR]; exact HRR.out); clear HW HRR hRR; have HW := HW2; have HRR := HR3; clear HW2 HR3
  refine wp_seq (x := cz47_1) (y := cz47_2) ?_
  change (Code.region 0 Oz47_0 false).wp _ _ _ _
  refine reg_in (l := [0]) rfl ?_
  have F : FE_ _ [] f0 f0 := ⟨R, Ag_.refl _⟩; clear R
  have Y : (execOp f0.eval oz47_0_0).run Tryz.prog w0 = .ok (.value (.pointer (some ⟨w0.heap.size, 0, none⟩))) (w0.alloc (.cells #[.int .i64 t.k, .string (str t.nm), .int .i64 t.i, .slice a t.args.length c] 24)) := by have r1 := F.of h1; unfold oz47_0_0; go_simp
  have B101 := Blk.new w0 24 #[.int .i64 t.k, .string (str t.nm), .int .i64 t.i, .slice a t.args.length c]
  obtain ⟨w102, hw⟩ : ∃ x, x = w0.alloc (.cells #[.int .i64 t.k, .string (str t.nm), .int .i64 t.i, .slice a t.args.length c] 24) := ⟨_, rfl⟩; rw [← hw] at Y B101
  obtain ⟨b101, hb⟩ : ∃ x, x = w0.heap.size := ⟨_, rfl⟩; rw [← hb] at Y B101
  have LKP_b101 := lk_ hb KP; replace KP := ka_ hw KP; have LKX_b101 := lk_ hb KX; replace KX := ka_ hw KX; clear hw hb
  refine sv_ gz47_0_0 Y fun a103 e => ?_; clear Y
  have h3 := pt_ F e; replace F := pu_ F e; clear e
  refine st_end ?_
  replace h0 := F.of h0; clear h1; have R := F.r; clear F
  change (cz47_2).wp _ _ _ _
  refine wp_seq (x := cz47_3) (y := cz47_4) ?_
  change (Code.region 1 Oz47_1 false).wp _ _ _ _
  refine reg_in (l := [0, 1, 2, 3, 4, 5, 6, 7]) rfl ?_
  have F : FE_ _ [] a103 a103 := ⟨R, Ag_.refl _⟩; clear R
  refine sv_ gz47_1_0 (yl4_ rfl (F.of h3) B101) fun a104 e => ?_
  have h7 := pt_ F e; replace F := pu_ F e; clear e
  obtain ⟨ee, hee⟩ : ∃ q, t.tree.items.2 = q := ⟨_, rfl⟩; obtain ⟨en, hen⟩ : ∃ q, ee.tm = q := ⟨_, rfl⟩; have hcall := items_c (HT.out.keep (HDJ.out.keep KX)).at_ HR.out; rw [hee, hen] at hcall
  have HEE := Lib.hid hee; have HEN := Lib.hid hen; have hKS : W.heap.size ≤ w102.heap.size := KP.size; clear hee hen
  refine st_call gz47_1_1 rfl (wanted_free rfl) (yc1_ enz47_1058 rfl h7) ((hcall).mono ?_)
  rintro e9 w105 ⟨ua, uc, ps, ea, ec, rfl, hS, hE, hp, kk⟩
  replace KP := keep_onto KP kk
  replace KX := KX.trans kk.all
  replace B101 := blk_on B101 kk
  clear hcall
  have HLT9 : ∀ g, w102.heap.size ≤ g ∧ g < w105.heap.size → g < w105.heap.size := fun g hg => hg.2
  have HNI9 : ∀ g, w102.heap.size ≤ g ∧ g < w105.heap.size → ¬ RR g := fun g hg hr => absurd (HW.out.rr g hr).2 (Nat.not_lt.2 (Nat.le_trans hKS hg.1))
  obtain ⟨S2, hS2⟩ : ∃ q : Nat → Prop, q = (fun g => w102.heap.size ≤ g ∧ g < w105.heap.size) := ⟨_, rfl⟩
  rw [← hS2] at hS hE; have HLT : Hid (∀ g, S2 g → g < w105.heap.size) := Lib.hid (by rw [hS2]; exact HLT9); have HNI : Hid (∀ g, S2 g → ¬ RR g) := Lib.hid (by rw [hS2]; exact HNI9); clear hS2 HLT9 HNI9 hKS; have HS := Lib.hid hS; have HE := Lib.hid hE; have HPS := Lib.hid hp; clear hS hE hp
  clear kk
  have KI : Keep (fun g => S2 g) w105 w105 := Keep.refl _ _
  have HLC : Hid (t.nm = [46] ∧ (t.args.map Tm.tree).length = 2) := Lib.hid ⟨HC.out.1, by rw [List.length_map]; exact HC.out.2⟩
  obtain ⟨xs, hxs⟩ : ∃ q, q = t.tree.items.1.map (T.tx bareC) := ⟨_, rfl⟩; have HXS := Lib.hid hxs; clear hxs
  have HTX : Hid (t.tree.tx bareC = 91 :: (joinX xs ++ endX (T.tx bareC) ee)) := Lib.hid (by rw [HXS.out, ← HEE.out, tree_4 HK.out, tx_list bareC HLC.out])
  have HIL : Hid ((∀ u ∈ t.tree.items.1, u.ns ≤ k) ∧ ee.ns ≤ k) := Lib.hid (by have h := items_less (nm := t.nm) (args := t.args.map Tm.tree) HLC.out; have h2 := HNS.out; have h3 := HEE.out; rw [tree_4 HK.out] at h2 h3 ⊢; rw [h3] at h; exact ⟨fun u hu => by have := h.1 u hu; omega, by have := h.2; omega⟩)
  have HIR : Hid ((∀ u ∈ t.tree.items.1, u.Right) ∧ ee.Right) := Lib.hid (by have h := itF_right t.tree.nd t.tree (Tm.tree_right (right_of.1 HR.out)); rw [← HEE.out]; exact h)
  have HL2 : Hid (l0.length + (joinX xs).length + (endX (T.tx bareC) ee).length + 1 ≤ 140737488355328) := Lib.hid (by have h := HL.out; rw [HTX.out] at h; simp only [List.length_append, List.length_cons, List.length_nil] at h; omega)
  refine ⟨_, rfl, fun a106 e => ?_⟩
  clear h7; have h8 := pt_ F e; replace F := pu_ F e; clear e
  refine sv_ gz47_1_2 (ym_ rfl h8) fun a107 e => ?_
  clear h8; have h6 := pt_ F e; replace F := pu_ F e; clear e
  refine sv_ gz47_1_3 (ye20_ rfl h6) fun a108 e => ?_
  have h9 := pt_ F e; replace F := pu_ F e; replace h6 := so_ e h6; clear e
  refine sv_ gz47_1_4 (ye21_ rfl h6) fun a109 e => ?_
  clear h6; have h10 := pt_ F e; replace F := pu_ F e; replace h9 := so_ e h9; clear e
  have Y : (execOp a109.eval oz47_1_5).run Tryz.prog w105 = .ok (.value (.pointer (some ⟨w105.heap.size, 0, none⟩))) (w105.alloc (.cells #[.int .i64 0, .string (⟨#[]⟩), .int .i64 0, .slice none 0 0] 24)) := by unfold oz47_1_5; go_simp
  have B110 := Blk.new w105 24 #[.int .i64 0, .string (⟨#[]⟩), .int .i64 0, .slice none 0 0]
  obtain ⟨w111, hw⟩ : ∃ x, x = w105.alloc (.cells #[.int .i64 0, .string (⟨#[]⟩), .int .i64 0, .slice none 0 0] 24) := ⟨_, rfl⟩; rw [← hw] at Y B110
  obtain ⟨b110, hb⟩ : ∃ x, x = w105.heap.size := ⟨_, rfl⟩; rw [← hb] at Y B110
  have Nb101_b110 := nb_ hb B101; replace B101 := ba_ hw B101; have LKP_b110 := lk_ hb KP; replace KP := ka_ hw KP; have LKX_b110 := lk_ hb KX; replace KX := ka_ hw KX; have LKI_b110 := lk_ hb KI; replace KI := ka_ hw KI; clear hw hb
  refine sv_ gz47_1_5 Y fun a112 e => ?_; clear Y
  have h5 := pt_ F e; replace F := pu_ F e; replace h9 := so_ e h9; replace h10 := so_ e h10; clear e
  refine sv_ gz47_1_6 (ya_ rfl h9) fun a113 e => ?_
  clear h9; have h4 := pt_ F e; replace F := pu_ F e; replace h5 := so_ e h5; replace h10 := so_ e h10; clear e
  obtain ⟨w114, Y, hk, hB⟩ := ys4_ (o := oz47_1_7) rfl h5 h10 B110
  replace KP := kx_ hk KP (Nat.not_lt.2 LKP_b110); replace KX := kx_ hk KX (fun hx => absurd hx.1 (Nat.not_lt.2 LKX_b110)); replace KI := kx_ hk KI (fun hx => absurd (HLT.out _ hx) (Nat.not_lt.2 LKI_b110)); replace B101 := bx_ hk B101 Nb101_b110; clear B110; have B110 := hB; clear hB hk
  refine st_skip gz47_1_7 rfl (wanted_free rfl) Y ?_; clear Y
  refine st_end ?_
  replace h0 := F.of h0; clear h3; clear h10; have R := F.r; clear F
  change (cz47_4).wp _ _ _ _
  refine wp_seq (x := cz47_5) (y := cz47_6) ?_
  change (Code.region 2 Oz47_2 false).wp _ _ _ _
  refine reg_in (l := [0, 1, 2, 3]) rfl ?_
  have F : FE_ _ [] a113 a113 := ⟨R, Ag_.refl _⟩; clear R
  refine sv_ gz47_2_0 (ym_ rfl (F.of h0)) fun a115 e => ?_
  have h11 := pt_ F e; replace F := pu_ F e; clear e
  have Y : (execOp a115.eval oz47_2_1).run Tryz.prog w114 = .ok (.value (.pointer (some ⟨b, 0, none⟩))) w114 := by unfold oz47_2_1; go_simp
  refine sv_ gz47_2_1 Y fun a116 e => ?_; clear Y
  clear h11; have h12 := pt_ F e; replace F := pu_ F e; clear e
  have Y : (execOp a116.eval oz47_2_2).run Tryz.prog w114 = .ok (.value (.pointer (some ⟨b, 0, none⟩))) w114 := by unfold oz47_2_2; go_simp
  refine sv_ gz47_2_2 Y fun a117 e => ?_; clear Y
  clear h12; have h13 := pt_ F e; replace F := pu_ F e; clear e
  have Y : (execOp a117.eval oz47_2_3).run Tryz.prog w114 = .ok (.enter 36 #[.pointer (some ⟨b, 0, none⟩), .int .u8 91]) w114 := by unfold oz47_2_3; go_simp
  refine st_call gz47_2_3 rfl (wanted_free rfl) Y ((wbyte_any (HW.out.on KP) 91 (by have h := HL2.out; omega)).mono ?_); clear Y
  rintro e9 w118 ⟨rfl, ⟨RR2, hw, hr⟩, kf⟩
  have HN2 : Hid (∀ g, S2 g → ¬ RR2 g) := Lib.hid fun g hg h => (hr g h).elim (HNI.out g hg) (fun h => absurd (Nat.lt_of_lt_of_le (HLT.out g hg) KI.size) (Nat.not_lt.2 h))
  replace KI := KI.trans (kf.less fun g hg => ⟨Nat.lt_of_lt_of_le (HLT.out g hg) KI.size, HNI.out g hg⟩); clear HNI; have HNI := HN2; clear HN2
  have N_b101 : ¬ RR b101 := fun h => absurd (HW.out.rr b101 h).2 (Nat.not_lt.2 LKP_b101)
  have l_b101 := B101.lt; replace B101 := B101.keep kf ⟨l_b101, N_b101⟩
  replace N_b101 : ¬ RR2 b101 := fun h => (hr b101 h).elim N_b101 (fun h => absurd l_b101 (Nat.not_lt.2 h)); clear l_b101
  have N_b110 : ¬ RR b110 := fun h => absurd (HW.out.rr b110 h).2 (Nat.not_lt.2 LKP_b110)
  have l_b110 := B110.lt; replace B110 := B110.keep kf ⟨l_b110, N_b110⟩
  replace N_b110 : ¬ RR2 b110 := fun h => (hr b110 h).elim N_b110 (fun h => absurd l_b110 (Nat.not_lt.2 h)); clear l_b110
  have HR2 : Hid (∀ k, RR2 k → R0 k ∨ W.heap.size ≤ k) := Lib.hid fun k hk => (hr k hk).elim (HRR.out k) (fun h => .inr (Nat.le_trans KX.size h))
  replace KX := KX.trans (kf.less fun g hg => ⟨Nat.lt_of_lt_of_le hg.1 KX.size, fun h => (HRR.out g h).elim hg.2 (fun h => absurd hg.1 (Nat.not_lt.2 h))⟩)
  clear HW HRR hr kf KP; have HW := Lib.hid hw; clear hw; have HRR := HR2; clear HR2
  obtain ⟨RR, hRR⟩ : ∃ q, q = RR2 := ⟨_, rfl⟩; rw [← hRR] at HW HRR HNI N_b101 N_b110; clear hRR RR2
  have kk := trivial
  clear kk
  have KP := Keep.refl (fun g => g < w118.heap.size) w118
  refine ⟨_, rfl, fun a119 e => ?_⟩
  clear h13; replace F := pu_ F e; clear e
  refine st_end ?_
  replace h0 := F.of h0; replace h4 := F.of h4; replace h5 := F.of h5; have R := F.r; clear F
  change (cz47_6).wp _ _ _ _
  refine wp_seq (x := cz47_7) (y := cz47_8) ?_
  change (Code.region 3 Oz47_3 false).wp _ _ _ _
  refine reg_in (l := [0, 1, 2]) rfl ?_
  have F : FE_ _ [] a119 a119 := ⟨R, Ag_.refl _⟩; clear R
  refine sv_ gz47_3_0 (ym_ rfl (F.of h0)) fun a120 e => ?_
  have h15 := pt_ F e; replace F := pu_ F e; clear e
  refine sv_ gz47_3_1 (ym_ rfl (F.of h4)) fun a121 e => ?_
  have h16 := pt_ F e; replace F := pu_ F e; replace h15 := so_ e h15; clear e
  have hXP : (ps.map fun p => p.1.tree.tx bareC) = xs := by rw [show (ps.map fun p => p.1.tree.tx bareC) = (ps.map (·.1)).map (fun u => u.tree.tx bareC) by rw [List.map_map]; rfl, HPS.out, HXS.out, List.map_map]; exact List.map_congr_left fun u _ => by show T.tx bareC u.tm.tree = _; rw [T.tm_tree]
  have hmem : ∀ p ∈ ps, ∃ u ∈ t.tree.items.1, u.tm = p.1 := fun p hp => by have h : p.1 ∈ ps.map (·.1) := List.mem_map_of_mem hp; rw [HPS.out] at h; obtain ⟨u, hu, e⟩ := List.mem_map.1 h; exact ⟨u, hu, e⟩
  have hpl : ps.length ≤ 1000000 := by have h : (ps.map (·.1)).length = ps.length := List.length_map _; rw [HPS.out, List.length_map] at h; have h2 := itF_len t.tree.nd t.tree; have h3 := (Tm.tree_right (right_of.1 HR.out)).2.2; change t.tree.items.1.length ≤ _ at h2; omega
  have hcall := IHS.out w118 B b RR S2 _ ua uc ps (fun p hp => by obtain ⟨u, hu, e⟩ := hmem p hp; rw [← e, T.tm_tree]; exact ⟨HIL.out.1 u hu, tm_right (HIR.out.1 u hu)⟩) hpl (HW.out.on KP) (HV.out.on (KX.less fun g hg => ⟨Nat.lt_of_lt_of_le hg HBW, fun h => absurd hg (Nat.not_lt.2 (HB0.out g h))⟩)) (fun g hg => ⟨Nat.lt_of_lt_of_le (HLT.out g hg) KI.size, HNI.out g hg⟩) (HS.out.keep KI) (by rw [hXP]; have h := HL2.out; simp only [List.length_append, List.length_cons, List.length_nil]; omega); rw [hXP] at hcall; clear hXP hmem hpl
  refine st_call gz47_3_2 rfl (wanted_free rfl) (yc2_ enz47_1048 rfl h15 h16) ((hcall).mono ?_)
  rintro e9 w122 ⟨rfl, ⟨RR2, hw, hr⟩, kf⟩
  have HN2 : Hid (∀ g, S2 g → ¬ RR2 g) := Lib.hid fun g hg h => (hr g h).elim (HNI.out g hg) (fun h => absurd (Nat.lt_of_lt_of_le (HLT.out g hg) KI.size) (Nat.not_lt.2 h))
  replace KI := KI.trans (kf.less fun g hg => ⟨Nat.lt_of_lt_of_le (HLT.out g hg) KI.size, HNI.out g hg⟩); clear HNI; have HNI := HN2; clear HN2
  have l_b101 := B101.lt; replace B101 := B101.keep kf ⟨l_b101, N_b101⟩
  replace N_b101 : ¬ RR2 b101 := fun h => (hr b101 h).elim N_b101 (fun h => absurd l_b101 (Nat.not_lt.2 h)); clear l_b101
  have l_b110 := B110.lt; replace B110 := B110.keep kf ⟨l_b110, N_b110⟩
  replace N_b110 : ¬ RR2 b110 := fun h => (hr b110 h).elim N_b110 (fun h => absurd l_b110 (Nat.not_lt.2 h)); clear l_b110
  have HR2 : Hid (∀ k, RR2 k → R0 k ∨ W.heap.size ≤ k) := Lib.hid fun k hk => (hr k hk).elim (HRR.out k) (fun h => .inr (Nat.le_trans KX.size h))
  replace KX := KX.trans (kf.less fun g hg => ⟨Nat.lt_of_lt_of_le hg.1 KX.size, fun h => (HRR.out g h).elim hg.2 (fun h => absurd hg.1 (Nat.not_lt.2 h))⟩)
  clear HW HRR hr kf KP; have HW := Lib.hid hw; clear hw; have HRR := HR2; clear HR2
  obtain ⟨RR, hRR⟩ : ∃ q, q = RR2 := ⟨_, rfl⟩; rw [← hRR] at HW HRR HNI N_b101 N_b110; clear hRR RR2
  have kk := trivial
  clear kk
  clear hcall
  have KP := Keep.refl (fun g => g < w122.heap.size) w122
  refine ⟨_, rfl, fun a123 e => ?_⟩
  clear h15 h16; replace F := pu_ F e; clear e
  refine st_end ?_
  replace h0 := F.of h0; clear h4; replace h5 := F.of h5; have R := F.r; clear F
  change (cz47_8).wp _ _ _ _
  refine wp_seq (x := cz47_9) (y := cz47_16) ?_
  refine wp_seq (x := cz47_10) (y := cz47_11) ?_
  change (Code.region 4 Oz47_4 false).wp _ _ _ _
  refine reg_in (l := [0, 1, 2, 3, 4, 5, 6, 7]) rfl ?_
  have F : FE_ _ [] a123 a123 := ⟨R, Ag_.refl _⟩; clear R
  refine sv_ gz47_4_0 (yf0_ rfl (F.of h5)) fun a124 e => ?_
  have h18 := pt_ F e; replace F := pu_ F e; clear e
  refine sv_ gz47_4_1 (yk0_ rfl h18 B110) fun a125 e => ?_
  clear h18; have h19 := pt_ F e; replace F := pu_ F e; clear e
  obtain ⟨b126, hb126⟩ : ∃ x, (((en.k : Int) != (3 : Int))) = x := ⟨_, rfl⟩
  have Y : (execOp a125.eval oz47_4_2).run Tryz.prog w122 = .ok (.value (.bool b126)) w122 := by rw [← hb126]; unfold oz47_4_2; go_simp
  refine sv_ gz47_4_2 Y fun a127 e => ?_; clear Y
  clear h19; have h20 := pt_ F e; replace F := pu_ F e; clear e
  refine sv_ gz47_4_3 (ym_ rfl h20) fun a128 e => ?_
  clear h20; have h21 := pt_ F e; replace F := pu_ F e; clear e
  cases b126 with
  | false =>
    have fb126 := hb126; clear hb126
    simp only [decide_eq_true_eq, decide_eq_false_iff_not, bne_iff_ne, bne_eq_false_iff_eq, beq_iff_eq, beq_eq_false_iff_ne, ne_eq, Bool.not_eq_true', Bool.not_eq_false', Bool.not_eq_eq_eq_not, Bool.not_true, Bool.not_false] at fb126
    refine st_val gz47_4_4 rfl (wanted_is (j := 3) (d := 21) rfl rfl h21 rfl) (yf1_ rfl (F.of h5)) fun a129 e => ?_
    have h22 := pt_ F e; replace F := pu_ F e; replace h21 := so_ e h21; clear e
    refine st_val gz47_4_5 rfl (wanted_is (j := 3) (d := 21) rfl rfl h21 rfl) (yk1_ rfl h22 B110) fun a130 e => ?_
    clear h22; have h23 := pt_ F e; replace F := pu_ F e; replace h21 := so_ e h21; clear e
    obtain ⟨l9, hl9⟩ : ∃ q, (!((str en.nm).toList == [91, 93])) = q := ⟨_, rfl⟩
    have Y : (execOp a130.eval oz47_4_6).run Tryz.prog w122 = .ok (.value (.bool l9)) w122 := by have e1 : (!((str en.nm).toList == [91, 93])) = l9 := hl9; unfold oz47_4_6; go_simp
    refine st_val gz47_4_6 rfl (wanted_is (j := 3) (d := 21) rfl rfl h21 rfl) Y fun a131 e => ?_; clear Y
    clear h23; have h24 := pt_ F e; replace F := pu_ F e; replace h21 := so_ e h21; clear e
    have Y : (execOp a131.eval oz47_4_7).run Tryz.prog w122 = .ok (.value (.bool l9)) w122 := by unfold oz47_4_7; go_simp
    refine sv_ gz47_4_7 Y fun a132 e => ?_; clear Y
    clear h21 h24; have h25 := pt_ F e; replace F := pu_ F e; clear e
    refine st_end ?_
    replace h0 := F.of h0; replace h5 := F.of h5; have R := F.r; clear F
    change (cz47_11).wp _ _ _ _
    cases l9 with
    | false =>
      refine wp_cond_false (x := cz47_12) (y := Code.skip) (eval_slot h25) ?_
      refine wp_skip ?_
      change (cz47_16).wp _ _ _ _
      change (Code.region 7 Oz47_7 false).wp _ _ _ _
      have HNL : Hid (isNilX ee = true) := Lib.hid (nilX_yes (by rw [HEN.out]; omega) (by rw [HEN.out]; have h1 := hl9; rw [str_list] at h1; simpa using h1))
      have HL3 : Hid (l0.length + (joinX xs).length + 2 ≤ 140737488355328) := Lib.hid (by have h := HL2.out; unfold endX at h; rw [if_pos HNL.out] at h; simp only [List.length_append, List.length_cons, List.length_nil] at h; omega)
      refine reg_in (l := [0, 1, 2, 3]) rfl ?_
      have F : FE_ _ [] a132 a132 := ⟨R, Ag_.refl _⟩; clear R
      refine sv_ gz47_7_0 (ym_ rfl (F.of h0)) fun a133 e => ?_
      have h33 := pt_ F e; replace F := pu_ F e; clear e
      have Y : (execOp a133.eval oz47_7_1).run Tryz.prog w122 = .ok (.value (.pointer (some ⟨b, 0, none⟩))) w122 := by unfold oz47_7_1; go_simp
      refine sv_ gz47_7_1 Y fun a134 e => ?_; clear Y
      clear h33; have h34 := pt_ F e; replace F := pu_ F e; clear e
      have Y : (execOp a134.eval oz47_7_2).run Tryz.prog w122 = .ok (.value (.pointer (some ⟨b, 0, none⟩))) w122 := by unfold oz47_7_2; go_simp
      refine sv_ gz47_7_2 Y fun a135 e => ?_; clear Y
      clear h34; have h35 := pt_ F e; replace F := pu_ F e; clear e
      have Y : (execOp a135.eval oz47_7_3).run Tryz.prog w122 = .ok (.enter 36 #[.pointer (some ⟨b, 0, none⟩), .int .u8 93]) w122 := by unfold oz47_7_3; go_simp
      refine st_call gz47_7_3 rfl (wanted_free rfl) Y ((wbyte_any (HW.out.on KP) 93 (by have h := HL3.out; simp only [List.length_append, List.length_cons, List.length_nil]; omega)).mono ?_); clear Y
      rintro e9 w136 ⟨rfl, ⟨RR2, hw, hr⟩, kf⟩
      have HN2 : Hid (∀ g, S2 g → ¬ RR2 g) := Lib.hid fun g hg h => (hr g h).elim (HNI.out g hg) (fun h => absurd (Nat.lt_of_lt_of_le (HLT.out g hg) KI.size) (Nat.not_lt.2 h))
      replace KI := KI.trans (kf.less fun g hg => ⟨Nat.lt_of_lt_of_le (HLT.out g hg) KI.size, HNI.out g hg⟩); clear HNI; have HNI := HN2; clear HN2
      have l_b101 := B101.lt; replace B101 := B101.keep kf ⟨l_b101, N_b101⟩
      replace N_b101 : ¬ RR2 b101 := fun h => (hr b101 h).elim N_b101 (fun h => absurd l_b101 (Nat.not_lt.2 h)); clear l_b101
      have l_b110 := B110.lt; replace B110 := B110.keep kf ⟨l_b110, N_b110⟩
      replace N_b110 : ¬ RR2 b110 := fun h => (hr b110 h).elim N_b110 (fun h => absurd l_b110 (Nat.not_lt.2 h)); clear l_b110
      have HR2 : Hid (∀ k, RR2 k → R0 k ∨ W.heap.size ≤ k) := Lib.hid fun k hk => (hr k hk).elim (HRR.out k) (fun h => .inr (Nat.le_trans KX.size h))
      replace KX := KX.trans (kf.less fun g hg => ⟨Nat.lt_of_lt_of_le hg.1 KX.size, fun h => (HRR.out g h).elim hg.2 (fun h => absurd hg.1 (Nat.not_lt.2 h))⟩)
      clear HW HRR hr kf KP; have HW := Lib.hid hw; clear hw; have HRR := HR2; clear HR2
      obtain ⟨RR, hRR⟩ : ∃ q, q = RR2 := ⟨_, rfl⟩; rw [← hRR] at HW HRR HNI N_b101 N_b110; clear hRR RR2
      have kk := trivial
      clear kk
      have KP := Keep.refl (fun g => g < w136.heap.size) w136
      refine ⟨_, rfl, fun a137 e => ?_⟩
      clear h35; replace F := pu_ F e; clear e
      refine st_end ?_
      clear h0; clear h5; clear h25; have R := F.r; clear F
      change bodyPost Tryz.prog Tryz.f47 (fun e w' => e = .returned (.tuple #[]) ∧ Wr B R0 W w' b (l0 ++ t.tree.tx bareC)) .normal a137 w136
      refine bodyPost_end (results_none rfl _ _ _) R.defers ?_
      exact ⟨rfl, ⟨RR, by have hw := HW.out.on KP; rw [HTX.out]; unfold endX; rw [if_pos HNL.out]; simpa [List.append_assoc] using hw, HRR.out⟩, KX⟩
    | true =>
      refine wp_cond_true (x := cz47_12) (y := Code.skip) (eval_slot h25) ?_
      refine wp_seq (x := cz47_13) (y := cz47_14) ?_
      change (Code.region 5 Oz47_5 false).wp _ _ _ _
      have HNL : Hid (isNilX ee = false) := Lib.hid (by first | exact nilX_k (by rw [HEN.out]; omega) | exact nilX_nm (by rw [HEN.out]; intro h; have h1 := hl9; rw [str_list, h] at h1; simp at h1))
      have HL3 : Hid (l0.length + (joinX xs).length + (ee.tx bareC).length + 3 ≤ 140737488355328) := Lib.hid (by have h := HL2.out; unfold endX at h; rw [if_neg (by rw [HNL.out]; decide)] at h; simp only [List.length_append, List.length_cons, List.length_nil] at h; omega)
      refine reg_in (l := [0, 1, 2, 3]) rfl ?_
      have F : FE_ _ [] a132 a132 := ⟨R, Ag_.refl _⟩; clear R
      refine sv_ gz47_5_0 (ym_ rfl (F.of h0)) fun a138 e => ?_
      have h26 := pt_ F e; replace F := pu_ F e; clear e
      have Y : (execOp a138.eval oz47_5_1).run Tryz.prog w122 = .ok (.value (.pointer (some ⟨b, 0, none⟩))) w122 := by unfold oz47_5_1; go_simp
      refine sv_ gz47_5_1 Y fun a139 e => ?_; clear Y
      clear h26; have h27 := pt_ F e; replace F := pu_ F e; clear e
      have Y : (execOp a139.eval oz47_5_2).run Tryz.prog w122 = .ok (.value (.pointer (some ⟨b, 0, none⟩))) w122 := by unfold oz47_5_2; go_simp
      refine sv_ gz47_5_2 Y fun a140 e => ?_; clear Y
      clear h27; have h28 := pt_ F e; replace F := pu_ F e; clear e
      have Y : (execOp a140.eval oz47_5_3).run Tryz.prog w122 = .ok (.enter 36 #[.pointer (some ⟨b, 0, none⟩), .int .u8 124]) w122 := by unfold oz47_5_3; go_simp
      refine st_call gz47_5_3 rfl (wanted_free rfl) Y ((wbyte_any (HW.out.on KP) 124 (by have h := HL3.out; simp only [List.length_append, List.length_cons, List.length_nil]; omega)).mono ?_); clear Y
      rintro e9 w141 ⟨rfl, ⟨RR2, hw, hr⟩, kf⟩
      have HN2 : Hid (∀ g, S2 g → ¬ RR2 g) := Lib.hid fun g hg h => (hr g h).elim (HNI.out g hg) (fun h => absurd (Nat.lt_of_lt_of_le (HLT.out g hg) KI.size) (Nat.not_lt.2 h))
      replace KI := KI.trans (kf.less fun g hg => ⟨Nat.lt_of_lt_of_le (HLT.out g hg) KI.size, HNI.out g hg⟩); clear HNI; have HNI := HN2; clear HN2
      have l_b101 := B101.lt; replace B101 := B101.keep kf ⟨l_b101, N_b101⟩
      replace N_b101 : ¬ RR2 b101 := fun h => (hr b101 h).elim N_b101 (fun h => absurd l_b101 (Nat.not_lt.2 h)); clear l_b101
      have l_b110 := B110.lt; replace B110 := B110.keep kf ⟨l_b110, N_b110⟩
      replace N_b110 : ¬ RR2 b110 := fun h => (hr b110 h).elim N_b110 (fun h => absurd l_b110 (Nat.not_lt.2 h)); clear l_b110
      have HR2 : Hid (∀ k, RR2 k → R0 k ∨ W.heap.size ≤ k) := Lib.hid fun k hk => (hr k hk).elim (HRR.out k) (fun h => .inr (Nat.le_trans KX.size h))
      replace KX := KX.trans (kf.less fun g hg => ⟨Nat.lt_of_lt_of_le hg.1 KX.size, fun h => (HRR.out g h).elim hg.2 (fun h => absurd hg.1 (Nat.not_lt.2 h))⟩)
      clear HW HRR hr kf KP; have HW := Lib.hid hw; clear hw; have HRR := HR2; clear HR2
      obtain ⟨RR, hRR⟩ : ∃ q, q = RR2 := ⟨_, rfl⟩; rw [← hRR] at HW HRR HNI N_b101 N_b110; clear hRR RR2
      have kk := trivial
      clear kk
      have KP := Keep.refl (fun g => g < w141.heap.size) w141
      refine ⟨_, rfl, fun a142 e => ?_⟩
      clear h28; replace F := pu_ F e; clear e
      refine st_end ?_
      replace h0 := F.of h0; replace h5 := F.of h5; clear h25; have R := F.r; clear F
      change (cz47_14).wp _ _ _ _
      change (Code.region 6 Oz47_6 false).wp _ _ _ _
      refine reg_in (l := [0, 1, 2]) rfl ?_
      have F : FE_ _ [] a142 a142 := ⟨R, Ag_.refl _⟩; clear R
      refine sv_ gz47_6_0 (ym_ rfl (F.of h0)) fun a143 e => ?_
      have h30 := pt_ F e; replace F := pu_ F e; clear e
      refine sv_ gz47_6_1 (yl4_ rfl (F.of h5) B110) fun a144 e => ?_
      have h31 := pt_ F e; replace F := pu_ F e; replace h30 := so_ e h30; clear e
      have hET : en.tree = ee := by rw [← HEN.out, T.tm_tree]
      have hcall := IHT.out w141 B b RR S2 _ en ea ec (by rw [hET]; exact HIL.out.2) (by rw [← HEN.out]; exact tm_right HIR.out.2) (HW.out.on KP) (HV.out.on (KX.less fun g hg => ⟨Nat.lt_of_lt_of_le hg HBW, fun h => absurd hg (Nat.not_lt.2 (HB0.out g h))⟩)) (fun g hg => ⟨Nat.lt_of_lt_of_le (HLT.out g hg) KI.size, HNI.out g hg⟩) (HE.out.keep KI) (by rw [hET]; have h := HL3.out; simp only [List.length_append, List.length_cons, List.length_nil]; omega); rw [hET] at hcall; clear hET
      refine st_call gz47_6_2 rfl (wanted_free rfl) (yc2_ enz47_1023 rfl h30 h31) ((hcall).mono ?_)
      rintro e9 w145 ⟨rfl, ⟨RR2, hw, hr⟩, kf⟩
      have HN2 : Hid (∀ g, S2 g → ¬ RR2 g) := Lib.hid fun g hg h => (hr g h).elim (HNI.out g hg) (fun h => absurd (Nat.lt_of_lt_of_le (HLT.out g hg) KI.size) (Nat.not_lt.2 h))
      replace KI := KI.trans (kf.less fun g hg => ⟨Nat.lt_of_lt_of_le (HLT.out g hg) KI.size, HNI.out g hg⟩); clear HNI; have HNI := HN2; clear HN2
      have l_b101 := B101.lt; replace B101 := B101.keep kf ⟨l_b101, N_b101⟩
      replace N_b101 : ¬ RR2 b101 := fun h => (hr b101 h).elim N_b101 (fun h => absurd l_b101 (Nat.not_lt.2 h)); clear l_b101
      have l_b110 := B110.lt; replace B110 := B110.keep kf ⟨l_b110, N_b110⟩
      replace N_b110 : ¬ RR2 b110 := fun h => (hr b110 h).elim N_b110 (fun h => absurd l_b110 (Nat.not_lt.2 h)); clear l_b110
      have HR2 : Hid (∀ k, RR2 k → R0 k ∨ W.heap.size ≤ k) := Lib.hid fun k hk => (hr k hk).elim (HRR.out k) (fun h => .inr (Nat.le_trans KX.size h))
      replace KX := KX.trans (kf.less fun g hg => ⟨Nat.lt_of_lt_of_le hg.1 KX.size, fun h => (HRR.out g h).elim hg.2 (fun h => absurd hg.1 (Nat.not_lt.2 h))⟩)
      clear HW HRR hr kf KP; have HW := Lib.hid hw; clear hw; have HRR := HR2; clear HR2
      obtain ⟨RR, hRR⟩ : ∃ q, q = RR2 := ⟨_, rfl⟩; rw [← hRR] at HW HRR HNI N_b101 N_b110; clear hRR RR2
      have kk := trivial
      clear kk
      clear hcall
      have KP := Keep.refl (fun g => g < w145.heap.size) w145
      refine ⟨_, rfl, fun a146 e => ?_⟩
      clear h30 h31; replace F := pu_ F e; clear e
      refine st_end ?_
      replace h0 := F.of h0; clear h5; have R := F.r; clear F
      change (cz47_16).wp _ _ _ _
      change (Code.region 7 Oz47_7 false).wp _ _ _ _
      refine reg_in (l := [0, 1, 2, 3]) rfl ?_
      have F : FE_ _ [] a146 a146 := ⟨R, Ag_.refl _⟩; clear R
      refine sv_ gz47_7_0 (ym_ rfl (F.of h0)) fun a147 e => ?_
      have h33 := pt_ F e; replace F := pu_ F e; clear e
      have Y : (execOp a147.eval oz47_7_1).run Tryz.prog w145 = .ok (.value (.pointer (some ⟨b, 0, none⟩))) w145 := by unfold oz47_7_1; go_simp
      refine sv_ gz47_7_1 Y fun a148 e => ?_; clear Y
      clear h33; have h34 := pt_ F e; replace F := pu_ F e; clear e
      have Y : (execOp a148.eval oz47_7_2).run Tryz.prog w145 = .ok (.value (.pointer (some ⟨b, 0, none⟩))) w145 := by unfold oz47_7_2; go_simp
      refine sv_ gz47_7_2 Y fun a149 e => ?_; clear Y
      clear h34; have h35 := pt_ F e; replace F := pu_ F e; clear e
      have Y : (execOp a149.eval oz47_7_3).run Tryz.prog w145 = .ok (.enter 36 #[.pointer (some ⟨b, 0, none⟩), .int .u8 93]) w145 := by unfold oz47_7_3; go_simp
      refine st_call gz47_7_3 rfl (wanted_free rfl) Y ((wbyte_any (HW.out.on KP) 93 (by have h := HL3.out; simp only [List.length_append, List.length_cons, List.length_nil]; omega)).mono ?_); clear Y
      rintro e9 w150 ⟨rfl, ⟨RR2, hw, hr⟩, kf⟩
      have HN2 : Hid (∀ g, S2 g → ¬ RR2 g) := Lib.hid fun g hg h => (hr g h).elim (HNI.out g hg) (fun h => absurd (Nat.lt_of_lt_of_le (HLT.out g hg) KI.size) (Nat.not_lt.2 h))
      replace KI := KI.trans (kf.less fun g hg => ⟨Nat.lt_of_lt_of_le (HLT.out g hg) KI.size, HNI.out g hg⟩); clear HNI; have HNI := HN2; clear HN2
      have l_b101 := B101.lt; replace B101 := B101.keep kf ⟨l_b101, N_b101⟩
      replace N_b101 : ¬ RR2 b101 := fun h => (hr b101 h).elim N_b101 (fun h => absurd l_b101 (Nat.not_lt.2 h)); clear l_b101
      have l_b110 := B110.lt; replace B110 := B110.keep kf ⟨l_b110, N_b110⟩
      replace N_b110 : ¬ RR2 b110 := fun h => (hr b110 h).elim N_b110 (fun h => absurd l_b110 (Nat.not_lt.2 h)); clear l_b110
      have HR2 : Hid (∀ k, RR2 k → R0 k ∨ W.heap.size ≤ k) := Lib.hid fun k hk => (hr k hk).elim (HRR.out k) (fun h => .inr (Nat.le_trans KX.size h))
      replace KX := KX.trans (kf.less fun g hg => ⟨Nat.lt_of_lt_of_le hg.1 KX.size, fun h => (HRR.out g h).elim hg.2 (fun h => absurd hg.1 (Nat.not_lt.2 h))⟩)
      clear HW HRR hr kf KP; have HW := Lib.hid hw; clear hw; have HRR := HR2; clear HR2
      obtain ⟨RR, hRR⟩ : ∃ q, q = RR2 := ⟨_, rfl⟩; rw [← hRR] at HW HRR HNI N_b101 N_b110; clear hRR RR2
      have kk := trivial
      clear kk
      have KP := Keep.refl (fun g => g < w150.heap.size) w150
      refine ⟨_, rfl, fun a151 e => ?_⟩
      clear h35; replace F := pu_ F e; clear e
      refine st_end ?_
      clear h0; have R := F.r; clear F
      change bodyPost Tryz.prog Tryz.f47 (fun e w' => e = .returned (.tuple #[]) ∧ Wr B R0 W w' b (l0 ++ t.tree.tx bareC)) .normal a151 w150
      refine bodyPost_end (results_none rfl _ _ _) R.defers ?_
      exact ⟨rfl, ⟨RR, by have hw := HW.out.on KP; rw [HTX.out]; unfold endX; rw [if_neg (by rw [HNL.out]; decide)]; simpa [List.append_assoc] using hw, HRR.out⟩, KX⟩
  | true =>
    have fb126 := hb126; clear hb126
    simp only [decide_eq_true_eq, decide_eq_false_iff_not, bne_iff_ne, bne_eq_false_iff_eq, beq_iff_eq, beq_eq_false_iff_ne, ne_eq, Bool.not_eq_true', Bool.not_eq_false', Bool.not_eq_eq_eq_not, Bool.not_true, Bool.not_false] at fb126
    refine st_not gz47_4_4 rfl (wanted_is (j := 3) (d := 21) rfl rfl h21 rfl) fun a152 e => ?_
    have h22 := pt_ F e; replace F := pu_ F e; replace h21 := so_ e h21; clear e
    refine st_not gz47_4_5 rfl (wanted_is (j := 3) (d := 21) rfl rfl h21 rfl) fun a153 e => ?_
    clear h22; have h23 := pt_ F e; replace F := pu_ F e; replace h21 := so_ e h21; clear e
    refine st_not gz47_4_6 rfl (wanted_is (j := 3) (d := 21) rfl rfl h21 rfl) fun a154 e => ?_
    clear h23; have h24 := pt_ F e; replace F := pu_ F e; replace h21 := so_ e h21; clear e
    have Y : (execOp a154.eval oz47_4_7).run Tryz.prog w122 = .ok (.value (.bool true)) w122 := by unfold oz47_4_7; go_simp
    refine sv_ gz47_4_7 Y fun a155 e => ?_; clear Y
    clear h21 h24; have h25 := pt_ F e; replace F := pu_ F e; clear e
    refine st_end ?_
    replace h0 := F.of h0; replace h5 := F.of h5; have R := F.r; clear F
    change (cz47_11).wp _ _ _ _
    refine wp_cond_true (x := cz47_12) (y := Code.skip) (eval_slot h25) ?_
    refine wp_seq (x := cz47_13) (y := cz47_14) ?_
    change (Code.region 5 Oz47_5 false).wp _ _ _ _
    have HNL : Hid (isNilX ee = false) := Lib.hid (by first | exact nilX_k (by rw [HEN.out]; omega) | exact nilX_nm (by rw [HEN.out]; intro h; have h1 := hl9; rw [str_list, h] at h1; simp at h1))
    have HL3 : Hid (l0.length + (joinX xs).length + (ee.tx bareC).length + 3 ≤ 140737488355328) := Lib.hid (by have h := HL2.out; unfold endX at h; rw [if_neg (by rw [HNL.out]; decide)] at h; simp only [List.length_append, List.length_cons, List.length_nil] at h; omega)
    refine reg_in (l := [0, 1, 2, 3]) rfl ?_
    have F : FE_ _ [] a155 a155 := ⟨R, Ag_.refl _⟩; clear R
    refine sv_ gz47_5_0 (ym_ rfl (F.of h0)) fun a156 e => ?_
    have h26 := pt_ F e; replace F := pu_ F e; clear e
    have Y : (execOp a156.eval oz47_5_1).run Tryz.prog w122 = .ok (.value (.pointer (some ⟨b, 0, none⟩))) w122 := by unfold oz47_5_1; go_simp
    refine sv_ gz47_5_1 Y fun a157 e => ?_; clear Y
    clear h26; have h27 := pt_ F e; replace F := pu_ F e; clear e
    have Y : (execOp a157.eval oz47_5_2).run Tryz.prog w122 = .ok (.value (.pointer (some ⟨b, 0, none⟩))) w122 := by unfold oz47_5_2; go_simp
    refine sv_ gz47_5_2 Y fun a158 e => ?_; clear Y
    clear h27; have h28 := pt_ F e; replace F := pu_ F e; clear e
    have Y : (execOp a158.eval oz47_5_3).run Tryz.prog w122 = .ok (.enter 36 #[.pointer (some ⟨b, 0, none⟩), .int .u8 124]) w122 := by unfold oz47_5_3; go_simp
    refine st_call gz47_5_3 rfl (wanted_free rfl) Y ((wbyte_any (HW.out.on KP) 124 (by have h := HL3.out; simp only [List.length_append, List.length_cons, List.length_nil]; omega)).mono ?_); clear Y
    rintro e9 w159 ⟨rfl, ⟨RR2, hw, hr⟩, kf⟩
    have HN2 : Hid (∀ g, S2 g → ¬ RR2 g) := Lib.hid fun g hg h => (hr g h).elim (HNI.out g hg) (fun h => absurd (Nat.lt_of_lt_of_le (HLT.out g hg) KI.size) (Nat.not_lt.2 h))
    replace KI := KI.trans (kf.less fun g hg => ⟨Nat.lt_of_lt_of_le (HLT.out g hg) KI.size, HNI.out g hg⟩); clear HNI; have HNI := HN2; clear HN2
    have l_b101 := B101.lt; replace B101 := B101.keep kf ⟨l_b101, N_b101⟩
    replace N_b101 : ¬ RR2 b101 := fun h => (hr b101 h).elim N_b101 (fun h => absurd l_b101 (Nat.not_lt.2 h)); clear l_b101
    have l_b110 := B110.lt; replace B110 := B110.keep kf ⟨l_b110, N_b110⟩
    replace N_b110 : ¬ RR2 b110 := fun h => (hr b110 h).elim N_b110 (fun h => absurd l_b110 (Nat.not_lt.2 h)); clear l_b110
    have HR2 : Hid (∀ k, RR2 k → R0 k ∨ W.heap.size ≤ k) := Lib.hid fun k hk => (hr k hk).elim (HRR.out k) (fun h => .inr (Nat.le_trans KX.size h))
    replace KX := KX.trans (kf.less fun g hg => ⟨Nat.lt_of_lt_of_le hg.1 KX.size, fun h => (HRR.out g h).elim hg.2 (fun h => absurd hg.1 (Nat.not_lt.2 h))⟩)
    clear HW HRR hr kf KP; have HW := Lib.hid hw; clear hw; have HRR := HR2; clear HR2
    obtain ⟨RR, hRR⟩ : ∃ q, q = RR2 := ⟨_, rfl⟩; rw [← hRR] at HW HRR HNI N_b101 N_b110; clear hRR RR2
    have kk := trivial
    clear kk
    have KP := Keep.refl (fun g => g < w159.heap.size) w159
    refine ⟨_, rfl, fun a160 e => ?_⟩
    clear h28; replace F := pu_ F e; clear e
    refine st_end ?_
    replace h0 := F.of h0; replace h5 := F.of h5; clear h25; have R := F.r; clear F
    change (cz47_14).wp _ _ _ _
    change (Code.region 6 Oz47_6 false).wp _ _ _ _
    refine reg_in (l := [0, 1, 2]) rfl ?_
    have F : FE_ _ [] a160 a160 := ⟨R, Ag_.refl _⟩; clear R
    refine sv_ gz47_6_0 (ym_ rfl (F.of h0)) fun a161 e => ?_
    have h30 := pt_ F e; replace F := pu_ F e; clear e
    refine sv_ gz47_6_1 (yl4_ rfl (F.of h5) B110) fun a162 e => ?_
    have h31 := pt_ F e; replace F := pu_ F e; replace h30 := so_ e h30; clear e
    have hET : en.tree = ee := by rw [← HEN.out, T.tm_tree]
    have hcall := IHT.out w159 B b RR S2 _ en ea ec (by rw [hET]; exact HIL.out.2) (by rw [← HEN.out]; exact tm_right HIR.out.2) (HW.out.on KP) (HV.out.on (KX.less fun g hg => ⟨Nat.lt_of_lt_of_le hg HBW, fun h => absurd hg (Nat.not_lt.2 (HB0.out g h))⟩)) (fun g hg => ⟨Nat.lt_of_lt_of_le (HLT.out g hg) KI.size, HNI.out g hg⟩) (HE.out.keep KI) (by rw [hET]; have h := HL3.out; simp only [List.length_append, List.length_cons, List.length_nil]; omega); rw [hET] at hcall; clear hET
    refine st_call gz47_6_2 rfl (wanted_free rfl) (yc2_ enz47_1023 rfl h30 h31) ((hcall).mono ?_)
    rintro e9 w163 ⟨rfl, ⟨RR2, hw, hr⟩, kf⟩
    have HN2 : Hid (∀ g, S2 g → ¬ RR2 g) := Lib.hid fun g hg h => (hr g h).elim (HNI.out g hg) (fun h => absurd (Nat.lt_of_lt_of_le (HLT.out g hg) KI.size) (Nat.not_lt.2 h))
    replace KI := KI.trans (kf.less fun g hg => ⟨Nat.lt_of_lt_of_le (HLT.out g hg) KI.size, HNI.out g hg⟩); clear HNI; have HNI := HN2; clear HN2
    have l_b101 := B101.lt; replace B101 := B101.keep kf ⟨l_b101, N_b101⟩
    replace N_b101 : ¬ RR2 b101 := fun h => (hr b101 h).elim N_b101 (fun h => absurd l_b101 (Nat.not_lt.2 h)); clear l_b101
    have l_b110 := B110.lt; replace B110 := B110.keep kf ⟨l_b110, N_b110⟩
    replace N_b110 : ¬ RR2 b110 := fun h => (hr b110 h).elim N_b110 (fun h => absurd l_b110 (Nat.not_lt.2 h)); clear l_b110
    have HR2 : Hid (∀ k, RR2 k → R0 k ∨ W.heap.size ≤ k) := Lib.hid fun k hk => (hr k hk).elim (HRR.out k) (fun h => .inr (Nat.le_trans KX.size h))
    replace KX := KX.trans (kf.less fun g hg => ⟨Nat.lt_of_lt_of_le hg.1 KX.size, fun h => (HRR.out g h).elim hg.2 (fun h => absurd hg.1 (Nat.not_lt.2 h))⟩)
    clear HW HRR hr kf KP; have HW := Lib.hid hw; clear hw; have HRR := HR2; clear HR2
    obtain ⟨RR, hRR⟩ : ∃ q, q = RR2 := ⟨_, rfl⟩; rw [← hRR] at HW HRR HNI N_b101 N_b110; clear hRR RR2
    have kk := trivial
    clear kk
    clear hcall
    have KP := Keep.refl (fun g => g < w163.heap.size) w163
    refine ⟨_, rfl, fun a164 e => ?_⟩
    clear h30 h31; replace F := pu_ F e; clear e
    refine st_end ?_
    replace h0 := F.of h0; clear h5; have R := F.r; clear F
    change (cz47_16).wp _ _ _ _
    change (Code.region 7 Oz47_7 false).wp _ _ _ _
    refine reg_in (l := [0, 1, 2, 3]) rfl ?_
    have F : FE_ _ [] a164 a164 := ⟨R, Ag_.refl _⟩; clear R
    refine sv_ gz47_7_0 (ym_ rfl (F.of h0)) fun a165 e => ?_
    have h33 := pt_ F e; replace F := pu_ F e; clear e
    have Y : (execOp a165.eval oz47_7_1).run Tryz.prog w163 = .ok (.value (.pointer (some ⟨b, 0, none⟩))) w163 := by unfold oz47_7_1; go_simp
    refine sv_ gz47_7_1 Y fun a166 e => ?_; clear Y
    clear h33; have h34 := pt_ F e; replace F := pu_ F e; clear e
    have Y : (execOp a166.eval oz47_7_2).run Tryz.prog w163 = .ok (.value (.pointer (some ⟨b, 0, none⟩))) w163 := by unfold oz47_7_2; go_simp
    refine sv_ gz47_7_2 Y fun a167 e => ?_; clear Y
    clear h34; have h35 := pt_ F e; replace F := pu_ F e; clear e
    have Y : (execOp a167.eval oz47_7_3).run Tryz.prog w163 = .ok (.enter 36 #[.pointer (some ⟨b, 0, none⟩), .int .u8 93]) w163 := by unfold oz47_7_3; go_simp
    refine st_call gz47_7_3 rfl (wanted_free rfl) Y ((wbyte_any (HW.out.on KP) 93 (by have h := HL3.out; simp only [List.length_append, List.length_cons, List.length_nil]; omega)).mono ?_); clear Y
    rintro e9 w168 ⟨rfl, ⟨RR2, hw, hr⟩, kf⟩
    have HN2 : Hid (∀ g, S2 g → ¬ RR2 g) := Lib.hid fun g hg h => (hr g h).elim (HNI.out g hg) (fun h => absurd (Nat.lt_of_lt_of_le (HLT.out g hg) KI.size) (Nat.not_lt.2 h))
    replace KI := KI.trans (kf.less fun g hg => ⟨Nat.lt_of_lt_of_le (HLT.out g hg) KI.size, HNI.out g hg⟩); clear HNI; have HNI := HN2; clear HN2
    have l_b101 := B101.lt; replace B101 := B101.keep kf ⟨l_b101, N_b101⟩
    replace N_b101 : ¬ RR2 b101 := fun h => (hr b101 h).elim N_b101 (fun h => absurd l_b101 (Nat.not_lt.2 h)); clear l_b101
    have l_b110 := B110.lt; replace B110 := B110.keep kf ⟨l_b110, N_b110⟩
    replace N_b110 : ¬ RR2 b110 := fun h => (hr b110 h).elim N_b110 (fun h => absurd l_b110 (Nat.not_lt.2 h)); clear l_b110
    have HR2 : Hid (∀ k, RR2 k → R0 k ∨ W.heap.size ≤ k) := Lib.hid fun k hk => (hr k hk).elim (HRR.out k) (fun h => .inr (Nat.le_trans KX.size h))
    replace KX := KX.trans (kf.less fun g hg => ⟨Nat.lt_of_lt_of_le hg.1 KX.size, fun h => (HRR.out g h).elim hg.2 (fun h => absurd hg.1 (Nat.not_lt.2 h))⟩)
    clear HW HRR hr kf KP; have HW := Lib.hid hw; clear hw; have HRR := HR2; clear HR2
    obtain ⟨RR, hRR⟩ : ∃ q, q = RR2 := ⟨_, rfl⟩; rw [← hRR] at HW HRR HNI N_b101 N_b110; clear hRR RR2
    have kk := trivial
    clear kk
    have KP := Keep.refl (fun g => g < w168.heap.size) w168
    refine ⟨_, rfl, fun a169 e => ?_⟩
    clear h35; replace F := pu_ F e; clear e
    refine st_end ?_
    clear h0; have R := F.r; clear F
    change bodyPost Tryz.prog Tryz.f47 (fun e w' => e = .returned (.tuple #[]) ∧ Wr B R0 W w' b (l0 ++ t.tree.tx bareC)) .normal a169 w168
    refine bodyPost_end (results_none rfl _ _ _) R.defers ?_
    exact ⟨rfl, ⟨RR, by have hw := HW.out.on KP; rw [HTX.out]; unfold endX; rw [if_neg (by rw [HNL.out]; decide)]; simpa [List.append_assoc] using hw, HRR.out⟩, KX⟩
theorem list_of {k : Nat} (iht : TermW k) (ihs : TermsW k) : ListW k := fun W B b R0 S l0 t a c hns hr hk hc hw hv hd hT hl => by
  refine enter_sx Tryz.func47 bodyz47 rfl (by show (2 : Nat) ≤ 37; decide) fun f0 R0' hs => ?_
  exact list_w R0' (hs 0 _ rfl) (hs 1 _ rfl) (Keep.refl _ W) (Lib.hid hw) (Lib.hid hv) (Lib.hid iht) (Lib.hid ihs) (Lib.hid hns) (Lib.hid hr) (Lib.hid hk) (Lib.hid hc) (Lib.hid hd) (Lib.hid hT) (Lib.hid hl)
end Go.Proofs.YtfkbbbjicaedmaaGreatDoor
