/-
  The law's own tame; the document's Size up to a greater bound. No condition but where the terms lie.
-/
import Derived.Test.YthbofkffklejoaaSx7
import Derived.Test.YthbofkffklejoaaSx2
namespace Go.Proofs.Ythbofkffklejoaa
open Go.RowKit Go.Maps
set_option linter.unusedVariables false
set_option linter.unusedSimpArgs false

set_option maxRecDepth 100000 in
set_option maxHeartbeats 4000000 in
theorem refSize3_any : ∀ (t : Tm) (m : Nat), m ≤ 100000 → ∀ (w : World) (a : Option Addr) (c : Nat), TmAt w.heap.size w t a c →
    Calls Try.prog 22 #[tv t a c, .int .i64 m] w fun e w' => e = .returned (.int .i64 ((min t.ns (m + 1) : Nat) : Int)) ∧ Keep (fun g => g < w.heap.size) w w' := by
  intro t
  induction t using Tm.ind with
  | h kd nm i args ih =>
    intro m hm w a c hT
    have hargs : args.length ≤ maxLen := by cases hT; assumption
    unfold maxLen at hargs
    have k0 : Keep (fun g => g < w.heap.size) w (w.alloc (tb (.node kd nm i args) a c)) := (Keep.refl _ w).alloc _
    have hb := Blk.new w 24 #[.int .i64 (Tm.node kd nm i args).k, .string (str (Tm.node kd nm i args).nm), .int .i64 (Tm.node kd nm i args).i, .slice a (Tm.node kd nm i args).args.length c]
    have HT := Lib.hid hT; clear hT
    unfold tb at k0
    have HK := Lib.hid (And.intro k0 hb); clear k0 hb
    have HIH := Lib.hid ih; clear ih
    obtain ⟨dv, hdv⟩ : ∃ dv, dv = min (Tm.node kd nm i args).ns (m + 1) := ⟨_, rfl⟩
    rw [← hdv]
    have HD := Lib.hid hdv; clear hdv
    unfold tv
    simp only [Tm.k, Tm.nm, Tm.i, Tm.args] at HK ⊢
    by_cases h4 : kd = 4
    · subst h4
      have hd : dv = min (1 + nsL args) (m + 1) := by rw [HD.out, Tm.ns_eq, if_pos (show (Tm.node 4 nm i args).k = 4 from rfl)]; rfl
      have HD2 := Lib.hid hd; clear hd
      obtain ⟨len, hln⟩ : ∃ len, len = args.length := ⟨_, rfl⟩
      rw [← hln] at HK hargs ⊢
      have HLN := Lib.hid hln; clear hln
      go_enter Try.func22, Try.ntmps22
      go_wp2_with fail
      go_loopw [5, 6] (fun n i' wr => ∃ j : Nat, j ≤ len ∧ i' = .int .i64 j ∧ n = .int .i64 ((min (1 + nsL (args.take j)) (m + 1) : Nat) : Int) ∧ Keep (fun g => g < w.heap.size + 1) (w.alloc (.cells #[.int .i64 4, .string (str nm), .int .i64 i, .slice a len c] 24)) wr) (fun _ i' _ => len - (intOf i').toNat)
      case atStart => exact ⟨0, Nat.zero_le _, rfl, by rw [List.take_zero, nsL_nil, Nat.min_eq_left (by omega)]; rfl, Keep.refl _ _⟩
      case round =>
        obtain ⟨j, hj, rfl, rfl, hkr⟩ := hrel
        obtain ⟨k0, hb⟩ := HK.out
        have hbr := hb.keep hkr (by omega)
        have c3 := hbr.cell 3
        simp at c3
        have lb := hbr.lt
        obtain ⟨n, hn⟩ : ∃ n, n = min (1 + nsL (args.take j)) (m + 1) := ⟨_, rfl⟩
        rw [← hn]
        have hnm : n ≤ m + 1 := by omega
        have HN := Lib.hid hn; clear hn
        have kw : Keep (fun g => g < w.heap.size) w wr := k0.trans (hkr.less (fun g hg => by omega))
        by_cases hlj : j < len
        · by_cases hnn : n ≤ m
          · have hjl : j < args.length := by rw [← HLN.out]; exact hlj
            obtain ⟨x, hx⟩ : ∃ x, args[j]? = some x := ⟨_, List.getElem?_eq_getElem hjl⟩
            have hTr : TmAt w.heap.size wr (.node 4 nm i args) a c := HT.out.keepX kw (fun _ h => h)
            obtain ⟨b, off, ax, cx, rfl, hbB, hTx, u0, u1, u2, u3⟩ := hTr.arg hx
            simp only [← Nat.add_assoc] at u0 u1 u2 u3
            have hcall := HIH.out x (List.mem_of_getElem? hx) (m - n) (by omega) wr ax cx (hTx.up (by omega))
            have hsn : min (1 + nsL (args.take (j + 1))) (m + 1) = n + min x.ns (m - n + 1) := by
              rw [List.take_succ_eq_append_getElem hjl, nsL_append, nsL_cons, nsL_nil]
              rw [List.getElem?_eq_getElem hjl] at hx
              rw [Option.some.inj hx]
              have := HN.out
              omega
            have hwj : IntKind.i64.wrap ((j : Int) + 1) = (j : Int) + 1 := by rw [IntKind.wrap_i64]; omega
            have hwm : IntKind.i64.wrap ((m : Int) - (n : Int)) = ((m - n : Nat) : Int) := by rw [IntKind.wrap_i64]; omega
            have HKR := Lib.hid hkr
            have HSN := Lib.hid hsn; clear hsn
            have HLJ := Lib.hid hlj
            have hbw : b < wr.heap.size := by omega
            unfold tv at hcall
            have HC := Lib.hid hcall; clear hcall
            clear hkr hbr hTr hTx kw k0 hb hx
            have hmn : (m : Int) - (n : Int) = ((m - n : Nat) : Int) := by omega
            obtain ⟨y, hy⟩ : ∃ y, y = min x.ns (m - n + 1) := ⟨_, rfl⟩
            rw [← hy] at HC HSN
            have hyl : y ≤ m - n + 1 := by omega
            clear hy
            have hwy : IntKind.i64.wrap ((n : Int) + (y : Int)) = ((n + y : Nat) : Int) := by rw [IntKind.wrap_i64]; omega
            go_wp2_with fail
            refine HC.out.mono ?_
            rintro e w5 ⟨rfl, k5⟩
            have HK5 := Lib.hid (HKR.out.trans (k5.less (fun g hg => by have := HKR.out.size; simp at this; omega)))
            clear HC k5 HKR u0 u1 u2 u3 c3 lb hbw
            go_wp2_with fail
            go_roundw
            case rel => exact ⟨j + 1, (by have := HLJ.out; omega), by go_num, (by rw [HSN.out]; first | rfl | (push_cast; rfl) | simp), HK5.out⟩
            case measure => have := HLJ.out; simp [intOf]; omega
          · have hnm1 : n = m + 1 := by omega
            have hdv : dv = n := by
              rw [HD2.out]
              have h1 := nsL_take_le args j
              have h2 := HN.out
              omega
            have HE := Lib.hid kw
            clear hbr hkr k0 hb kw HD HD2 HIH hnm
            subst hdv
            have hltz : ¬ (dv : Int) ≤ (m : Int) := by omega
            go_wp2_with fail
            go_ret
            exact ⟨rfl, HE.out⟩
        · have hjl : j = len := by omega
          have hdv : dv = n := by
            rw [HD2.out, HN.out, hjl, HLN.out, List.take_length]
          have HE := Lib.hid kw
          clear hbr hkr k0 hb kw HD HD2 HIH hnm
          subst hdv
          go_wp2_with fail
          go_ret
          exact ⟨rfl, HE.out⟩
    · have hd : dv = 1 := by rw [HD.out, Tm.ns_eq, if_neg (show ¬ (Tm.node kd nm i args).k = 4 from h4)]; omega
      subst hd
      obtain ⟨k0, hb⟩ := HK.out
      have HE := Lib.hid k0
      clear k0 hb HK HD HIH
      have hbne : (kd == 4) = false := by simpa using h4
      go_enter Try.func22, Try.ntmps22
      go_wp2_with fail
      go_ret
      exact ⟨by simp, HE.out⟩

theorem refsize_sx {w : World} {t : Tm} {a : Option Addr} {c m : Nat} {z mi : Int} (hT : TmAt w.heap.size w t a c) (hm : m ≤ 100000) (hmi : (m : Int) = mi) (hz : ((min t.ns (m + 1) : Nat) : Int) = z) :
    Calls Try.prog 22 #[tv t a c, .int .i64 mi] w fun e w' => e = .returned (.int .i64 z) ∧ Keep (fun g => g < w.heap.size) w w' := by
  subst hmi; subst hz; exact refSize3_any t m hm w a c hT
def o33_0_0 : Oper := { dst := some 2, op := Op.assign (Operand.const (Value.bool false)), type := 4, pos := "law.go:30", after := #[], guard := none }
def O33_0 : Array Oper := List.toArray (o33_0_0 :: [])
theorem g33_0_0 : O33_0[0]? = some o33_0_0 := rfl
def c33_1 : Code := Code.region 0 O33_0 false
def o33_1_0 : Oper := { dst := some 5, op := Op.move (Operand.tmp 0), type := 22, pos := "law.go:31", after := #[], guard := none }
def o33_1_1 : Oper := { dst := some 6, op := Op.call { callee := Callee.builtin Go.Builtin.len, args := #[Operand.tmp 5], argTypes := #[22] }, type := 3, pos := "law.go:31", after := #[ed_ 0], guard := none }
def o33_1_2 : Oper := { dst := some 7, op := Op.move (Operand.const (Value.int IntKind.i64 0)), type := 3, pos := "law.go:31", after := #[], guard := none }
def O33_1 : Array Oper := List.toArray (o33_1_0 :: o33_1_1 :: o33_1_2 :: [])
theorem g33_1_0 : O33_1[0]? = some o33_1_0 := rfl
theorem g33_1_1 : O33_1[1]? = some o33_1_1 := rfl
theorem g33_1_2 : O33_1[2]? = some o33_1_2 := rfl
def c33_4 : Code := Code.region 1 O33_1 false
def o33_2_0 : Oper := { dst := some 8, op := Op.binOp Go.BinOp.lss 3 (Operand.tmp 7) (Operand.tmp 6) 3, type := 0, pos := "law.go:31", after := #[], guard := none }
def O33_2 : Array Oper := List.toArray (o33_2_0 :: [])
theorem g33_2_0 : O33_2[0]? = some o33_2_0 := rfl
def c33_8 : Code := Code.region 2 O33_2 false
def c33_12 : Code := Code.exit 0
def c33_10 : Code := Code.cond (Operand.tmp 8) Code.skip c33_12
def o33_3_0 : Oper := { dst := some 9, op := Op.indexAddr 22 (Operand.tmp 5) (Operand.tmp 7), type := 0, pos := "law.go:31", after := #[], guard := none }
def o33_3_1 : Oper := { dst := some 10, op := Op.load 24 (Operand.tmp 9), type := 24, pos := "law.go:31", after := #[ed_ 0], guard := none }
def o33_3_2 : Oper := { dst := some 4, op := Op.alloc 24, type := 0, pos := "law.go:31", after := #[], guard := none }
def o33_3_3 : Oper := { dst := none, op := Op.store 24 (Operand.tmp 4) (Operand.tmp 10), type := 0, pos := "law.go:31", after := #[ed_ 2, ed_ 1, ep_ 0, ep_ 1, ep_ 2], guard := none }
def O33_3 : Array Oper := List.toArray (o33_3_0 :: o33_3_1 :: o33_3_2 :: o33_3_3 :: [])
theorem g33_3_0 : O33_3[0]? = some o33_3_0 := rfl
theorem g33_3_1 : O33_3[1]? = some o33_3_1 := rfl
theorem g33_3_2 : O33_3[2]? = some o33_3_2 := rfl
theorem g33_3_3 : O33_3[3]? = some o33_3_3 := rfl
def c33_16 : Code := Code.region 3 O33_3 false
def o33_4_0 : Oper := { dst := some 11, op := Op.load 24 (Operand.tmp 4), type := 24, pos := "law.go:32", after := #[], guard := none }
def o33_4_1 : Oper := { dst := some 12, op := Op.call { callee := Callee.value (Operand.func 22), args := #[Operand.tmp 11, Operand.const (Value.int IntKind.i64 100)], argTypes := #[24, 3] }, type := 3, pos := "law.go:32", after := #[ed_ 0], guard := none }
def o33_4_2 : Oper := { dst := some 13, op := Op.binOp Go.BinOp.gtr 3 (Operand.tmp 12) (Operand.const (Value.int IntKind.i64 100)) 3, type := 4, pos := "law.go:32", after := #[ed_ 1], guard := none }
def O33_4 : Array Oper := List.toArray (o33_4_0 :: o33_4_1 :: o33_4_2 :: [])
theorem g33_4_0 : O33_4[0]? = some o33_4_0 := rfl
theorem g33_4_1 : O33_4[1]? = some o33_4_1 := rfl
theorem g33_4_2 : O33_4[2]? = some o33_4_2 := rfl
def c33_18 : Code := Code.region 4 O33_4 false
def o33_5_0 : Oper := { dst := some 2, op := Op.assign (Operand.const (Value.bool false)), type := 4, pos := "law.go:33", after := #[], guard := none }
def O33_5 : Array Oper := List.toArray (o33_5_0 :: [])
theorem g33_5_0 : O33_5[0]? = some o33_5_0 := rfl
def c33_21 : Code := Code.region 5 O33_5 false
def c33_20 : Code := Code.seq c33_21 Code.ret
def c33_19 : Code := Code.cond (Operand.tmp 13) c33_20 Code.skip
def c33_17 : Code := Code.seq c33_18 c33_19
def c33_15 : Code := Code.seq c33_16 c33_17
def c33_14 : Code := Code.block 1 c33_15
def o33_6_0 : Oper := { dst := some 14, op := Op.binOp Go.BinOp.add 3 (Operand.tmp 7) (Operand.const (Value.int IntKind.i64 1)) 3, type := 3, pos := "law.go:31", after := #[], guard := none }
def o33_6_1 : Oper := { dst := some 7, op := Op.move (Operand.tmp 14), type := 3, pos := "law.go:31", after := #[ed_ 0], guard := none }
def O33_6 : Array Oper := List.toArray (o33_6_0 :: o33_6_1 :: [])
theorem g33_6_0 : O33_6[0]? = some o33_6_0 := rfl
theorem g33_6_1 : O33_6[1]? = some o33_6_1 := rfl
def c33_24 : Code := Code.region 6 O33_6 false
def c33_13 : Code := Code.seq c33_14 c33_24
def c33_9 : Code := Code.seq c33_10 c33_13
def c33_7 : Code := Code.seq c33_8 c33_9
def c33_6 : Code := Code.loop c33_7
def c33_5 : Code := Code.block 0 c33_6
def c33_3 : Code := Code.seq c33_4 c33_5
def o33_7_0 : Oper := { dst := some 2, op := Op.assign (Operand.const (Value.bool true)), type := 4, pos := "law.go:36", after := #[], guard := none }
def O33_7 : Array Oper := List.toArray (o33_7_0 :: [])
theorem g33_7_0 : O33_7[0]? = some o33_7_0 := rfl
def c33_26 : Code := Code.region 7 O33_7 false
def c33_25 : Code := Code.seq c33_26 Code.ret
def c33_2 : Code := Code.seq c33_3 c33_25
def c33_0 : Code := Code.seq c33_1 c33_2
theorem en33_22 : Enters Try.prog 22 := enters_of Try.func22 (by kernel_rfl) rfl
theorem body33 : Try.f33.body = some c33_0 := by kernel_rfl

set_option maxRecDepth 100000 in
set_option maxHeartbeats 4000000 in
theorem tame_w {W : World} {sa : Option Addr} {sc : Nat} {ps : List TP} {f0 : Act} {w0 : World} (R : FrS 15 f0) (h0 : f0.tmps[0]? = some (.slice sa ps.length sc)) (K1 : Keep (fun g => g < W.heap.size) W w0)  (HS : Hid (TmSl W.heap.size W sa ps)) (HLN : Hid (ps.length ≤ 1000000)) : c33_0.wp Try.prog (bodyPost Try.prog Try.f33 (fun e w' => e = .returned (.bool (decide (∀ p ∈ ps, p.1.ns ≤ 100))) ∧ Keep (fun g => g < W.heap.size) W w')) f0 w0 := by
  refine wp_seq (x := c33_1) (y := c33_2) ?_
  change (Code.region 0 O33_0 false).wp _ _ _ _
  refine reg_in (l := [0]) rfl ?_
  have E := Ag_.refl f0
  have Y : (execOp f0.eval o33_0_0).run Try.prog w0 = .ok (.value (.bool false)) w0 := by unfold o33_0_0; go_simp
  refine st_val g33_0_0 rfl (wanted_free rfl) Y fun a1 e => ?_; clear Y
  have g2 := R.at_ e (by decide); replace R := R.put e; replace E := E.put e; have h2 := g2; clear g2; clear e
  refine st_end ?_
  replace h0 := E.of h0; clear E
  change (c33_2).wp _ _ _ _
  refine wp_seq (x := c33_3) (y := c33_25) ?_
  refine wp_seq (x := c33_4) (y := c33_5) ?_
  change (Code.region 1 O33_1 false).wp _ _ _ _
  refine reg_in (l := [0, 1, 2]) rfl ?_
  have E := Ag_.refl a1
  refine st_val g33_1_0 rfl (wanted_free rfl) (ym_ rfl (E.of h0)) fun a2 e => ?_
  have g5 := R.at_ e (by decide); replace R := R.put e; replace E := E.put e; have h5 := g5; clear g5; clear e
  have Y : (execOp a2.eval o33_1_1).run Try.prog w0 = .ok (.value (.int .i64 ps.length)) w0 := by unfold o33_1_1; go_simp
  refine st_val g33_1_1 rfl (wanted_free rfl) Y fun a3 e => ?_; clear Y
  have g6 := R.at_ e (by decide); replace R := R.put e; replace E := E.put e; replace h5 := so_ e h5; have h6 := g6; clear g6; clear e
  have Y : (execOp a3.eval o33_1_2).run Try.prog w0 = .ok (.value (.int .i64 0)) w0 := by unfold o33_1_2; go_simp
  refine st_val g33_1_2 rfl (wanted_free rfl) Y fun a4 e => ?_; clear Y
  have g7 := R.at_ e (by decide); replace R := R.put e; replace E := E.put e; replace h5 := so_ e h5; replace h6 := so_ e h6; have h7 := g7; clear g7; clear e
  refine st_end ?_
  clear h0; replace h2 := E.of h2; clear E
  change (c33_5).wp _ _ _ _
  refine wp_block (id := 0) (c := c33_6) ?_
  refine wp_loop_ghost (c := c33_7) (fun n f9 w9 => ∃ j : Nat, n = ps.length - j ∧ FrS 15 f9 ∧ f9.tmps[2]? = some (.bool false) ∧ f9.tmps[5]? = some (.slice sa ps.length sc) ∧ f9.tmps[6]? = some (.int .i64 ps.length) ∧ f9.tmps[7]? = some (.int .i64 (j : Int)) ∧ Keep (fun g => g < W.heap.size) W w9 ∧ j ≤ ps.length ∧ Hid (∀ i p, i < j → ps[i]? = some p → p.1.ns ≤ 100)) (ps.length - 0) ⟨0, rfl, R, h2, h5, h6, h7, K1, Nat.zero_le _, (Lib.hid fun i p h => absurd h (Nat.not_lt_zero _))⟩ ?_
  clear R h2 h5 h6 h7 K1
  rintro n7 a5 w6 ⟨j, rfl, R, h2, h5, h6, h7, K1, hj, HA⟩
  have hn9 := HLN.out
  refine wp_seq (x := c33_8) (y := c33_9) ?_
  change (Code.region 2 O33_2 false).wp _ _ _ _
  refine reg_in (l := [0]) rfl ?_
  have E := Ag_.refl a5
  obtain ⟨b8, hb8⟩ : ∃ x, (decide ((j : Int) < (ps.length : Int))) = x := ⟨_, rfl⟩
  have Y : (execOp a5.eval o33_2_0).run Try.prog w6 = .ok (.value (.bool b8)) w6 := by have r6 := E.of h6; have r7 := E.of h7; rw [← hb8]; unfold o33_2_0; go_simp
  refine st_val g33_2_0 rfl (wanted_free rfl) Y fun a9 e => ?_; clear Y
  have g8 := R.at_ e (by decide); replace R := R.put e; replace E := E.put e; have h8 := g8; clear g8; clear e
  refine st_end ?_
  replace h2 := E.of h2; replace h5 := E.of h5; replace h6 := E.of h6; replace h7 := E.of h7; clear E
  change (c33_9).wp _ _ _ _
  refine wp_seq (x := c33_10) (y := c33_13) ?_
  cases b8 with
  | false =>
    have fb8 := hb8; clear hb8
    simp only [decide_eq_true_eq, decide_eq_false_iff_not, bne_iff_ne, bne_eq_false_iff_eq, beq_iff_eq, beq_eq_false_iff_ne, ne_eq, Bool.not_eq_true', Bool.not_eq_false', Bool.not_eq_eq_eq_not, Bool.not_true, Bool.not_false] at fb8
    refine wp_cond_false (x := Code.skip) (y := c33_12) (eval_slot h8) ?_
    refine wp_exit ?_
    change (c33_25).wp _ _ _ _
    refine wp_seq (x := c33_26) (y := Code.ret) ?_
    change (Code.region 7 O33_7 false).wp _ _ _ _
    refine reg_in (l := [0]) rfl ?_
    have E := Ag_.refl a9
    have Y : (execOp a9.eval o33_7_0).run Try.prog w6 = .ok (.value (.bool true)) w6 := by unfold o33_7_0; go_simp
    refine st_val g33_7_0 rfl (wanted_free rfl) Y fun a10 e => ?_; clear Y
    have g2 := R.at_ e (by decide); replace R := R.put e; replace E := E.put e; clear h2; have h2 := g2; clear g2; clear e
    refine st_end ?_
    replace h5 := E.of h5; replace h6 := E.of h6; replace h7 := E.of h7; replace h8 := E.of h8; clear E
    change (Code.ret).wp _ _ _ _
    refine wp_ret ?_
    change bodyPost Try.prog Try.f33 (fun e w' => e = .returned (.bool (decide (∀ p ∈ ps, p.1.ns ≤ 100))) ∧ Keep (fun g => g < W.heap.size) W w') .ret a10 w6
    refine ret_one rfl R h2 ?_
    refine ⟨?_, K1⟩; rw [decide_eq_true (fun q hq => by obtain ⟨i, hi, he⟩ := List.getElem_of_mem hq; exact HA.out i q (by omega) (by rw [List.getElem?_eq_getElem hi, he]))]
  | true =>
    have fb8 := hb8; clear hb8
    simp only [decide_eq_true_eq, decide_eq_false_iff_not, bne_iff_ne, bne_eq_false_iff_eq, beq_iff_eq, beq_eq_false_iff_ne, ne_eq, Bool.not_eq_true', Bool.not_eq_false', Bool.not_eq_eq_eq_not, Bool.not_true, Bool.not_false] at fb8
    refine wp_cond_true (x := Code.skip) (y := c33_12) (eval_slot h8) ?_
    refine wp_skip ?_
    change (c33_13).wp _ _ _ _
    refine wp_seq (x := c33_14) (y := c33_24) ?_
    refine wp_block (id := 1) (c := c33_15) ?_
    refine wp_seq (x := c33_16) (y := c33_17) ?_
    change (Code.region 3 O33_3 false).wp _ _ _ _
    refine reg_in (l := [0, 1, 2, 3]) rfl ?_
    have E := Ag_.refl a9
    obtain ⟨bA, oA, hA, -⟩ := tmsl_addr HS.out (show j < ps.length by omega)
    obtain ⟨p, hp⟩ : ∃ q, ps[j]? = some q := ⟨_, List.getElem?_eq_getElem (by omega)⟩
    have hltA : (j : Int) < (ps.length : Int) := by omega
    have HAD := Lib.hid hA; clear hA; have HP := Lib.hid hp; clear hp
    have Y : (execOp a9.eval o33_3_0).run Try.prog w6 = .ok (.value (.pointer (some ⟨bA, oA + j * 4, none⟩))) w6 := by have r5 := E.of h5; have r7 := E.of h7; have hA := HAD.out; unfold o33_3_0; go_simp
    refine st_val g33_3_0 rfl (wanted_free rfl) Y fun a11 e => ?_; clear Y
    have g9 := R.at_ e (by decide); replace R := R.put e; replace E := E.put e; have h9 := g9; clear g9; clear e
    have Y : (execOp a11.eval o33_3_1).run Try.prog w6 = .ok (.value (.agg #[.int .i64 p.1.k, .string (str p.1.nm), .int .i64 p.1.i, .slice p.2.1 p.1.args.length p.2.2])) w6 := by obtain ⟨⟨c0, c1, c2, c3⟩, -⟩ := tmsl_at (tmsl_on HS.out K1) HAD.out HP.out; unfold o33_3_1; go_simp
    refine st_val g33_3_1 rfl (wanted_free rfl) Y fun a12 e => ?_; clear Y
    have g10 := R.at_ e (by decide); replace R := R.put e; replace E := E.put e; replace h9 := so_ e h9; have h10 := g10; clear g10; clear e
    have Y : (execOp a12.eval o33_3_2).run Try.prog w6 = .ok (.value (.pointer (some ⟨w6.heap.size, 0, none⟩))) (w6.alloc (.cells #[.int .i64 0, .string (⟨#[]⟩), .int .i64 0, .slice none 0 0] 24)) := by unfold o33_3_2; go_simp
    have B13 := Blk.new w6 24 #[.int .i64 0, .string (⟨#[]⟩), .int .i64 0, .slice none 0 0]
    obtain ⟨w14, hw⟩ : ∃ x, x = w6.alloc (.cells #[.int .i64 0, .string (⟨#[]⟩), .int .i64 0, .slice none 0 0] 24) := ⟨_, rfl⟩; rw [← hw] at Y B13
    obtain ⟨b13, hb⟩ : ∃ x, x = w6.heap.size := ⟨_, rfl⟩; rw [← hb] at Y B13
    have LK1_b13 := lk_ hb K1; replace K1 := ka_ hw K1; clear hw hb
    refine st_val g33_3_2 rfl (wanted_free rfl) Y fun a15 e => ?_; clear Y
    have g4 := R.at_ e (by decide); replace R := R.put e; replace E := E.put e; replace h9 := so_ e h9; replace h10 := so_ e h10; have h4 := g4; clear g4; clear e
    have Y : (execOp a15.eval o33_3_3).run Try.prog w14 = .ok .skip ((((w14.setCell ⟨b13, 0, none⟩ (.int .i64 p.1.k)).setCell ⟨b13, 1, none⟩ (.string (str p.1.nm))).setCell ⟨b13, 2, none⟩ (.int .i64 p.1.i)).setCell ⟨b13, 3, none⟩ (.slice p.2.1 p.1.args.length p.2.2)) := by have qq0 : w14.cell? ⟨b13, 0, none⟩ = some (.int .i64 0) := B13.cell 0; have qq1 : w14.cell? ⟨b13, 1, none⟩ = some (.string (⟨#[]⟩)) := B13.cell 1; have qq2 : w14.cell? ⟨b13, 2, none⟩ = some (.int .i64 0) := B13.cell 2; have qq3 : w14.cell? ⟨b13, 3, none⟩ = some (.slice none 0 0) := B13.cell 3; have z0 := B13.frozen 0; have z1 := B13.frozen 1; have z2 := B13.frozen 2; have z3 := B13.frozen 3; unfold o33_3_3; go_simp
    obtain ⟨w16, hw⟩ : ∃ x, x = ((((w14.setCell ⟨b13, 0, none⟩ (.int .i64 p.1.k)).setCell ⟨b13, 1, none⟩ (.string (str p.1.nm))).setCell ⟨b13, 2, none⟩ (.int .i64 p.1.i)).setCell ⟨b13, 3, none⟩ (.slice p.2.1 p.1.args.length p.2.2)) := ⟨_, rfl⟩; rw [← hw] at Y
    have hk : Keep (fun g => g ≠ b13) w14 w16 := by rw [hw]; exact ((((Keep.refl _ _).setCell (fun h => h rfl) _).setCell (fun h => h rfl) _).setCell (fun h => h rfl) _).setCell (fun h => h rfl) _
    replace K1 := kx_ hk K1 (Nat.not_lt.2 LK1_b13); replace B13 : Blk w16 b13 24 #[.int .i64 p.1.k, .string (str p.1.nm), .int .i64 p.1.i, .slice p.2.1 p.1.args.length p.2.2] := (by rw [hw]; exact ((((B13.set_ 0 _).set_ 1 _).set_ 2 _).set_ 3 _)); clear hw hk
    refine st_skip g33_3_3 rfl (wanted_free rfl) Y ?_; clear Y
    refine st_end ?_
    replace h2 := E.of h2; replace h5 := E.of h5; replace h6 := E.of h6; replace h7 := E.of h7; replace h8 := E.of h8; clear E
    change (c33_17).wp _ _ _ _
    refine wp_seq (x := c33_18) (y := c33_19) ?_
    change (Code.region 4 O33_4 false).wp _ _ _ _
    refine reg_in (l := [0, 1, 2]) rfl ?_
    have E := Ag_.refl a15
    refine st_val g33_4_0 rfl (wanted_free rfl) (yl4_ rfl (E.of h4) B13) fun a17 e => ?_
    have g11 := R.at_ e (by decide); replace R := R.put e; replace E := E.put e; have h11 := g11; clear g11; clear e
    have Y : (execOp a17.eval o33_4_1).run Try.prog w16 = .ok (.enter 22 #[.agg #[.int .i64 p.1.k, .string (str p.1.nm), .int .i64 p.1.i, .slice p.2.1 p.1.args.length p.2.2], .int .i64 100]) w16 := by unfold o33_4_1; go_simp
    obtain ⟨z, hz⟩ : ∃ q, ((min p.1.ns (100 + 1) : Nat) : Int) = q := ⟨_, rfl⟩
    refine st_call g33_4_1 rfl (wanted_free rfl) Y ((refsize_sx (tmsl_at (tmsl_on HS.out K1) HAD.out HP.out).2 (by decide) (by rfl) hz).mono ?_); clear Y
    rintro e9 w18 ⟨rfl, kk⟩
    replace K1 := keep_onto K1 kk
    replace B13 := blk_on B13 kk
    clear kk
    refine ⟨_, rfl, fun a19 e => ?_⟩
    have g12 := R.at_ e (by decide); replace R := R.put e; replace E := E.put e; replace h11 := so_ e h11; have h12 := g12; clear g12; clear e
    obtain ⟨b20, hb20⟩ : ∃ x, (decide ((100 : Int) < (z : Int))) = x := ⟨_, rfl⟩
    have Y : (execOp a19.eval o33_4_2).run Try.prog w18 = .ok (.value (.bool b20)) w18 := by rw [← hb20]; unfold o33_4_2; go_simp
    refine st_val g33_4_2 rfl (wanted_free rfl) Y fun a21 e => ?_; clear Y
    have g13 := R.at_ e (by decide); replace R := R.put e; replace E := E.put e; replace h11 := so_ e h11; replace h12 := so_ e h12; have h13 := g13; clear g13; clear e
    refine st_end ?_
    replace h2 := E.of h2; replace h4 := E.of h4; replace h5 := E.of h5; replace h6 := E.of h6; replace h7 := E.of h7; replace h8 := E.of h8; replace h9 := E.of h9; replace h10 := E.of h10; clear E
    change (c33_19).wp _ _ _ _
    cases b20 with
    | false =>
      have fb20 := hb20; clear hb20
      simp only [decide_eq_true_eq, decide_eq_false_iff_not, bne_iff_ne, bne_eq_false_iff_eq, beq_iff_eq, beq_eq_false_iff_ne, ne_eq, Bool.not_eq_true', Bool.not_eq_false', Bool.not_eq_eq_eq_not, Bool.not_true, Bool.not_false] at fb20
      refine wp_cond_false (x := c33_20) (y := Code.skip) (eval_slot h13) ?_
      refine wp_skip ?_
      change (c33_24).wp _ _ _ _
      change (Code.region 6 O33_6 false).wp _ _ _ _
      refine reg_in (l := [0, 1]) rfl ?_
      have E := Ag_.refl a21
      have Y : (execOp a21.eval o33_6_0).run Try.prog w18 = .ok (.value (.int .i64 ((j : Int) + 1))) w18 := by have r7 := E.of h7; have hwj : IntKind.i64.wrap ((j : Int) + 1) = (j : Int) + 1 := (by rw [IntKind.wrap_i64]; omega); unfold o33_6_0; go_simp
      refine st_val g33_6_0 rfl (wanted_free rfl) Y fun a22 e => ?_; clear Y
      have g14 := R.at_ e (by decide); replace R := R.put e; replace E := E.put e; have h14 := g14; clear g14; clear e
      refine st_val g33_6_1 rfl (wanted_free rfl) (ym_ rfl h14) fun a23 e => ?_
      have g7 := R.at_ e (by decide); replace R := R.put e; replace E := E.put e; replace h14 := so_ e h14; clear h7; have h7 := g7; clear g7; clear e
      refine st_end ?_
      replace h2 := E.of h2; replace h4 := E.of h4; replace h5 := E.of h5; replace h6 := E.of h6; replace h8 := E.of h8; replace h9 := E.of h9; replace h10 := E.of h10; replace h11 := E.of h11; replace h12 := E.of h12; replace h13 := E.of h13; clear E
      exact ⟨_, by omega, j + 1, rfl, R, h2, h5, h6, h7, K1, (by omega), (Lib.hid fun i q hi hq => by rcases Nat.lt_or_ge i j with h | h; exact HA.out i q h hq; (have h9 : i = j := by omega); rw [h9, HP.out] at hq; cases hq; omega)⟩
    | true =>
      have fb20 := hb20; clear hb20
      simp only [decide_eq_true_eq, decide_eq_false_iff_not, bne_iff_ne, bne_eq_false_iff_eq, beq_iff_eq, beq_eq_false_iff_ne, ne_eq, Bool.not_eq_true', Bool.not_eq_false', Bool.not_eq_eq_eq_not, Bool.not_true, Bool.not_false] at fb20
      refine wp_cond_true (x := c33_20) (y := Code.skip) (eval_slot h13) ?_
      refine wp_seq (x := c33_21) (y := Code.ret) ?_
      change (Code.region 5 O33_5 false).wp _ _ _ _
      refine reg_in (l := [0]) rfl ?_
      have E := Ag_.refl a21
      have Y : (execOp a21.eval o33_5_0).run Try.prog w18 = .ok (.value (.bool false)) w18 := by unfold o33_5_0; go_simp
      refine st_val g33_5_0 rfl (wanted_free rfl) Y fun a24 e => ?_; clear Y
      have g2 := R.at_ e (by decide); replace R := R.put e; replace E := E.put e; clear h2; have h2 := g2; clear g2; clear e
      refine st_end ?_
      replace h4 := E.of h4; replace h5 := E.of h5; replace h6 := E.of h6; replace h7 := E.of h7; replace h8 := E.of h8; replace h9 := E.of h9; replace h10 := E.of h10; replace h11 := E.of h11; replace h12 := E.of h12; replace h13 := E.of h13; clear E
      change (Code.ret).wp _ _ _ _
      refine wp_ret ?_
      change bodyPost Try.prog Try.f33 (fun e w' => e = .returned (.bool (decide (∀ p ∈ ps, p.1.ns ≤ 100))) ∧ Keep (fun g => g < W.heap.size) W w') .ret a24 w18
      refine ret_one rfl R h2 ?_
      refine ⟨?_, K1⟩; rw [decide_eq_false (fun h => by have h1 := h p (List.mem_of_getElem? HP.out); omega)]
theorem tame_any {W : World} {sa : Option Addr} {sc : Nat} {ps : List TP} (hS : TmSl W.heap.size W sa ps) (hn : ps.length ≤ 1000000) : Calls Try.prog 33 #[.slice sa ps.length sc] W fun e w' => e = .returned (.bool (decide (∀ p ∈ ps, p.1.ns ≤ 100))) ∧ Keep (fun g => g < W.heap.size) W w' := by
  refine enter_sx Try.func33 body33 rfl (by show (1 : Nat) ≤ 15; decide) fun f0 R hs => ?_
  exact tame_w R (hs 0 _ rfl) (Keep.refl _ W) (Lib.hid hS) (Lib.hid hn)
/-- One term, as tame is asked. -/
theorem tame_one {w : World} {t : Tm} {a : Option Addr} {c g : Nat} {z : Bool} (hT : TmAt w.heap.size w t a c) (hb : Blk w g 24 #[.int .i64 t.k, .string (str t.nm), .int .i64 t.i, .slice a t.args.length c]) (hz : decide (t.ns ≤ 100) = z) :
    Calls Try.prog 33 #[.slice (some ⟨g, 0, none⟩) 1 1] w fun e w' => e = .returned (.bool z) ∧ Keep (fun g => g < w.heap.size) w w' := by
  have hS : TmSl w.heap.size w (some ⟨g, 0, none⟩) [((t, a, c) : TP)] := fun j p hj => by
    match j, hj with
    | 0, hj =>
      cases hj
      refine ⟨⟨g, 0, rfl, hb.lt, fun f v hv => ?_⟩, hT⟩
      match f, hv with
      | 0, hv => cases hv; exact hb.cell 0
      | 1, hv => cases hv; exact hb.cell 1
      | 2, hv => cases hv; exact hb.cell 2
      | 3, hv => cases hv; exact hb.cell 3
      | f + 4, hv => exact absurd (get_lt' hv) (by show ¬ f + 4 < 4; omega)
    | j + 1, hj => simp at hj
  have h := tame_any (sc := 1) hS (by show 1 ≤ 1000000; omega)
  have e : decide (∀ p ∈ [((t, a, c) : TP)], p.1.ns ≤ 100) = z := by rw [← hz]; simp
  rw [e] at h
  exact h
end Go.Proofs.Ythbofkffklejoaa
