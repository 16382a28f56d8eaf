/-
  The document's List: walked with letter frames. No condition but where the terms lie.
-/
import Derived.Test.YtfkbbbjicaedmaaGreatDoorUMA
import Derived.Test.YtfkbbbjicaedmaaGreatDoorUMB
import Derived.Test.YtfkbbbjicaedmaaGreatDoorUMC
import Derived.Test.YtfkbbbjicaedmaaGreatDoorUMD
import Derived.Test.YtfkbbbjicaedmaaGreatDoorUME
import Derived.Test.YtfkbbbjicaedmaaGreatDoorUMF
import Derived.Test.YtfkbbbjicaedmaaGreatDoorUMG
import Derived.Maps.RangeWalk
import Derived.Test.YtfkbbbjicaedmaaGreatDoorUMP
import Derived.Test.YtfkbbbjicaedmaaGreatDoorUSx7
import Derived.Test.YtfkbbbjicaedmaaGreatDoorUTp2
import Derived.Test.YtfkbbbjicaedmaaGreatDoorUMM
namespace Go.Proofs.YtfkbbbjicaedmaaGreatDoor
open Go.RowKit Go.Maps
set_option linter.unusedVariables false
set_option linter.unusedSimpArgs false
theorem list_step {W w : World} {BB b : Nat} {p : TP} {o : Tm} {ao : Option Addr} {co : Nat} (hp : TmAt W.heap.size w p.1 p.2.1 p.2.2) (ho : Fr W.heap.size (fun _ => False) w BB w.heap.size o ao co) (hb : Blk w b 24 #[.int .i64 p.1.k, .string (str p.1.nm), .int .i64 p.1.i, .slice p.2.1 p.1.args.length p.2.2, .int .i64 o.k, .string (str o.nm), .int .i64 o.i, .slice ao o.args.length co]) (hlo : BB ≤ b) (hB : BB ≤ w.heap.size) : Fr W.heap.size (fun _ => False) w BB w.heap.size (.node 4 [46] 0 [p.1, o]) (some ⟨b, 0, none⟩) 2 := by
  refine Fr.node (k := 4) (i := 0) (nm := [46]) (ps := [p, (o, ao, co)]) (rest := []) (by decide) (by decide) (by decide) (by show 2 ≤ maxLen; decide) hlo hb.lt (fun h => h) hb ⟨(by show 2 ≤ 2; omega), (by show 2 ≤ maxLen; decide), rfl⟩ fun j q hj => ?_
  match j, hj with
  | 0, hj => cases hj; exact .old hp hB
  | 1, hj => cases hj; exact ho
  | j + 2, hj => simp at hj
theorem ls_step {ps : List TP} {t o : Tm} {k : Nat} {p : TP} (hk : 0 < k) (hp : ps[k - 1]? = some p) (ho : o = lsT ((ps.drop k).map (·.1)) t) : Tm.node 4 [46] 0 [p.1, o] = lsT ((ps.drop (k - 1)).map (·.1)) t := by
  obtain ⟨h1, h2⟩ := List.getElem?_eq_some_iff.1 hp
  have hd : ps.drop (k - 1) = p :: ps.drop k := by
    rw [List.drop_eq_getElem_cons h1, h2, show k - 1 + 1 = k by omega]
  rw [hd, List.map_cons, ho]
  rfl
theorem fin_list {W w : World} {BB : Nat} {ps : List TP} {t o : Tm} {ao : Option Addr} {co : Nat} (ho : o = lsT ((ps.drop 0).map (·.1)) t) (hf : Fr W.heap.size (fun _ => False) w BB w.heap.size o ao co) (hB : W.heap.size ≤ BB) (K : Keep (fun g => g < W.heap.size) W w) : ∃ a' c', Ending.returned (.agg #[.int .i64 o.k, .string (str o.nm), .int .i64 o.i, .slice ao o.args.length co]) = .returned (tv (lsT (ps.map (·.1)) t) a' c') ∧ TmAt w.heap.size w (lsT (ps.map (·.1)) t) a' c' ∧ Keep (fun g => g < W.heap.size) W w := by
  rw [List.drop_zero] at ho
  subst ho
  exact ⟨ao, co, rfl, hf.at_ hB, K⟩
def o40_0_0 : Oper := ⟨some 3, Op.box 24 (Operand.tmp 1), 0, "ref.go:431", #[], none⟩
def o40_0_1 : Oper := ⟨some 4, Op.alloc 24, 0, "ref.go:431", #[], none⟩
def O40_0 : Array Oper := List.toArray (o40_0_0 :: o40_0_1 :: [])
theorem g40_0_0 : O40_0[0]? = some o40_0_0 := rfl
theorem g40_0_1 : O40_0[1]? = some o40_0_1 := rfl
def c40_1 : Code := Code.region 0 O40_0 false
def o40_1_0 : Oper := ⟨some 7, Op.load 24 (Operand.tmp 3), 24, "ref.go:432", #[], none⟩
def o40_1_1 : Oper := ⟨some 5, Op.alloc 24, 0, "ref.go:432", #[], none⟩
def o40_1_2 : Oper := ⟨none, Op.store 24 (Operand.tmp 5) (Operand.tmp 7), 0, "ref.go:432", #[ed_ 1, ed_ 0, ep_ 0, ep_ 1], none⟩
def O40_1 : Array Oper := List.toArray (o40_1_0 :: o40_1_1 :: o40_1_2 :: [])
theorem g40_1_0 : O40_1[0]? = some o40_1_0 := rfl
theorem g40_1_1 : O40_1[1]? = some o40_1_1 := rfl
theorem g40_1_2 : O40_1[2]? = some o40_1_2 := rfl
def c40_3 : Code := Code.region 1 O40_1 false
def o40_2_0 : Oper := ⟨some 8, Op.move (Operand.tmp 0), 22, "ref.go:433", #[], none⟩
def o40_2_1 : Oper := ⟨some 9, Op.call { callee := Callee.builtin Go.Builtin.len, args := #[Operand.tmp 8], argTypes := #[22] }, 3, "ref.go:433", #[ed_ 0], none⟩
def o40_2_2 : Oper := ⟨some 10, Op.binOp Go.BinOp.sub 3 (Operand.tmp 9) (Operand.const (Value.int IntKind.i64 1)) 3, 3, "ref.go:433", #[ed_ 1], none⟩
def o40_2_3 : Oper := ⟨some 6, Op.assign (Operand.tmp 10), 3, "ref.go:433", #[ed_ 2, ep_ 0, ep_ 1, ep_ 2], none⟩
def O40_2 : Array Oper := List.toArray (o40_2_0 :: o40_2_1 :: o40_2_2 :: o40_2_3 :: [])
theorem g40_2_0 : O40_2[0]? = some o40_2_0 := rfl
theorem g40_2_1 : O40_2[1]? = some o40_2_1 := rfl
theorem g40_2_2 : O40_2[2]? = some o40_2_2 := rfl
theorem g40_2_3 : O40_2[3]? = some o40_2_3 := rfl
def c40_6 : Code := Code.region 2 O40_2 false
def o40_3_0 : Oper := ⟨some 11, Op.move (Operand.tmp 6), 3, "ref.go:433", #[], none⟩
def o40_3_1 : Oper := ⟨some 12, Op.binOp Go.BinOp.geq 3 (Operand.tmp 11) (Operand.const (Value.int IntKind.i64 0)) 3, 4, "ref.go:433", #[ed_ 0], none⟩
def O40_3 : Array Oper := List.toArray (o40_3_0 :: o40_3_1 :: [])
theorem g40_3_0 : O40_3[0]? = some o40_3_0 := rfl
theorem g40_3_1 : O40_3[1]? = some o40_3_1 := rfl
def c40_11 : Code := Code.region 3 O40_3 false
def c40_14 : Code := Code.exit 0
def c40_12 : Code := Code.cond (Operand.tmp 12) Code.skip c40_14
def c40_10 : Code := Code.seq c40_11 c40_12
def o40_5_0 : Oper := ⟨some 15, Op.move (Operand.tmp 0), 22, "ref.go:434", #[], none⟩
def o40_5_1 : Oper := ⟨some 16, Op.move (Operand.tmp 6), 3, "ref.go:434", #[], none⟩
def o40_5_2 : Oper := ⟨some 17, Op.indexAddr 22 (Operand.tmp 15) (Operand.tmp 16), 0, "ref.go:434", #[ed_ 0, ed_ 1], none⟩
def o40_5_3 : Oper := ⟨some 18, Op.load 24 (Operand.tmp 17), 24, "ref.go:434", #[ed_ 2], none⟩
def o40_5_4 : Oper := ⟨some 19, Op.load 24 (Operand.tmp 5), 24, "ref.go:434", #[], none⟩
def o40_5_5 : Oper := ⟨some 20, Op.buildSlice 22 2 #[(0, Operand.tmp 18), (1, Operand.tmp 19)], 22, "ref.go:434", #[ed_ 3, ed_ 4], none⟩
def o40_5_6 : Oper := ⟨some 21, Op.call { callee := Callee.value (Operand.func 20), args := #[Operand.const (Value.string { data := #[46] }), Operand.tmp 20], argTypes := #[9, 22] }, 24, "ref.go:434", #[ed_ 5], none⟩
def o40_5_7 : Oper := ⟨none, Op.store 24 (Operand.tmp 5) (Operand.tmp 21), 0, "ref.go:434", #[ed_ 6, ec_ 6, ep_ 0, ep_ 1, ep_ 2, ep_ 3, ep_ 4, ep_ 5, ep_ 6], none⟩
def O40_5 : Array Oper := List.toArray (o40_5_0 :: o40_5_1 :: o40_5_2 :: o40_5_3 :: o40_5_4 :: o40_5_5 :: o40_5_6 :: o40_5_7 :: [])
theorem g40_5_0 : O40_5[0]? = some o40_5_0 := rfl
theorem g40_5_1 : O40_5[1]? = some o40_5_1 := rfl
theorem g40_5_2 : O40_5[2]? = some o40_5_2 := rfl
theorem g40_5_3 : O40_5[3]? = some o40_5_3 := rfl
theorem g40_5_4 : O40_5[4]? = some o40_5_4 := rfl
theorem g40_5_5 : O40_5[5]? = some o40_5_5 := rfl
theorem g40_5_6 : O40_5[6]? = some o40_5_6 := rfl
theorem g40_5_7 : O40_5[7]? = some o40_5_7 := rfl
theorem ns40_5 : Region.noSelect O40_5 = true := by kernel_rfl
def c40_17 : Code := Code.region 5 O40_5 true
def c40_16 : Code := Code.block 1 c40_17
def o40_4_0 : Oper := ⟨some 13, Op.move (Operand.tmp 6), 3, "ref.go:433", #[], none⟩
def o40_4_1 : Oper := ⟨some 14, Op.binOp Go.BinOp.sub 3 (Operand.tmp 13) (Operand.const (Value.int IntKind.i64 1)) 3, 3, "ref.go:433", #[ed_ 0], none⟩
def o40_4_2 : Oper := ⟨some 6, Op.assign (Operand.tmp 14), 3, "ref.go:433", #[ed_ 1, ep_ 0, ep_ 1], none⟩
def O40_4 : Array Oper := List.toArray (o40_4_0 :: o40_4_1 :: o40_4_2 :: [])
theorem g40_4_0 : O40_4[0]? = some o40_4_0 := rfl
theorem g40_4_1 : O40_4[1]? = some o40_4_1 := rfl
theorem g40_4_2 : O40_4[2]? = some o40_4_2 := rfl
def c40_18 : Code := Code.region 4 O40_4 false
def c40_15 : Code := Code.seq c40_16 c40_18
def c40_9 : Code := Code.seq c40_10 c40_15
def c40_8 : Code := Code.loop c40_9
def c40_7 : Code := Code.block 0 c40_8
def c40_5 : Code := Code.seq c40_6 c40_7
def o40_6_0 : Oper := ⟨some 22, Op.load 24 (Operand.tmp 5), 24, "ref.go:436", #[], none⟩
def o40_6_1 : Oper := ⟨none, Op.store 24 (Operand.tmp 4) (Operand.tmp 22), 0, "ref.go:436", #[ed_ 0, ep_ 0], none⟩
def O40_6 : Array Oper := List.toArray (o40_6_0 :: o40_6_1 :: [])
theorem g40_6_0 : O40_6[0]? = some o40_6_0 := rfl
theorem g40_6_1 : O40_6[1]? = some o40_6_1 := rfl
def c40_20 : Code := Code.region 6 O40_6 false
def c40_19 : Code := Code.seq c40_20 Code.ret
def c40_4 : Code := Code.seq c40_5 c40_19
def c40_2 : Code := Code.seq c40_3 c40_4
def c40_0 : Code := Code.seq c40_1 c40_2
theorem body40 : Tryz.f16.body = some c40_0 := by kernel_rfl
theorem tmsl_lo {W w : World} {sa : Option Addr} {ps : List TP} {j : Nat} {p : TP} (h : TmSl W.heap.size W sa ps) (k : Keep (fun g => g < W.heap.size) W w) (hp : ps[j]? = some p) : TmAt W.heap.size w p.1 p.2.1 p.2.2 := (h j p hp).2.keepX k (fun _ h => h)
set_option maxRecDepth 100000 in
set_option maxHeartbeats 4000000 in
theorem rlist_w {W : World} {t : Tm} {a sa : Option Addr} {c sc : Nat} {ps : List TP} {f0 : Act} {w0 : World} (R : FrS 23 f0) (h0 : f0.tmps[0]? = some (.slice sa ps.length sc)) (h1 : f0.tmps[1]? = some (.agg #[.int .i64 t.k, .string (str t.nm), .int .i64 t.i, .slice a t.args.length c])) (K1 : Keep (fun g => g < W.heap.size) W w0)  (HS : Hid (TmSl W.heap.size W sa ps)) (HT : Hid (TmAt W.heap.size W t a c)) (HLN : Hid (ps.length ≤ 1000000)) : c40_0.wp Tryz.prog (bodyPost Tryz.prog Tryz.f16 (fun e w' => ∃ a' c', e = .returned (tv (lsT (ps.map (·.1)) t) a' c') ∧ TmAt w'.heap.size w' (lsT (ps.map (·.1)) t) a' c' ∧ Keep (fun g => g < W.heap.size) W w')) f0 w0 := by
  refine wp_seq (x := c40_1) (y := c40_2) ?_
  change (Code.region 0 O40_0 false).wp _ _ _ _
  refine reg_in (l := [0, 1]) rfl ?_
  have F : FE_ _ [] f0 f0 := ⟨R, Ag_.refl _⟩; clear R
  have Y : (execOp f0.eval o40_0_0).run Tryz.prog w0 = .ok (.value (.pointer (some ⟨w0.heap.size, 0, none⟩))) (w0.alloc (.cells #[.int .i64 t.k, .string (str t.nm), .int .i64 t.i, .slice a t.args.length c] 24)) := by have r1 := F.of h1; unfold o40_0_0; go_simp
  have B1 := Blk.new w0 24 #[.int .i64 t.k, .string (str t.nm), .int .i64 t.i, .slice a t.args.length c]
  obtain ⟨w2, hw⟩ : ∃ x, x = w0.alloc (.cells #[.int .i64 t.k, .string (str t.nm), .int .i64 t.i, .slice a t.args.length c] 24) := ⟨_, rfl⟩; rw [← hw] at Y B1
  obtain ⟨b1, hb⟩ : ∃ x, x = w0.heap.size := ⟨_, rfl⟩; rw [← hb] at Y B1
  have LK1_b1 := lk_ hb K1; replace K1 := ka_ hw K1; clear hw hb
  refine sv_ g40_0_0 Y fun a3 e => ?_; clear Y
  have h3 := pt_ F e; replace F := pu_ F e; clear e
  have Y : (execOp a3.eval o40_0_1).run Tryz.prog w2 = .ok (.value (.pointer (some ⟨w2.heap.size, 0, none⟩))) (w2.alloc (.cells #[.int .i64 0, .string (⟨#[]⟩), .int .i64 0, .slice none 0 0] 24)) := by unfold o40_0_1; go_simp
  have B4 := Blk.new w2 24 #[.int .i64 0, .string (⟨#[]⟩), .int .i64 0, .slice none 0 0]
  obtain ⟨w5, hw⟩ : ∃ x, x = w2.alloc (.cells #[.int .i64 0, .string (⟨#[]⟩), .int .i64 0, .slice none 0 0] 24) := ⟨_, rfl⟩; rw [← hw] at Y B4
  obtain ⟨b4, hb⟩ : ∃ x, x = w2.heap.size := ⟨_, rfl⟩; rw [← hb] at Y B4
  have Nb1_b4 := nb_ hb B1; replace B1 := ba_ hw B1; have LK1_b4 := lk_ hb K1; replace K1 := ka_ hw K1; clear hw hb
  refine sv_ g40_0_1 Y fun a6 e => ?_; clear Y
  have h4 := pt_ F e; replace F := pu_ F e; replace h3 := so_ e h3; clear e
  refine st_end ?_
  replace h0 := F.of h0; clear h1; have R := F.r; clear F
  change (c40_2).wp _ _ _ _
  refine wp_seq (x := c40_3) (y := c40_4) ?_
  change (Code.region 1 O40_1 false).wp _ _ _ _
  refine reg_in (l := [0, 1, 2]) rfl ?_
  have F : FE_ _ [] a6 a6 := ⟨R, Ag_.refl _⟩; clear R
  refine sv_ g40_1_0 (yl4_ rfl (F.of h3) B1) fun a7 e => ?_
  have h7 := pt_ F e; replace F := pu_ F e; clear e
  have Y : (execOp a7.eval o40_1_1).run Tryz.prog w5 = .ok (.value (.pointer (some ⟨w5.heap.size, 0, none⟩))) (w5.alloc (.cells #[.int .i64 0, .string (⟨#[]⟩), .int .i64 0, .slice none 0 0] 24)) := by unfold o40_1_1; go_simp
  have B8 := Blk.new w5 24 #[.int .i64 0, .string (⟨#[]⟩), .int .i64 0, .slice none 0 0]
  obtain ⟨w9, hw⟩ : ∃ x, x = w5.alloc (.cells #[.int .i64 0, .string (⟨#[]⟩), .int .i64 0, .slice none 0 0] 24) := ⟨_, rfl⟩; rw [← hw] at Y B8
  obtain ⟨b8, hb⟩ : ∃ x, x = w5.heap.size := ⟨_, rfl⟩; rw [← hb] at Y B8
  have Nb1_b8 := nb_ hb B1; replace B1 := ba_ hw B1; have Nb4_b8 := nb_ hb B4; replace B4 := ba_ hw B4; have LK1_b8 := lk_ hb K1; replace K1 := ka_ hw K1; clear hw hb
  refine sv_ g40_1_1 Y fun a10 e => ?_; clear Y
  have h5 := pt_ F e; replace F := pu_ F e; replace h7 := so_ e h7; clear e
  obtain ⟨w11, Y, hk, hB⟩ := ys4_ (o := o40_1_2) rfl h5 h7 B8
  replace K1 := kx_ hk K1 (Nat.not_lt.2 LK1_b8); replace B1 := bx_ hk B1 Nb1_b8; replace B4 := bx_ hk B4 Nb4_b8; clear B8; have B8 := hB; clear hB hk
  refine st_skip g40_1_2 rfl (wanted_free rfl) Y ?_; clear Y
  refine st_end ?_
  replace h0 := F.of h0; clear h3; replace h4 := F.of h4; clear h7; have R := F.r; clear F
  change (c40_4).wp _ _ _ _
  refine wp_seq (x := c40_5) (y := c40_19) ?_
  refine wp_seq (x := c40_6) (y := c40_7) ?_
  change (Code.region 2 O40_2 false).wp _ _ _ _
  refine reg_in (l := [0, 1, 2, 3]) rfl ?_
  have F : FE_ _ [] a10 a10 := ⟨R, Ag_.refl _⟩; clear R
  refine sv_ g40_2_0 (ym_ rfl (F.of h0)) fun a12 e => ?_
  have h8 := pt_ F e; replace F := pu_ F e; clear e
  have Y : (execOp a12.eval o40_2_1).run Tryz.prog w11 = .ok (.value (.int .i64 ps.length)) w11 := by unfold o40_2_1; go_simp
  refine sv_ g40_2_1 Y fun a13 e => ?_; clear Y
  clear h8; have h9 := pt_ F e; replace F := pu_ F e; clear e
  have Y : (execOp a13.eval o40_2_2).run Tryz.prog w11 = .ok (.value (.int .i64 ((ps.length : Int) - 1))) w11 := by have hl9 := HLN.out; have hwn : IntKind.i64.wrap ((ps.length : Int) - 1) = (ps.length : Int) - 1 := (by rw [IntKind.wrap_i64]; omega); unfold o40_2_2; go_simp
  refine sv_ g40_2_2 Y fun a14 e => ?_; clear Y
  clear h9; have h10 := pt_ F e; replace F := pu_ F e; clear e
  refine sv_ g40_2_3 (ya_ rfl h10) fun a15 e => ?_
  clear h10; have h6 := pt_ F e; replace F := pu_ F e; clear e
  refine st_end ?_
  replace h0 := F.of h0; replace h4 := F.of h4; replace h5 := F.of h5; have R := F.r; clear F
  change (c40_7).wp _ _ _ _
  refine wp_block (id := 0) (c := c40_8) ?_
  obtain ⟨BB, hBB⟩ : ∃ q, q = w11.heap.size := ⟨_, rfl⟩
  have HF : Hid (Fr W.heap.size (fun _ => False) w11 BB w11.heap.size t a c) := Lib.hid (.old (HT.out.keepX K1 (fun _ h => h)) (by rw [hBB]; exact Nat.le_refl _))
  have HWB : W.heap.size ≤ BB := by rw [hBB]; exact K1.size
  have HBB : BB ≤ w11.heap.size := by rw [hBB]; exact Nat.le_refl _
  have Eb1 : b1 < BB := by rw [hBB]; exact B1.lt
  have Eb4 : b4 < BB := by rw [hBB]; exact B4.lt
  have Eb8 : b8 < BB := by rw [hBB]; exact B8.lt
  clear hBB
  refine wp_loop_ghost (c := c40_9) (fun n fX wX => ∃ k : Nat, ∃ i : Int, ∃ o : Tm, ∃ ao : Option Addr, ∃ co : Nat, n = 0 + k ∧ FrS 23 fX ∧ fX.tmps[0]? = some (.slice sa ps.length sc) ∧ fX.tmps[4]? = some (.pointer (some ⟨b4, 0, none⟩)) ∧ fX.tmps[5]? = some (.pointer (some ⟨b8, 0, none⟩)) ∧ fX.tmps[6]? = some (.int .i64 i) ∧ Keep (fun g => g < W.heap.size) W wX ∧ Blk wX b1 24 #[.int .i64 t.k, .string (str t.nm), .int .i64 t.i, .slice a t.args.length c] ∧ Blk wX b4 24 #[.int .i64 0, .string (⟨#[]⟩), .int .i64 0, .slice none 0 0] ∧ Blk wX b8 24 #[.int .i64 o.k, .string (str o.nm), .int .i64 o.i, .slice ao o.args.length co] ∧ k ≤ ps.length ∧ i + 1 = (k : Int) ∧ Hid (o = lsT ((ps.drop k).map (·.1)) t) ∧ Hid (Fr W.heap.size (fun _ => False) wX BB wX.heap.size o ao co) ∧ BB ≤ wX.heap.size) (0 + ps.length) ⟨ps.length, (ps.length : Int) - 1, t, a, c, rfl, R, h0, h4, h5, h6, K1, B1, B4, B8, Nat.le_refl _, (by omega), (Lib.hid (by rw [List.drop_length]; rfl)), HF, HBB⟩ ?_
  clear R h0 h4 h5 h6 K1 B1 B4 B8
  rintro n18 a16 w17 ⟨k, i, o, ao, co, rfl, R, h0, h4, h5, h6, K1, B1, B4, B8, hk, hik, HO, HF, HBB⟩
  have hl9 := HLN.out
  have KL := Keep.refl (fun g => g < W.heap.size ∨ BB ≤ g) w17
  refine wp_seq (x := c40_10) (y := c40_15) ?_
  refine wp_seq (x := c40_11) (y := c40_12) ?_
  change (Code.region 3 O40_3 false).wp _ _ _ _
  refine reg_in (l := [0, 1]) rfl ?_
  have F : FE_ _ [] a16 a16 := ⟨R, Ag_.refl _⟩; clear R
  refine sv_ g40_3_0 (ym_ rfl (F.of h6)) fun a19 e => ?_
  have h11 := pt_ F e; replace F := pu_ F e; clear e
  obtain ⟨b20, hb20⟩ : ∃ x, (decide ((0 : Int) ≤ (i : Int))) = x := ⟨_, rfl⟩
  have Y : (execOp a19.eval o40_3_1).run Tryz.prog w17 = .ok (.value (.bool b20)) w17 := by rw [← hb20]; unfold o40_3_1; go_simp
  refine sv_ g40_3_1 Y fun a21 e => ?_; clear Y
  have h12 := pt_ F e; replace F := pu_ F e; replace h11 := so_ e h11; clear e
  refine st_end ?_
  replace h0 := F.of h0; replace h4 := F.of h4; replace h5 := F.of h5; replace h6 := F.of h6; have R := F.r; clear F
  change (c40_12).wp _ _ _ _
  cases b20 with
  | false =>
    have fb20 := hb20; clear hb20
    simp only [decide_eq_true_eq, decide_eq_false_iff_not, bne_iff_ne, bne_eq_false_iff_eq, beq_iff_eq, beq_eq_false_iff_ne, ne_eq, Bool.not_eq_true', Bool.not_eq_false', Bool.not_eq_eq_eq_not, Bool.not_true, Bool.not_false] at fb20
    refine wp_cond_false (x := Code.skip) (y := c40_14) (eval_slot h12) ?_
    refine wp_exit ?_
    change (c40_19).wp _ _ _ _
    refine wp_seq (x := c40_20) (y := Code.ret) ?_
    change (Code.region 6 O40_6 false).wp _ _ _ _
    refine reg_in (l := [0, 1]) rfl ?_
    have F : FE_ _ [] a21 a21 := ⟨R, Ag_.refl _⟩; clear R
    refine sv_ g40_6_0 (yl4_ rfl (F.of h5) B8) fun a22 e => ?_
    have h22 := pt_ F e; replace F := pu_ F e; clear e
    obtain ⟨w23, Y, hk, hB⟩ := ys4_ (o := o40_6_1) rfl (F.of h4) h22 B4
    replace K1 := kx_ hk K1 (Nat.not_lt.2 LK1_b4); replace KL := kx_ hk KL (fun hx => hx.elim (Nat.not_lt.2 LK1_b4) (Nat.not_le.2 Eb4)); replace B1 := bx_ hk B1 Nb1_b4; replace B8 := bx_ hk B8 (Ne.symm Nb4_b8); clear B4; have B4 := hB; clear hB hk
    refine st_skip g40_6_1 rfl (wanted_free rfl) Y ?_; clear Y
    refine st_end ?_
    replace h0 := F.of h0; replace h4 := F.of h4; replace h5 := F.of h5; replace h6 := F.of h6; replace h11 := F.of h11; replace h12 := F.of h12; clear h22; have R := F.r; clear F
    change (Code.ret).wp _ _ _ _
    refine wp_ret ?_
    change bodyPost Tryz.prog Tryz.f16 (fun e w' => ∃ a' c', e = .returned (tv (lsT (ps.map (·.1)) t) a' c') ∧ TmAt w'.heap.size w' (lsT (ps.map (·.1)) t) a' c' ∧ Keep (fun g => g < W.heap.size) W w') .ret a22 w23
    refine ret_cell (fn := Tryz.f16) rfl R h4 B4 ?_
    exact fin_list (by have h := HO.out; rw [show k = 0 by omega] at h; exact h) (HF.out.keepR KL (fun g hg => hg.imp id (fun h => h.1)) |>.up KL.size (Nat.le_refl _)) HWB K1
  | true =>
    have fb20 := hb20; clear hb20
    simp only [decide_eq_true_eq, decide_eq_false_iff_not, bne_iff_ne, bne_eq_false_iff_eq, beq_iff_eq, beq_eq_false_iff_ne, ne_eq, Bool.not_eq_true', Bool.not_eq_false', Bool.not_eq_eq_eq_not, Bool.not_true, Bool.not_false] at fb20
    refine wp_cond_true (x := Code.skip) (y := c40_14) (eval_slot h12) ?_
    refine wp_skip ?_
    change (c40_15).wp _ _ _ _
    refine wp_seq (x := c40_16) (y := c40_18) ?_
    refine wp_block (id := 1) (c := c40_17) ?_
    change (Code.region 5 O40_5 true).wp _ _ _ _
    have D26 := B1
    have D27 := B4
    have D28 := B8
    have K24 := (Keep.refl (fun g => g < w17.heap.size ∧ g ≠ b8) w17).drew
    have EK1 := K1
    have EKL := KL
    refine dr_in (S := (fun W => Keep (fun g => g < w17.heap.size ∧ g ≠ b8) w17 W)) (n := 8) (l := lb_ 8 0) (by kernel_rfl) K24 rfl (by kernel_rfl) ?_
    replace K1 := K1.drew
    replace KL := KL.drew
    replace B1 := B1.drew
    replace B4 := B4.drew
    replace B8 := B8.drew
    generalize w17.drew = w25 at K24 K1 KL B1 B4 B8 ⊢
    have F : FE_ _ [] a21 a21 := ⟨R, Ag_.refl _⟩; clear R
    refine dt_ (i := 0) (l' := (lb_ 8 1)) g40_5_0 rfl ns40_5 (wanted_free rfl) K24 (fun _ _ => (ym_ rfl (F.of h0))) fun a29 e => ?_
    have h15 := pt_ F e; replace F := pu_ F e; clear e
    refine dt_ (i := 1) (l' := (lb_ 8 3)) g40_5_1 rfl ns40_5 (wanted_free rfl) K24 (fun _ _ => (ym_ rfl (F.of h6))) fun a30 e => ?_
    have h16 := pt_ F e; replace F := pu_ F e; replace h15 := so_ e h15; clear e
    refine dr_two (i := 2) (k := 4) (fuel := 5) (by kernel_rfl) ?_ ?_
    ·
      have hk0 : 0 < k := by omega
      obtain ⟨p, hp⟩ : ∃ q, ps[k - 1]? = some q := ⟨_, List.getElem?_eq_getElem (by omega)⟩
      obtain ⟨bA, oA, hA, -⟩ := tmsl_addr HS.out (show k - 1 < ps.length by omega)
      have HP := Lib.hid hp; clear hp; have HA := Lib.hid hA; clear hA
      have HI0 : Hid (i = ((k - 1 : Nat) : Int)) := Lib.hid (by omega)
      have hltA : ((k - 1 : Nat) : Int) < (ps.length : Int) := by omega
      have Y : (execOp a30.eval o40_5_2).run Tryz.prog w25 = .ok (.value (.pointer (some ⟨bA, oA + (k - 1) * 4, none⟩))) w25 := by have hA := HA.out; have hi0 := HI0.out; unfold o40_5_2; go_simp
      refine dr_val (l' := (lb_ 8 7)) g40_5_2 rfl (by kernel_rfl) (wanted_free rfl) Y K24 fun a31 e => ?_; clear Y
      have h17 := pt_ F e; replace F := pu_ F e; replace h15 := so_ e h15; replace h16 := so_ e h16; clear e
      have Y : ∀ W, Keep (fun g => g < w17.heap.size ∧ g ≠ b8) w17 W → (execOp a31.eval o40_5_3).run Tryz.prog W = .ok (.value (.agg #[.int .i64 p.1.k, .string (str p.1.nm), .int .i64 p.1.i, .slice p.2.1 p.1.args.length p.2.2])) W := by intro W7 hS; have hkk := EK1.trans (hS.less (fun g hg => ⟨Nat.lt_of_lt_of_le hg EK1.size, fun e => Nat.not_lt.2 LK1_b8 (e ▸ hg)⟩)); obtain ⟨⟨c0, c1, c2, c3⟩, -⟩ := tmsl_at (tmsl_on HS.out hkk) HA.out HP.out; clear hkk; unfold o40_5_3; go_simp
      refine dt_ (i := 3) (l' := (lb_ 8 15)) g40_5_3 rfl ns40_5 (wanted_free rfl) K24 Y fun a32 e => ?_; clear Y
      have h18 := pt_ F e; replace F := pu_ F e; replace h15 := so_ e h15; replace h16 := so_ e h16; replace h17 := so_ e h17; clear e
      refine dr_only (i := 4) (fuel := 3) (by kernel_rfl) ?_
      refine dr_val (l' := (lb_ 8 31)) g40_5_4 rfl (by kernel_rfl) (wanted_free rfl) (yl4_ rfl (F.of h5) B8) K24 fun a33 e => ?_
      have h19 := pt_ F e; replace F := pu_ F e; replace h15 := so_ e h15; replace h16 := so_ e h16; replace h17 := so_ e h17; replace h18 := so_ e h18; clear e
      refine dr_only (i := 5) (fuel := 2) (by kernel_rfl) ?_
      have Y : (execOp a33.eval o40_5_5).run Tryz.prog w25 = .ok (.value (.slice (some ⟨w25.heap.size, 0, none⟩) 2 2)) (w25.alloc (.cells #[.int .i64 p.1.k, .string (str p.1.nm), .int .i64 p.1.i, .slice p.2.1 p.1.args.length p.2.2, .int .i64 o.k, .string (str o.nm), .int .i64 o.i, .slice ao o.args.length co] 24)) := by unfold o40_5_5; go_simp
      have B34 := Blk.new w25 24 #[.int .i64 p.1.k, .string (str p.1.nm), .int .i64 p.1.i, .slice p.2.1 p.1.args.length p.2.2, .int .i64 o.k, .string (str o.nm), .int .i64 o.i, .slice ao o.args.length co]
      obtain ⟨w35, hw⟩ : ∃ x, x = w25.alloc (.cells #[.int .i64 p.1.k, .string (str p.1.nm), .int .i64 p.1.i, .slice p.2.1 p.1.args.length p.2.2, .int .i64 o.k, .string (str o.nm), .int .i64 o.i, .slice ao o.args.length co] 24) := ⟨_, rfl⟩; rw [← hw] at Y B34
      obtain ⟨b34, hb⟩ : ∃ x, x = w25.heap.size := ⟨_, rfl⟩; rw [← hb] at Y B34
      have Nb1_b34 := nb_ hb B1; replace B1 := ba_ hw B1; have Nb4_b34 := nb_ hb B4; replace B4 := ba_ hw B4; have Nb8_b34 := nb_ hb B8; replace B8 := ba_ hw B8; have LK1_b34 := lk_ hb K1; replace K1 := ka_ hw K1; have LKL_b34 := lk_ hb KL; replace KL := ka_ hw KL; have LK24_b34 := lk_ hb K24; replace K24 := ka_ hw K24; clear hw hb
      refine dr_val (l' := (lb_ 8 63)) g40_5_5 rfl (by kernel_rfl) (wanted_free rfl) Y K24 fun a36 e => ?_; clear Y
      have h20 := pt_ F e; replace F := pu_ F e; replace h15 := so_ e h15; replace h16 := so_ e h16; replace h17 := so_ e h17; replace h18 := so_ e h18; replace h19 := so_ e h19; clear e
      refine dr_only (i := 6) (fuel := 1) (by kernel_rfl) ?_
      have Y : (execOp a36.eval o40_5_6).run Tryz.prog w35 = .ok (.enter 20 #[.string (⟨#[46]⟩), .slice (some ⟨b34, 0, none⟩) 2 2]) w35 := by unfold o40_5_6; go_simp
      have HF2 := Lib.hid (list_step (W := W) (BB := BB) (tmsl_lo HS.out K1 HP.out) ((HF.out.keepR KL (fun g hg => hg.imp id (fun h => h.1))).up KL.size (Nat.le_refl _)) B34 (Nat.le_trans HBB LKL_b34) (Nat.le_trans HBB KL.size))
      have KLsz := KL.size; clear KL
      have KN := Keep.refl (fun g => g < W.heap.size ∨ BB ≤ g) w35
      clear B34
      have hc : Calls Tryz.prog 20 #[.string ⟨#[46]⟩, .slice (some ⟨b34, 0, none⟩) 2 2] w35 (fun e w' => e = .returned (.agg #[.int .i64 4, .string (⟨#[46]⟩), .int .i64 0, .slice (some ⟨b34, 0, none⟩) 2 2]) ∧ Keep (fun g => g < w35.heap.size) w35 w') := refC_any w35 [46] [p.1, o] (some ⟨b34, 0, none⟩) 2
      refine dr_call (l' := (lb_ 8 127)) g40_5_6 rfl (by kernel_rfl) (wanted_free rfl) Y ((hc).mono ?_); clear Y
      rintro e9 w37 ⟨rfl, kk⟩
      replace K1 := keep_onto K1 kk
      replace K24 := K24.trans kk.all
      replace KN := KN.trans kk.all
      replace B1 := blk_on B1 kk
      replace B4 := blk_on B4 kk
      replace B8 := blk_on B8 kk
      clear kk
      clear hc
      refine ⟨_, rfl, K24, fun a38 e => ?_⟩
      have h21 := pt_ F e; replace F := pu_ F e; replace h15 := so_ e h15; replace h16 := so_ e h16; replace h17 := so_ e h17; replace h18 := so_ e h18; replace h19 := so_ e h19; replace h20 := so_ e h20; clear e
      refine dr_only (i := 7) (fuel := 0) (by kernel_rfl) ?_
      obtain ⟨w39, Y, hk, hB⟩ := ys4_ (o := o40_5_7) rfl (F.of h5) h21 B8
      replace K1 := kx_ hk K1 (Nat.not_lt.2 LK1_b8); replace K24 := kx_ hk K24 (fun hx => hx.2 rfl); replace KN := kx_ hk KN (fun hx => hx.elim (Nat.not_lt.2 LK1_b8) (Nat.not_le.2 Eb8)); replace B1 := bx_ hk B1 Nb1_b8; replace B4 := bx_ hk B4 Nb4_b8; clear B8; have B8 := hB; clear hB hk
      refine dr_skip (l' := (lb_ 8 255)) g40_5_7 rfl (by kernel_rfl) (wanted_free rfl) Y K24 ?_; clear Y
      refine dr_end (by kernel_rfl) ?_
      replace h0 := F.of h0; replace h4 := F.of h4; replace h5 := F.of h5; replace h6 := F.of h6; replace h11 := F.of h11; replace h12 := F.of h12; have R := F.r; clear F
      clear K24 EK1 EKL D26 D27 D28
      change (c40_18).wp _ _ _ _
      change (Code.region 4 O40_4 false).wp _ _ _ _
      refine reg_in (l := [0, 1, 2]) rfl ?_
      have F : FE_ _ [] a38 a38 := ⟨R, Ag_.refl _⟩; clear R
      refine sv_ g40_4_0 (ym_ rfl (F.of h6)) fun a40 e => ?_
      have h13 := pt_ F e; replace F := pu_ F e; clear e
      have Y : (execOp a40.eval o40_4_1).run Tryz.prog w39 = .ok (.value (.int .i64 (i - 1))) w39 := by have hwj : IntKind.i64.wrap (i - 1) = i - 1 := (by rw [IntKind.wrap_i64]; omega); unfold o40_4_1; go_simp
      refine sv_ g40_4_1 Y fun a41 e => ?_; clear Y
      have h14 := pt_ F e; replace F := pu_ F e; replace h13 := so_ e h13; clear e
      refine sv_ g40_4_2 (ya_ rfl h14) fun a42 e => ?_
      clear h6; have h6 := pt_ F e; replace F := pu_ F e; replace h13 := so_ e h13; replace h14 := so_ e h14; clear e
      refine st_end ?_
      replace h0 := F.of h0; replace h4 := F.of h4; replace h5 := F.of h5; replace h11 := F.of h11; replace h12 := F.of h12; replace h15 := F.of h15; replace h16 := F.of h16; replace h17 := F.of h17; replace h18 := F.of h18; replace h19 := F.of h19; replace h20 := F.of h20; replace h21 := F.of h21; have R := F.r; clear F
      exact ⟨_, by omega, k - 1, i - 1, (.node 4 [46] 0 [p.1, o]), some ⟨b34, 0, none⟩, 2, rfl, R, h0, h4, h5, h6, K1, B1, B4, B8, (by omega), (by omega), (Lib.hid (ls_step (by omega) HP.out HO.out)), (Lib.hid ((HF2.out.keepR KN (fun g hg => hg.imp id (fun h => h.1))).up KN.size (Nat.le_refl _))), (Nat.le_trans HBB (Nat.le_trans KLsz KN.size))⟩
    ·
      refine dr_val (l' := (lb_ 8 19)) g40_5_4 rfl (by kernel_rfl) (wanted_free rfl) (yl4_ rfl (F.of h5) B8) K24 fun a43 e => ?_
      have h19 := pt_ F e; replace F := pu_ F e; replace h15 := so_ e h15; replace h16 := so_ e h16; clear e
      refine dr_only (i := 2) (fuel := 4) (by kernel_rfl) ?_
      have hk0 : 0 < k := by omega
      obtain ⟨p, hp⟩ : ∃ q, ps[k - 1]? = some q := ⟨_, List.getElem?_eq_getElem (by omega)⟩
      obtain ⟨bA, oA, hA, -⟩ := tmsl_addr HS.out (show k - 1 < ps.length by omega)
      have HP := Lib.hid hp; clear hp; have HA := Lib.hid hA; clear hA
      have HI0 : Hid (i = ((k - 1 : Nat) : Int)) := Lib.hid (by omega)
      have hltA : ((k - 1 : Nat) : Int) < (ps.length : Int) := by omega
      have Y : (execOp a43.eval o40_5_2).run Tryz.prog w25 = .ok (.value (.pointer (some ⟨bA, oA + (k - 1) * 4, none⟩))) w25 := by have hA := HA.out; have hi0 := HI0.out; unfold o40_5_2; go_simp
      refine dr_val (l' := (lb_ 8 23)) g40_5_2 rfl (by kernel_rfl) (wanted_free rfl) Y K24 fun a44 e => ?_; clear Y
      have h17 := pt_ F e; replace F := pu_ F e; replace h15 := so_ e h15; replace h16 := so_ e h16; replace h19 := so_ e h19; clear e
      have Y : ∀ W, Keep (fun g => g < w17.heap.size ∧ g ≠ b8) w17 W → (execOp a44.eval o40_5_3).run Tryz.prog W = .ok (.value (.agg #[.int .i64 p.1.k, .string (str p.1.nm), .int .i64 p.1.i, .slice p.2.1 p.1.args.length p.2.2])) W := by intro W7 hS; have hkk := EK1.trans (hS.less (fun g hg => ⟨Nat.lt_of_lt_of_le hg EK1.size, fun e => Nat.not_lt.2 LK1_b8 (e ▸ hg)⟩)); obtain ⟨⟨c0, c1, c2, c3⟩, -⟩ := tmsl_at (tmsl_on HS.out hkk) HA.out HP.out; clear hkk; unfold o40_5_3; go_simp
      refine dt_ (i := 3) (l' := (lb_ 8 31)) g40_5_3 rfl ns40_5 (wanted_free rfl) K24 Y fun a45 e => ?_; clear Y
      have h18 := pt_ F e; replace F := pu_ F e; replace h15 := so_ e h15; replace h16 := so_ e h16; replace h17 := so_ e h17; replace h19 := so_ e h19; clear e
      refine dr_only (i := 5) (fuel := 2) (by kernel_rfl) ?_
      have Y : (execOp a45.eval o40_5_5).run Tryz.prog w25 = .ok (.value (.slice (some ⟨w25.heap.size, 0, none⟩) 2 2)) (w25.alloc (.cells #[.int .i64 p.1.k, .string (str p.1.nm), .int .i64 p.1.i, .slice p.2.1 p.1.args.length p.2.2, .int .i64 o.k, .string (str o.nm), .int .i64 o.i, .slice ao o.args.length co] 24)) := by unfold o40_5_5; go_simp
      have B46 := Blk.new w25 24 #[.int .i64 p.1.k, .string (str p.1.nm), .int .i64 p.1.i, .slice p.2.1 p.1.args.length p.2.2, .int .i64 o.k, .string (str o.nm), .int .i64 o.i, .slice ao o.args.length co]
      obtain ⟨w47, hw⟩ : ∃ x, x = w25.alloc (.cells #[.int .i64 p.1.k, .string (str p.1.nm), .int .i64 p.1.i, .slice p.2.1 p.1.args.length p.2.2, .int .i64 o.k, .string (str o.nm), .int .i64 o.i, .slice ao o.args.length co] 24) := ⟨_, rfl⟩; rw [← hw] at Y B46
      obtain ⟨b46, hb⟩ : ∃ x, x = w25.heap.size := ⟨_, rfl⟩; rw [← hb] at Y B46
      have Nb1_b46 := nb_ hb B1; replace B1 := ba_ hw B1; have Nb4_b46 := nb_ hb B4; replace B4 := ba_ hw B4; have Nb8_b46 := nb_ hb B8; replace B8 := ba_ hw B8; have LK1_b46 := lk_ hb K1; replace K1 := ka_ hw K1; have LKL_b46 := lk_ hb KL; replace KL := ka_ hw KL; have LK24_b46 := lk_ hb K24; replace K24 := ka_ hw K24; clear hw hb
      refine dr_val (l' := (lb_ 8 63)) g40_5_5 rfl (by kernel_rfl) (wanted_free rfl) Y K24 fun a48 e => ?_; clear Y
      have h20 := pt_ F e; replace F := pu_ F e; replace h15 := so_ e h15; replace h16 := so_ e h16; replace h17 := so_ e h17; replace h18 := so_ e h18; replace h19 := so_ e h19; clear e
      refine dr_only (i := 6) (fuel := 1) (by kernel_rfl) ?_
      have Y : (execOp a48.eval o40_5_6).run Tryz.prog w47 = .ok (.enter 20 #[.string (⟨#[46]⟩), .slice (some ⟨b46, 0, none⟩) 2 2]) w47 := by unfold o40_5_6; go_simp
      have HF2 := Lib.hid (list_step (W := W) (BB := BB) (tmsl_lo HS.out K1 HP.out) ((HF.out.keepR KL (fun g hg => hg.imp id (fun h => h.1))).up KL.size (Nat.le_refl _)) B46 (Nat.le_trans HBB LKL_b46) (Nat.le_trans HBB KL.size))
      have KLsz := KL.size; clear KL
      have KN := Keep.refl (fun g => g < W.heap.size ∨ BB ≤ g) w47
      clear B46
      have hc : Calls Tryz.prog 20 #[.string ⟨#[46]⟩, .slice (some ⟨b46, 0, none⟩) 2 2] w47 (fun e w' => e = .returned (.agg #[.int .i64 4, .string (⟨#[46]⟩), .int .i64 0, .slice (some ⟨b46, 0, none⟩) 2 2]) ∧ Keep (fun g => g < w47.heap.size) w47 w') := refC_any w47 [46] [p.1, o] (some ⟨b46, 0, none⟩) 2
      refine dr_call (l' := (lb_ 8 127)) g40_5_6 rfl (by kernel_rfl) (wanted_free rfl) Y ((hc).mono ?_); clear Y
      rintro e9 w49 ⟨rfl, kk⟩
      replace K1 := keep_onto K1 kk
      replace K24 := K24.trans kk.all
      replace KN := KN.trans kk.all
      replace B1 := blk_on B1 kk
      replace B4 := blk_on B4 kk
      replace B8 := blk_on B8 kk
      clear kk
      clear hc
      refine ⟨_, rfl, K24, fun a50 e => ?_⟩
      have h21 := pt_ F e; replace F := pu_ F e; replace h15 := so_ e h15; replace h16 := so_ e h16; replace h17 := so_ e h17; replace h18 := so_ e h18; replace h19 := so_ e h19; replace h20 := so_ e h20; clear e
      refine dr_only (i := 7) (fuel := 0) (by kernel_rfl) ?_
      obtain ⟨w51, Y, hk, hB⟩ := ys4_ (o := o40_5_7) rfl (F.of h5) h21 B8
      replace K1 := kx_ hk K1 (Nat.not_lt.2 LK1_b8); replace K24 := kx_ hk K24 (fun hx => hx.2 rfl); replace KN := kx_ hk KN (fun hx => hx.elim (Nat.not_lt.2 LK1_b8) (Nat.not_le.2 Eb8)); replace B1 := bx_ hk B1 Nb1_b8; replace B4 := bx_ hk B4 Nb4_b8; clear B8; have B8 := hB; clear hB hk
      refine dr_skip (l' := (lb_ 8 255)) g40_5_7 rfl (by kernel_rfl) (wanted_free rfl) Y K24 ?_; clear Y
      refine dr_end (by kernel_rfl) ?_
      replace h0 := F.of h0; replace h4 := F.of h4; replace h5 := F.of h5; replace h6 := F.of h6; replace h11 := F.of h11; replace h12 := F.of h12; have R := F.r; clear F
      clear K24 EK1 EKL D26 D27 D28
      change (c40_18).wp _ _ _ _
      change (Code.region 4 O40_4 false).wp _ _ _ _
      refine reg_in (l := [0, 1, 2]) rfl ?_
      have F : FE_ _ [] a50 a50 := ⟨R, Ag_.refl _⟩; clear R
      refine sv_ g40_4_0 (ym_ rfl (F.of h6)) fun a52 e => ?_
      have h13 := pt_ F e; replace F := pu_ F e; clear e
      have Y : (execOp a52.eval o40_4_1).run Tryz.prog w51 = .ok (.value (.int .i64 (i - 1))) w51 := by have hwj : IntKind.i64.wrap (i - 1) = i - 1 := (by rw [IntKind.wrap_i64]; omega); unfold o40_4_1; go_simp
      refine sv_ g40_4_1 Y fun a53 e => ?_; clear Y
      have h14 := pt_ F e; replace F := pu_ F e; replace h13 := so_ e h13; clear e
      refine sv_ g40_4_2 (ya_ rfl h14) fun a54 e => ?_
      clear h6; have h6 := pt_ F e; replace F := pu_ F e; replace h13 := so_ e h13; replace h14 := so_ e h14; clear e
      refine st_end ?_
      replace h0 := F.of h0; replace h4 := F.of h4; replace h5 := F.of h5; replace h11 := F.of h11; replace h12 := F.of h12; replace h15 := F.of h15; replace h16 := F.of h16; replace h17 := F.of h17; replace h18 := F.of h18; replace h19 := F.of h19; replace h20 := F.of h20; replace h21 := F.of h21; have R := F.r; clear F
      exact ⟨_, by omega, k - 1, i - 1, (.node 4 [46] 0 [p.1, o]), some ⟨b46, 0, none⟩, 2, rfl, R, h0, h4, h5, h6, K1, B1, B4, B8, (by omega), (by omega), (Lib.hid (ls_step (by omega) HP.out HO.out)), (Lib.hid ((HF2.out.keepR KN (fun g hg => hg.imp id (fun h => h.1))).up KN.size (Nat.le_refl _))), (Nat.le_trans HBB (Nat.le_trans KLsz KN.size))⟩
theorem refList_any {W : World} {t : Tm} {a sa : Option Addr} {c sc : Nat} {ps : List TP} (hS : TmSl W.heap.size W sa ps) (hT : TmAt W.heap.size W t a c) (hn : ps.length ≤ 1000000) : Calls Tryz.prog 16 #[.slice sa ps.length sc, tv t a c] W fun e w' => ∃ a' c', e = .returned (tv (lsT (ps.map (·.1)) t) a' c') ∧ TmAt w'.heap.size w' (lsT (ps.map (·.1)) t) a' c' ∧ Keep (fun g => g < W.heap.size) W w' := by
  refine enter_sx Tryz.func16 body40 rfl (by show (2 : Nat) ≤ 23; decide) fun f0 R hs => ?_
  exact rlist_w R (hs 0 _ rfl) (hs 1 _ rfl) (Keep.refl _ W) (Lib.hid hS) (Lib.hid hT) (Lib.hid hn)
end Go.Proofs.YtfkbbbjicaedmaaGreatDoor
