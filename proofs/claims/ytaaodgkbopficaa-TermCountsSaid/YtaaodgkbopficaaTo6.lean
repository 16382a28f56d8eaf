/-
  The law of counts: walked with letter frames. No condition but where the terms lie.
-/
import Derived.Test.YtaaodgkbopficaaTo5
import Derived.Test.YtaaodgkbopficaaSx4
import Derived.Test.YtaaodgkbopficaaTp4
import Derived.Test.YtaaodgkbopficaaTr1
namespace Go.Proofs.Ytaaodgkbopficaa
open Go.RowKit Go.Maps
set_option linter.unusedVariables false
set_option linter.unusedSimpArgs false

set_option maxRecDepth 100000 in
set_option maxHeartbeats 4000000 in
theorem cw_t {W : World} {v : Tm} {va sa : Option Addr} {vc sc : Nat} {ps : List TP} {nm : List UInt8} {f0 : Act} {w0 : World} (R : FrS 128 f0) (h0 : f0.tmps[0]? = some (.string (str nm))) (h1 : f0.tmps[1]? = some (.slice sa ps.length sc)) (h2 : f0.tmps[2]? = some (.agg #[.int .i64 v.k, .string (str v.nm), .int .i64 v.i, .slice va v.args.length vc])) (K1 : Keep (fun g => g < W.heap.size) W w0)  (HV : Hid (TmAt W.heap.size W v va vc)) (HS : Hid (TmSl W.heap.size W sa ps)) (HNT : Hid (TmAt W.heap.size W (Tm.node 4 nm 0 (ps.map (·.1))) sa sc)) (HR : Hid ((Tm.node 4 nm 0 (ps.map (·.1))).right = true)) (HC : Hid ((Tm.node 4 nm 0 (ps.map (·.1))).size = (szA (ps.map (·.1)) (ps.map (·.1)).length : Int) ∧ (Tm.node 4 nm 0 (ps.map (·.1))).depth = (dpA (ps.map (·.1)) (ps.map (·.1)).length : Int) + 1 ∧ vaV (Tm.node 4 nm 0 (ps.map (·.1))) = vaA (ps.map (·.1)) (ps.map (·.1)).length ∧ (∀ t ∈ (ps.map (·.1)), t.right = true) ∧ (ps.map (·.1)).length ≤ 8 ∧ szA (ps.map (·.1)) (ps.map (·.1)).length ≤ 2000 ∧ dpA (ps.map (·.1)) (ps.map (·.1)).length ≤ 100)) (HYW : Hid (∀ j, j ≤ ps.length → 0 < (vaA (ps.map (·.1)) j).length → (ik ((vaA (ps.map (·.1)) j).getD 0 0)).wf = true)) : c10_0.wp Try.prog (bodyPost Try.prog Try.f10 (fun e w' => e = .returned (.bool true) ∧ Keep (fun g => g < W.heap.size) W w')) f0 w0 := by
  have HVB : Hid (∀ j, j ≤ ps.length → (vaA (ps.map (·.1)) j).length ≤ 2000) := Lib.hid fun j h => Nat.le_trans (vaA_len HC.out.2.2.2.1 j (by rw [List.length_map]; exact h)) (Nat.le_trans (szA_mono (show j ≤ (ps.map (·.1)).length by rw [List.length_map]; exact h)) HC.out.2.2.2.2.2.1)
  refine wp_seq (x := c10_1) (y := c10_2) ?_
  change (Code.region 0 O10_0 false).wp _ _ _ _
  refine reg_in (l := [0, 1]) rfl ?_
  have MK1 := K1
  have Y : (execOp f0.eval o10_0_0).run Try.prog w0 = .ok (.value (.pointer (some ⟨w0.heap.size, 0, none⟩))) (w0.alloc (.cells #[.int .i64 v.k, .string (str v.nm), .int .i64 v.i, .slice va v.args.length vc] 24)) := by unfold o10_0_0; go_simp
  have B63 := Blk.new w0 24 #[.int .i64 v.k, .string (str v.nm), .int .i64 v.i, .slice va v.args.length vc]
  replace K1 := K1.alloc (.cells #[.int .i64 v.k, .string (str v.nm), .int .i64 v.i, .slice va v.args.length vc] 24)
  obtain ⟨w64, hw64⟩ : ∃ x, x = w0.alloc (.cells #[.int .i64 v.k, .string (str v.nm), .int .i64 v.i, .slice va v.args.length vc] 24) := ⟨_, rfl⟩
  rw [← hw64] at Y B63 K1
  obtain ⟨b63, hb63⟩ : ∃ x, x = w0.heap.size := ⟨_, rfl⟩
  rw [← hb63] at Y B63
  have LK1_b63 : W.heap.size ≤ b63 := by rw [hb63]; first | exact Nat.le_refl _ | exact MK1.size
  clear hw64 hb63 MK1
  refine st_val g10_0_0 rfl (wanted_free rfl) Y fun a65 e => ?_; clear Y
  have g5 := R.at_ e (by decide); replace R := R.put e; replace h0 := slot_on e h0 (by decide); replace h1 := slot_on e h1 (by decide); clear h2; have h5 := g5; clear g5; clear e
  have Y : (execOp a65.eval o10_0_1).run Try.prog w64 = .ok (.value (.bool false)) w64 := by unfold o10_0_1; go_simp
  refine st_val g10_0_1 rfl (wanted_free rfl) Y fun a67 e => ?_; clear Y
  have g6 := R.at_ e (by decide); replace R := R.put e; replace h0 := slot_on e h0 (by decide); replace h1 := slot_on e h1 (by decide); replace h5 := slot_on e h5 (by decide); have h6 := g6; clear g6; clear e
  refine st_end ?_
  change (c10_2).wp _ _ _ _
  refine wp_seq (x := c10_3) (y := c10_10) ?_
  refine wp_seq (x := c10_4) (y := c10_5) ?_
  change (Code.region 1 O10_1 false).wp _ _ _ _
  refine reg_in (l := [0, 1]) rfl ?_
  have Y : (execOp a67.eval o10_1_0).run Try.prog w64 = .ok (.enter 13 #[]) w64 := by unfold o10_1_0; go_simp
  refine st_call g10_1_0 rfl (wanted_free rfl) Y ((alive_any (w := w64)).mono ?_); clear Y
  rintro e9 w69 ⟨rfl, kk⟩
  replace K1 := keep_onto K1 kk
  replace B63 := blk_on B63 kk
  clear kk
  refine ⟨_, rfl, fun a70 e => ?_⟩
  have g17 := R.at_ e (by decide); replace R := R.put e; replace h0 := slot_on e h0 (by decide); replace h1 := slot_on e h1 (by decide); replace h5 := slot_on e h5 (by decide); replace h6 := slot_on e h6 (by decide); have h17 := g17; clear g17; clear e
  have Y : (execOp a70.eval o10_1_1).run Try.prog w69 = .ok (.value (.bool false)) w69 := by unfold o10_1_1; go_simp
  refine st_val g10_1_1 rfl (wanted_free rfl) Y fun a72 e => ?_; clear Y
  have g18 := R.at_ e (by decide); replace R := R.put e; replace h0 := slot_on e h0 (by decide); replace h1 := slot_on e h1 (by decide); replace h5 := slot_on e h5 (by decide); replace h6 := slot_on e h6 (by decide); clear h17; have h18 := g18; clear g18; clear e
  refine st_end ?_
  change (c10_5).wp _ _ _ _
  refine wp_cond_false (x := c10_6) (y := Code.skip) (eval_slot h18) ?_
  refine wp_skip ?_
  change (c10_10).wp _ _ _ _
  refine wp_seq (x := c10_11) (y := c10_12) ?_
  change (Code.region 3 O10_3 false).wp _ _ _ _
  refine reg_in (l := [0, 1, 2, 3, 4]) rfl ?_
  have Y : (execOp a72.eval o10_3_0).run Try.prog w69 = .ok (.value (.string (str nm))) w69 := by unfold o10_3_0; go_simp
  refine st_val g10_3_0 rfl (wanted_free rfl) Y fun a74 e => ?_; clear Y
  have g19 := R.at_ e (by decide); replace R := R.put e; replace h1 := slot_on e h1 (by decide); replace h5 := slot_on e h5 (by decide); replace h6 := slot_on e h6 (by decide); clear h0 h18; have h19 := g19; clear g19; clear e
  have Y : (execOp a74.eval o10_3_1).run Try.prog w69 = .ok (.value (.slice sa ps.length sc)) w69 := by unfold o10_3_1; go_simp
  refine st_val g10_3_1 rfl (wanted_free rfl) Y fun a76 e => ?_; clear Y
  have g20 := R.at_ e (by decide); replace R := R.put e; replace h1 := slot_on e h1 (by decide); replace h5 := slot_on e h5 (by decide); replace h6 := slot_on e h6 (by decide); replace h19 := slot_on e h19 (by decide); have h20 := g20; clear g20; clear e
  have Y : (execOp a76.eval o10_3_2).run Try.prog w69 = .ok (.value (.agg #[.int .i64 4, .string (str nm), .int .i64 0, .slice sa ps.length sc])) w69 := by unfold o10_3_2; go_simp
  refine st_val g10_3_2 rfl (wanted_free rfl) Y fun a78 e => ?_; clear Y
  have g21 := R.at_ e (by decide); replace R := R.put e; replace h1 := slot_on e h1 (by decide); replace h5 := slot_on e h5 (by decide); replace h6 := slot_on e h6 (by decide); clear h19 h20; have h21 := g21; clear g21; clear e
  have MK1 := K1
  have Y : (execOp a78.eval o10_3_3).run Try.prog w69 = .ok (.value (.pointer (some ⟨w69.heap.size, 0, none⟩))) (w69.alloc (.cells #[.int .i64 0, .string (⟨#[]⟩), .int .i64 0, .slice none 0 0] 24)) := by unfold o10_3_3; go_simp
  have B80 := Blk.new w69 24 #[.int .i64 0, .string (⟨#[]⟩), .int .i64 0, .slice none 0 0]
  replace K1 := K1.alloc (.cells #[.int .i64 0, .string (⟨#[]⟩), .int .i64 0, .slice none 0 0] 24)
  have Nb63_b80 := Nat.ne_of_lt B63.lt; replace B63 := B63.alloc (.cells #[.int .i64 0, .string (⟨#[]⟩), .int .i64 0, .slice none 0 0] 24)
  obtain ⟨w81, hw81⟩ : ∃ x, x = w69.alloc (.cells #[.int .i64 0, .string (⟨#[]⟩), .int .i64 0, .slice none 0 0] 24) := ⟨_, rfl⟩
  rw [← hw81] at Y B80 K1 B63
  obtain ⟨b80, hb80⟩ : ∃ x, x = w69.heap.size := ⟨_, rfl⟩
  rw [← hb80] at Y B80 Nb63_b80
  have LK1_b80 : W.heap.size ≤ b80 := by rw [hb80]; first | exact Nat.le_refl _ | exact MK1.size
  clear hw81 hb80 MK1
  refine st_val g10_3_3 rfl (wanted_free rfl) Y fun a82 e => ?_; clear Y
  have g7 := R.at_ e (by decide); replace R := R.put e; replace h1 := slot_on e h1 (by decide); replace h5 := slot_on e h5 (by decide); replace h6 := slot_on e h6 (by decide); replace h21 := slot_on e h21 (by decide); have h7 := g7; clear g7; clear e
  have Y : (execOp a82.eval o10_3_4).run Try.prog w81 = .ok .skip ((((w81.setCell ⟨b80, 0, none⟩ (.int .i64 4)).setCell ⟨b80, 1, none⟩ (.string (str nm))).setCell ⟨b80, 2, none⟩ (.int .i64 0)).setCell ⟨b80, 3, none⟩ (.slice sa ps.length sc)) := by have qq0 : w81.cell? ⟨b80, 0, none⟩ = some (.int .i64 0) := B80.cell 0; have qq1 : w81.cell? ⟨b80, 1, none⟩ = some (.string (⟨#[]⟩)) := B80.cell 1; have qq2 : w81.cell? ⟨b80, 2, none⟩ = some (.int .i64 0) := B80.cell 2; have qq3 : w81.cell? ⟨b80, 3, none⟩ = some (.slice none 0 0) := B80.cell 3; have z0 := B80.frozen 0; have z1 := B80.frozen 1; have z2 := B80.frozen 2; have z3 := B80.frozen 3; unfold o10_3_4; go_simp
  replace K1 := ((((K1.setCell (p := ⟨b80, 0, none⟩) (Nat.not_lt.2 LK1_b80) (.int .i64 4)).setCell (p := ⟨b80, 1, none⟩) (Nat.not_lt.2 LK1_b80) (.string (str nm))).setCell (p := ⟨b80, 2, none⟩) (Nat.not_lt.2 LK1_b80) (.int .i64 0)).setCell (p := ⟨b80, 3, none⟩) (Nat.not_lt.2 LK1_b80) (.slice sa ps.length sc))
  replace B63 := ((((B63.far (p := ⟨b80, 0, none⟩) Nb63_b80 (.int .i64 4)).far (p := ⟨b80, 1, none⟩) Nb63_b80 (.string (str nm))).far (p := ⟨b80, 2, none⟩) Nb63_b80 (.int .i64 0)).far (p := ⟨b80, 3, none⟩) Nb63_b80 (.slice sa ps.length sc))
  replace B80 : Blk ((((w81.setCell ⟨b80, 0, none⟩ (.int .i64 4)).setCell ⟨b80, 1, none⟩ (.string (str nm))).setCell ⟨b80, 2, none⟩ (.int .i64 0)).setCell ⟨b80, 3, none⟩ (.slice sa ps.length sc)) b80 24 #[.int .i64 4, .string (str nm), .int .i64 0, .slice sa ps.length sc] := ((((B80.set_ 0 (.int .i64 4)).set_ 1 (.string (str nm))).set_ 2 (.int .i64 0)).set_ 3 (.slice sa ps.length sc))
  generalize ((((w81.setCell ⟨b80, 0, none⟩ (.int .i64 4)).setCell ⟨b80, 1, none⟩ (.string (str nm))).setCell ⟨b80, 2, none⟩ (.int .i64 0)).setCell ⟨b80, 3, none⟩ (.slice sa ps.length sc)) = w84 at Y K1 B63 B80
  refine st_skip g10_3_4 rfl (wanted_free rfl) Y ?_; clear Y
  refine st_end ?_
  change (c10_12).wp _ _ _ _
  refine wp_seq (x := c10_13) (y := c10_20) ?_
  refine wp_seq (x := c10_14) (y := c10_15) ?_
  change (Code.region 4 O10_4 false).wp _ _ _ _
  refine reg_in (l := [0, 1, 2]) rfl ?_
  have Y : (execOp a82.eval o10_4_0).run Try.prog w84 = .ok (.value (.agg #[.int .i64 4, .string (str nm), .int .i64 0, .slice sa ps.length sc])) w84 := by have qq0 : w84.cell? ⟨b80, 0, none⟩ = some (.int .i64 4) := B80.cell 0; have qq1 : w84.cell? ⟨b80, 1, none⟩ = some (.string (str nm)) := B80.cell 1; have qq2 : w84.cell? ⟨b80, 2, none⟩ = some (.int .i64 0) := B80.cell 2; have qq3 : w84.cell? ⟨b80, 3, none⟩ = some (.slice sa ps.length sc) := B80.cell 3; unfold o10_4_0; go_simp
  refine st_val g10_4_0 rfl (wanted_free rfl) Y fun a85 e => ?_; clear Y
  have g22 := R.at_ e (by decide); replace R := R.put e; replace h1 := slot_on e h1 (by decide); replace h5 := slot_on e h5 (by decide); replace h6 := slot_on e h6 (by decide); replace h7 := slot_on e h7 (by decide); clear h21; have h22 := g22; clear g22; clear e
  have Y : (execOp a85.eval o10_4_1).run Try.prog w84 = .ok (.enter 15 #[.agg #[.int .i64 4, .string (str nm), .int .i64 0, .slice sa ps.length sc]]) w84 := by unfold o10_4_1; go_simp
  have hcn := check_t (HNT.out.on K1) HR.out
  simp only [tv, Tm.k, Tm.nm, Tm.i, Tm.args, List.length_map] at hcn
  refine st_call g10_4_1 rfl (wanted_free rfl) Y ((hcn).mono ?_); clear Y
  rintro e9 w87 ⟨rfl, kk⟩
  replace K1 := keep_onto K1 kk
  replace B63 := blk_on B63 kk
  replace B80 := blk_on B80 kk
  clear kk
  clear hcn
  refine ⟨_, rfl, fun a88 e => ?_⟩
  have g23 := R.at_ e (by decide); replace R := R.put e; replace h1 := slot_on e h1 (by decide); replace h5 := slot_on e h5 (by decide); replace h6 := slot_on e h6 (by decide); replace h7 := slot_on e h7 (by decide); clear h22; have h23 := g23; clear g23; clear e
  have Y : (execOp a88.eval o10_4_2).run Try.prog w87 = .ok (.value (.bool false)) w87 := by unfold o10_4_2; go_simp
  refine st_val g10_4_2 rfl (wanted_free rfl) Y fun a90 e => ?_; clear Y
  have g24 := R.at_ e (by decide); replace R := R.put e; replace h1 := slot_on e h1 (by decide); replace h5 := slot_on e h5 (by decide); replace h6 := slot_on e h6 (by decide); replace h7 := slot_on e h7 (by decide); clear h23; have h24 := g24; clear g24; clear e
  refine st_end ?_
  change (c10_15).wp _ _ _ _
  refine wp_cond_false (x := c10_16) (y := Code.skip) (eval_slot h24) ?_
  refine wp_skip ?_
  change (c10_20).wp _ _ _ _
  refine wp_seq (x := c10_21) (y := c10_22) ?_
  change (Code.region 6 O10_6 false).wp _ _ _ _
  refine reg_in (l := [0, 1]) rfl ?_
  have Y : (execOp a90.eval o10_6_0).run Try.prog w87 = .ok (.value (.int .i64 1)) w87 := by unfold o10_6_0; go_simp
  refine st_val g10_6_0 rfl (wanted_free rfl) Y fun a92 e => ?_; clear Y
  have g8 := R.at_ e (by decide); replace R := R.put e; replace h1 := slot_on e h1 (by decide); replace h5 := slot_on e h5 (by decide); replace h6 := slot_on e h6 (by decide); replace h7 := slot_on e h7 (by decide); clear h24; have h8 := g8; clear g8; clear e
  have Y : (execOp a92.eval o10_6_1).run Try.prog w87 = .ok (.value (.int .i64 0)) w87 := by unfold o10_6_1; go_simp
  refine st_val g10_6_1 rfl (wanted_free rfl) Y fun a94 e => ?_; clear Y
  have g9 := R.at_ e (by decide); replace R := R.put e; replace h1 := slot_on e h1 (by decide); replace h5 := slot_on e h5 (by decide); replace h6 := slot_on e h6 (by decide); replace h7 := slot_on e h7 (by decide); replace h8 := slot_on e h8 (by decide); have h9 := g9; clear g9; clear e
  refine st_end ?_
  change (c10_22).wp _ _ _ _
  refine wp_seq (x := c10_23) (y := c10_24) ?_
  change (Code.region 7 O10_7 false).wp _ _ _ _
  refine reg_in (l := [0, 1]) rfl ?_
  have Ab63 : b63 < w87.heap.size := B63.lt
  have Ab80 : b80 < w87.heap.size := B80.lt
  have Y : (execOp a94.eval o10_7_0).run Try.prog w87 = .ok (.value (.slice (some ⟨w87.heap.size, 0, none⟩) 0 0)) (w87.alloc (.cells #[] 2)) := by unfold o10_7_0; go_simp
  have MK1 := K1
  have B96 := Blk.new w87 2 #[]
  replace K1 := K1.alloc (.cells #[] 2)
  have Nb63_b96 := Nat.ne_of_lt B63.lt; replace B63 := B63.alloc (.cells #[] 2)
  have Nb80_b96 := Nat.ne_of_lt B80.lt; replace B80 := B80.alloc (.cells #[] 2)
  obtain ⟨w97, hw97⟩ : ∃ x, x = w87.alloc (.cells #[] 2) := ⟨_, rfl⟩
  rw [← hw97] at Y B96 K1 B63 B80
  obtain ⟨b96, hb96⟩ : ∃ x, x = w87.heap.size := ⟨_, rfl⟩
  rw [← hb96] at Y B96 Nb63_b96 Nb80_b96 Ab63 Ab80
  have LK1_b96 : W.heap.size ≤ b96 := by rw [hb96]; first | exact Nat.le_refl _ | exact MK1.size
  clear hw97 hb96 MK1
  refine st_val g10_7_0 rfl (wanted_free rfl) Y fun a98 e => ?_; clear Y
  have g39 := R.at_ e (by decide); replace R := R.put e; replace h1 := slot_on e h1 (by decide); replace h5 := slot_on e h5 (by decide); replace h6 := slot_on e h6 (by decide); replace h7 := slot_on e h7 (by decide); replace h8 := slot_on e h8 (by decide); replace h9 := slot_on e h9 (by decide); have h39 := g39; clear g39; clear e
  have Y : (execOp a98.eval o10_7_1).run Try.prog w97 = .ok (.value (.slice (some ⟨b96, 0, none⟩) 0 0)) w97 := by unfold o10_7_1; go_simp
  refine st_val g10_7_1 rfl (wanted_free rfl) Y fun a100 e => ?_; clear Y
  have g10 := R.at_ e (by decide); replace R := R.put e; replace h1 := slot_on e h1 (by decide); replace h5 := slot_on e h5 (by decide); replace h6 := slot_on e h6 (by decide); replace h7 := slot_on e h7 (by decide); replace h8 := slot_on e h8 (by decide); replace h9 := slot_on e h9 (by decide); clear h39; have h10 := g10; clear g10; clear e
  refine st_end ?_
  change (c10_24).wp _ _ _ _
  refine wp_seq (x := c10_25) (y := c10_64) ?_
  refine wp_seq (x := c10_26) (y := c10_27) ?_
  change (Code.region 8 O10_8 false).wp _ _ _ _
  refine reg_in (l := [0, 1, 2]) rfl ?_
  have Y : (execOp a100.eval o10_8_0).run Try.prog w97 = .ok (.value (.slice sa ps.length sc)) w97 := by unfold o10_8_0; go_simp
  refine st_val g10_8_0 rfl (wanted_free rfl) Y fun a102 e => ?_; clear Y
  have g40 := R.at_ e (by decide); replace R := R.put e; replace h5 := slot_on e h5 (by decide); replace h6 := slot_on e h6 (by decide); replace h7 := slot_on e h7 (by decide); replace h8 := slot_on e h8 (by decide); replace h9 := slot_on e h9 (by decide); replace h10 := slot_on e h10 (by decide); clear h1; have h40 := g40; clear g40; clear e
  have Y : (execOp a102.eval o10_8_1).run Try.prog w97 = .ok (.value (.int .i64 ps.length)) w97 := by unfold o10_8_1; go_simp
  refine st_val g10_8_1 rfl (wanted_free rfl) Y fun a104 e => ?_; clear Y
  have g41 := R.at_ e (by decide); replace R := R.put e; replace h5 := slot_on e h5 (by decide); replace h6 := slot_on e h6 (by decide); replace h7 := slot_on e h7 (by decide); replace h8 := slot_on e h8 (by decide); replace h9 := slot_on e h9 (by decide); replace h10 := slot_on e h10 (by decide); replace h40 := slot_on e h40 (by decide); have h41 := g41; clear g41; clear e
  have Y : (execOp a104.eval o10_8_2).run Try.prog w97 = .ok (.value (.int .i64 0)) w97 := by unfold o10_8_2; go_simp
  refine st_val g10_8_2 rfl (wanted_free rfl) Y fun a106 e => ?_; clear Y
  have g42 := R.at_ e (by decide); replace R := R.put e; replace h5 := slot_on e h5 (by decide); replace h6 := slot_on e h6 (by decide); replace h7 := slot_on e h7 (by decide); replace h8 := slot_on e h8 (by decide); replace h9 := slot_on e h9 (by decide); replace h10 := slot_on e h10 (by decide); replace h40 := slot_on e h40 (by decide); replace h41 := slot_on e h41 (by decide); have h42 := g42; clear g42; clear e
  refine st_end ?_
  change (c10_27).wp _ _ _ _
  refine wp_block (id := 0) (c := c10_28) ?_
  have HROW := Lib.hid (row_made0L B96 (Nat.le_refl b96))
  obtain ⟨vm, hvm⟩ : ∃ q : Value, q = .slice (some ⟨b96, 0, none⟩) 0 0 := ⟨_, rfl⟩
  rw [← hvm] at h10 HROW; clear hvm
  have hlq : b96 ≤ w97.heap.size := Nat.le_of_lt B96.lt
  have hbW : W.heap.size ≤ b96 := LK1_b96
  clear B96
  have KR := Keep.refl (fun g => g < w97.heap.size) w97
  refine wp_loop_ghost (c := c10_29) (fun n f9 w9 => ∃ j : Nat, ∃ wr : World, ∃ vm : Value, n = ps.length - j ∧ FrS 128 f9 ∧ f9.tmps[5]? = some (.pointer (some ⟨b63, 0, none⟩)) ∧ f9.tmps[6]? = some (.bool false) ∧ f9.tmps[7]? = some (.pointer (some ⟨b80, 0, none⟩)) ∧ f9.tmps[8]? = some (.int .i64 (szA (ps.map (·.1)) j : Int)) ∧ f9.tmps[9]? = some (.int .i64 (dpA (ps.map (·.1)) j : Int)) ∧ f9.tmps[10]? = some (vm) ∧ f9.tmps[40]? = some (.slice sa ps.length sc) ∧ f9.tmps[41]? = some (.int .i64 ps.length) ∧ f9.tmps[42]? = some (.int .i64 (j : Int)) ∧ Keep (fun g => g < W.heap.size) W w9 ∧ Keep (fun g => g < wr.heap.size) wr w9 ∧ Blk w9 b63 24 #[.int .i64 v.k, .string (str v.nm), .int .i64 v.i, .slice va v.args.length vc] ∧ Blk w9 b80 24 #[.int .i64 4, .string (str nm), .int .i64 0, .slice sa ps.length sc] ∧ j ≤ ps.length ∧ Hid (wr.ownsRow b96 2 1 vm (vaA (ps.map (·.1)) j).length ((vaA (ps.map (·.1)) j).map (Value.int .i64))) ∧ b96 ≤ wr.heap.size) (ps.length - 0) ⟨0, w97, vm, rfl, R, h5, h6, h7, h8, h9, h10, h40, h41, h42, K1, KR, B63, B80, Nat.zero_le _, HROW, hlq⟩ ?_
  clear R h5 h6 h7 h8 h9 h10 h40 h41 h42 K1 KR B63 B80
  rintro n110 a108 w109 ⟨j, wr, vm, rfl, R, h5, h6, h7, h8, h9, h10, h40, h41, h42, K1, KR, B63, B80, hj, HROW, hlq⟩
  have hj8 := HC.out.2.2.2.2.1
  rw [List.length_map] at hj8
  have hwj : IntKind.i64.wrap ((j : Int) + 1) = (j : Int) + 1 := by rw [IntKind.wrap_i64]; omega
  refine wp_seq (x := c10_30) (y := c10_31) ?_
  change (Code.region 9 O10_9 false).wp _ _ _ _
  refine reg_in (l := [0]) rfl ?_
  obtain ⟨b111, hb111⟩ : ∃ x, (decide ((j : Int) < (ps.length : Int))) = x := ⟨_, rfl⟩
  have Y : (execOp a108.eval o10_9_0).run Try.prog w109 = .ok (.value (.bool b111)) w109 := by rw [← hb111]; unfold o10_9_0; go_simp
  refine st_val g10_9_0 rfl (wanted_free rfl) Y fun a112 e => ?_; clear Y
  have g43 := R.at_ e (by decide); replace R := R.put e; replace h5 := slot_on e h5 (by decide); replace h6 := slot_on e h6 (by decide); replace h7 := slot_on e h7 (by decide); replace h8 := slot_on e h8 (by decide); replace h9 := slot_on e h9 (by decide); replace h10 := slot_on e h10 (by decide); replace h40 := slot_on e h40 (by decide); replace h41 := slot_on e h41 (by decide); replace h42 := slot_on e h42 (by decide); have h43 := g43; clear g43; clear e
  refine st_end ?_
  change (c10_31).wp _ _ _ _
  refine wp_seq (x := c10_32) (y := c10_35) ?_
  cases b111 with
  | false =>
    have fb111 := hb111; clear hb111
    simp only [decide_eq_true_eq, decide_eq_false_iff_not, bne_iff_ne, bne_eq_false_iff_eq, beq_iff_eq, beq_eq_false_iff_ne, ne_eq, Bool.not_eq_true', Bool.not_eq_false', Bool.not_eq_eq_eq_not, Bool.not_true, Bool.not_false] at fb111
    refine wp_cond_false (x := Code.skip) (y := c10_34) (eval_slot h43) ?_
    refine wp_exit ?_
    change (c10_64).wp _ _ _ _
    refine wp_seq (x := c10_65) (y := c10_72) ?_
    refine wp_seq (x := c10_66) (y := c10_67) ?_
    change (Code.region 20 O10_20 false).wp _ _ _ _
    refine reg_in (l := [0, 1, 2, 3, 4, 5, 6, 7, 8, 9, 10, 11, 12, 13, 14, 15, 16, 17]) rfl ?_
    have Y : (execOp a112.eval o10_20_0).run Try.prog w109 = .ok (.value (.agg #[.int .i64 4, .string (str nm), .int .i64 0, .slice sa ps.length sc])) w109 := by have qq0 : w109.cell? ⟨b80, 0, none⟩ = some (.int .i64 4) := B80.cell 0; have qq1 : w109.cell? ⟨b80, 1, none⟩ = some (.string (str nm)) := B80.cell 1; have qq2 : w109.cell? ⟨b80, 2, none⟩ = some (.int .i64 0) := B80.cell 2; have qq3 : w109.cell? ⟨b80, 3, none⟩ = some (.slice sa ps.length sc) := B80.cell 3; unfold o10_20_0; go_simp
    refine st_val g10_20_0 rfl (wanted_free rfl) Y fun a114 e => ?_; clear Y
    have g71 := R.at_ e (by decide); replace R := R.put e; replace h5 := slot_on e h5 (by decide); replace h6 := slot_on e h6 (by decide); replace h7 := slot_on e h7 (by decide); replace h8 := slot_on e h8 (by decide); replace h9 := slot_on e h9 (by decide); replace h10 := slot_on e h10 (by decide); replace h40 := slot_on e h40 (by decide); replace h41 := slot_on e h41 (by decide); replace h42 := slot_on e h42 (by decide); replace h43 := slot_on e h43 (by decide); have h71 := g71; clear g71; clear e
    have Y : (execOp a114.eval o10_20_1).run Try.prog w109 = .ok (.enter 16 #[.agg #[.int .i64 4, .string (str nm), .int .i64 0, .slice sa ps.length sc]]) w109 := by unfold o10_20_1; go_simp
    have HJ : Hid (j = ps.length) := Lib.hid (by omega)
    obtain ⟨ra, rc, hvm, hlg⟩ := row_longs HROW.out
    subst hvm
    have HLG : Hid (LongsAt wr ra (vaA (ps.map (·.1)) j)) := Lib.hid hlg; clear hlg
    have hcn := size_sx (z := (szA (ps.map (·.1)) j : Int)) (HNT.out.on K1) (by rw [HC.out.1, HJ.out, List.length_map])
    simp only [tv, Tm.k, Tm.nm, Tm.i, Tm.args, List.length_map] at hcn
    refine st_call g10_20_1 rfl (wanted_free rfl) Y ((hcn).mono ?_); clear Y
    rintro e9 w116 ⟨rfl, kk⟩
    replace K1 := keep_onto K1 kk
    replace KR := keep_onto KR kk
    replace B63 := blk_on B63 kk
    replace B80 := blk_on B80 kk
    clear kk
    clear hcn
    refine ⟨_, rfl, fun a117 e => ?_⟩
    have g72 := R.at_ e (by decide); replace R := R.put e; replace h5 := slot_on e h5 (by decide); replace h6 := slot_on e h6 (by decide); replace h7 := slot_on e h7 (by decide); replace h8 := slot_on e h8 (by decide); replace h9 := slot_on e h9 (by decide); replace h10 := slot_on e h10 (by decide); replace h40 := slot_on e h40 (by decide); replace h41 := slot_on e h41 (by decide); replace h42 := slot_on e h42 (by decide); replace h43 := slot_on e h43 (by decide); clear h71; have h72 := g72; clear g72; clear e
    have Y : (execOp a117.eval o10_20_2).run Try.prog w116 = .ok (.value (.int .i64 (szA (ps.map (·.1)) j : Int))) w116 := by unfold o10_20_2; go_simp
    refine st_val g10_20_2 rfl (wanted_free rfl) Y fun a119 e => ?_; clear Y
    have g73 := R.at_ e (by decide); replace R := R.put e; replace h5 := slot_on e h5 (by decide); replace h6 := slot_on e h6 (by decide); replace h7 := slot_on e h7 (by decide); replace h8 := slot_on e h8 (by decide); replace h9 := slot_on e h9 (by decide); replace h10 := slot_on e h10 (by decide); replace h40 := slot_on e h40 (by decide); replace h41 := slot_on e h41 (by decide); replace h42 := slot_on e h42 (by decide); replace h43 := slot_on e h43 (by decide); replace h72 := slot_on e h72 (by decide); have h73 := g73; clear g73; clear e
    have Y : (execOp a119.eval o10_20_3).run Try.prog w116 = .ok (.value (.bool false)) w116 := by unfold o10_20_3; go_simp
    refine st_val g10_20_3 rfl (wanted_free rfl) Y fun a121 e => ?_; clear Y
    have g74 := R.at_ e (by decide); replace R := R.put e; replace h5 := slot_on e h5 (by decide); replace h6 := slot_on e h6 (by decide); replace h7 := slot_on e h7 (by decide); replace h8 := slot_on e h8 (by decide); replace h9 := slot_on e h9 (by decide); replace h10 := slot_on e h10 (by decide); replace h40 := slot_on e h40 (by decide); replace h41 := slot_on e h41 (by decide); replace h42 := slot_on e h42 (by decide); replace h43 := slot_on e h43 (by decide); clear h72 h73; have h74 := g74; clear g74; clear e
    have Y : (execOp a121.eval o10_20_4).run Try.prog w116 = .ok (.value (.bool false)) w116 := by unfold o10_20_4; go_simp
    refine st_val g10_20_4 rfl (wanted_free rfl) Y fun a123 e => ?_; clear Y
    have g75 := R.at_ e (by decide); replace R := R.put e; replace h5 := slot_on e h5 (by decide); replace h6 := slot_on e h6 (by decide); replace h7 := slot_on e h7 (by decide); replace h8 := slot_on e h8 (by decide); replace h9 := slot_on e h9 (by decide); replace h10 := slot_on e h10 (by decide); replace h40 := slot_on e h40 (by decide); replace h41 := slot_on e h41 (by decide); replace h42 := slot_on e h42 (by decide); replace h43 := slot_on e h43 (by decide); clear h74; have h75 := g75; clear g75; clear e
    have Y : (execOp a123.eval o10_20_5).run Try.prog w116 = .ok (.value (.agg #[.int .i64 4, .string (str nm), .int .i64 0, .slice sa ps.length sc])) w116 := by have qq0 : w116.cell? ⟨b80, 0, none⟩ = some (.int .i64 4) := B80.cell 0; have qq1 : w116.cell? ⟨b80, 1, none⟩ = some (.string (str nm)) := B80.cell 1; have qq2 : w116.cell? ⟨b80, 2, none⟩ = some (.int .i64 0) := B80.cell 2; have qq3 : w116.cell? ⟨b80, 3, none⟩ = some (.slice sa ps.length sc) := B80.cell 3; unfold o10_20_5; go_simp
    refine st_val g10_20_5 rfl (wanted_is (j := 4) (d := 75) rfl rfl h75 rfl) Y fun a125 e => ?_; clear Y
    have g76 := R.at_ e (by decide); replace R := R.put e; replace h5 := slot_on e h5 (by decide); replace h6 := slot_on e h6 (by decide); replace h7 := slot_on e h7 (by decide); replace h8 := slot_on e h8 (by decide); replace h9 := slot_on e h9 (by decide); replace h10 := slot_on e h10 (by decide); replace h40 := slot_on e h40 (by decide); replace h41 := slot_on e h41 (by decide); replace h42 := slot_on e h42 (by decide); replace h43 := slot_on e h43 (by decide); replace h75 := slot_on e h75 (by decide); have h76 := g76; clear g76; clear e
    have Y : (execOp a125.eval o10_20_6).run Try.prog w116 = .ok (.enter 17 #[.agg #[.int .i64 4, .string (str nm), .int .i64 0, .slice sa ps.length sc]]) w116 := by unfold o10_20_6; go_simp
    have hcn := depth_sx (z := (dpA (ps.map (·.1)) j : Int) + 1) (HNT.out.on K1) (by rw [HC.out.2.1, HJ.out, List.length_map])
    simp only [tv, Tm.k, Tm.nm, Tm.i, Tm.args, List.length_map] at hcn
    refine st_call g10_20_6 rfl (wanted_is (j := 4) (d := 75) rfl rfl h75 rfl) Y ((hcn).mono ?_); clear Y
    rintro e9 w127 ⟨rfl, kk⟩
    replace K1 := keep_onto K1 kk
    replace KR := keep_onto KR kk
    replace B63 := blk_on B63 kk
    replace B80 := blk_on B80 kk
    clear kk
    clear hcn
    refine ⟨_, rfl, fun a128 e => ?_⟩
    have g77 := R.at_ e (by decide); replace R := R.put e; replace h5 := slot_on e h5 (by decide); replace h6 := slot_on e h6 (by decide); replace h7 := slot_on e h7 (by decide); replace h8 := slot_on e h8 (by decide); replace h9 := slot_on e h9 (by decide); replace h10 := slot_on e h10 (by decide); replace h40 := slot_on e h40 (by decide); replace h41 := slot_on e h41 (by decide); replace h42 := slot_on e h42 (by decide); replace h43 := slot_on e h43 (by decide); replace h75 := slot_on e h75 (by decide); clear h76; have h77 := g77; clear g77; clear e
    have Y : (execOp a128.eval o10_20_7).run Try.prog w127 = .ok (.value (.int .i64 (dpA (ps.map (·.1)) j : Int))) w127 := by unfold o10_20_7; go_simp
    refine st_val g10_20_7 rfl (wanted_is (j := 4) (d := 75) rfl rfl h75 rfl) Y fun a130 e => ?_; clear Y
    have g78 := R.at_ e (by decide); replace R := R.put e; replace h5 := slot_on e h5 (by decide); replace h6 := slot_on e h6 (by decide); replace h7 := slot_on e h7 (by decide); replace h8 := slot_on e h8 (by decide); replace h9 := slot_on e h9 (by decide); replace h10 := slot_on e h10 (by decide); replace h40 := slot_on e h40 (by decide); replace h41 := slot_on e h41 (by decide); replace h42 := slot_on e h42 (by decide); replace h43 := slot_on e h43 (by decide); replace h75 := slot_on e h75 (by decide); replace h77 := slot_on e h77 (by decide); have h78 := g78; clear g78; clear e
    have Y : (execOp a130.eval o10_20_8).run Try.prog w127 = .ok (.value (.int .i64 ((dpA (ps.map (·.1)) j : Int) + 1))) w127 := by have h1 := Nat.le_trans (dpA_mono (show j ≤ (ps.map (·.1)).length by rw [List.length_map]; exact hj)) HC.out.2.2.2.2.2.2; have hw : IntKind.i64.wrap ((dpA (ps.map (·.1)) j : Int) + 1) = (dpA (ps.map (·.1)) j : Int) + 1 := (by rw [IntKind.wrap_i64]; omega); clear h1; unfold o10_20_8; go_simp
    refine st_val g10_20_8 rfl (wanted_is (j := 4) (d := 75) rfl rfl h75 rfl) Y fun a132 e => ?_; clear Y
    have g79 := R.at_ e (by decide); replace R := R.put e; replace h5 := slot_on e h5 (by decide); replace h6 := slot_on e h6 (by decide); replace h7 := slot_on e h7 (by decide); replace h8 := slot_on e h8 (by decide); replace h9 := slot_on e h9 (by decide); replace h10 := slot_on e h10 (by decide); replace h40 := slot_on e h40 (by decide); replace h41 := slot_on e h41 (by decide); replace h42 := slot_on e h42 (by decide); replace h43 := slot_on e h43 (by decide); replace h75 := slot_on e h75 (by decide); replace h77 := slot_on e h77 (by decide); clear h78; have h79 := g79; clear g79; clear e
    have Y : (execOp a132.eval o10_20_9).run Try.prog w127 = .ok (.value (.bool false)) w127 := by unfold o10_20_9; go_simp
    refine st_val g10_20_9 rfl (wanted_is (j := 4) (d := 75) rfl rfl h75 rfl) Y fun a134 e => ?_; clear Y
    have g80 := R.at_ e (by decide); replace R := R.put e; replace h5 := slot_on e h5 (by decide); replace h6 := slot_on e h6 (by decide); replace h7 := slot_on e h7 (by decide); replace h8 := slot_on e h8 (by decide); replace h9 := slot_on e h9 (by decide); replace h10 := slot_on e h10 (by decide); replace h40 := slot_on e h40 (by decide); replace h41 := slot_on e h41 (by decide); replace h42 := slot_on e h42 (by decide); replace h43 := slot_on e h43 (by decide); replace h75 := slot_on e h75 (by decide); clear h77 h79; have h80 := g80; clear g80; clear e
    have Y : (execOp a134.eval o10_20_10).run Try.prog w127 = .ok (.value (.bool false)) w127 := by unfold o10_20_10; go_simp
    refine st_val g10_20_10 rfl (wanted_free rfl) Y fun a136 e => ?_; clear Y
    have g81 := R.at_ e (by decide); replace R := R.put e; replace h5 := slot_on e h5 (by decide); replace h6 := slot_on e h6 (by decide); replace h7 := slot_on e h7 (by decide); replace h8 := slot_on e h8 (by decide); replace h9 := slot_on e h9 (by decide); replace h10 := slot_on e h10 (by decide); replace h40 := slot_on e h40 (by decide); replace h41 := slot_on e h41 (by decide); replace h42 := slot_on e h42 (by decide); replace h43 := slot_on e h43 (by decide); clear h75 h80; have h81 := g81; clear g81; clear e
    have Y : (execOp a136.eval o10_20_11).run Try.prog w127 = .ok (.value (.bool false)) w127 := by unfold o10_20_11; go_simp
    refine st_val g10_20_11 rfl (wanted_free rfl) Y fun a138 e => ?_; clear Y
    have g82 := R.at_ e (by decide); replace R := R.put e; replace h5 := slot_on e h5 (by decide); replace h6 := slot_on e h6 (by decide); replace h7 := slot_on e h7 (by decide); replace h8 := slot_on e h8 (by decide); replace h9 := slot_on e h9 (by decide); replace h10 := slot_on e h10 (by decide); replace h40 := slot_on e h40 (by decide); replace h41 := slot_on e h41 (by decide); replace h42 := slot_on e h42 (by decide); replace h43 := slot_on e h43 (by decide); clear h81; have h82 := g82; clear g82; clear e
    have Y : (execOp a138.eval o10_20_12).run Try.prog w127 = .ok (.value (.agg #[.int .i64 4, .string (str nm), .int .i64 0, .slice sa ps.length sc])) w127 := by have qq0 : w127.cell? ⟨b80, 0, none⟩ = some (.int .i64 4) := B80.cell 0; have qq1 : w127.cell? ⟨b80, 1, none⟩ = some (.string (str nm)) := B80.cell 1; have qq2 : w127.cell? ⟨b80, 2, none⟩ = some (.int .i64 0) := B80.cell 2; have qq3 : w127.cell? ⟨b80, 3, none⟩ = some (.slice sa ps.length sc) := B80.cell 3; unfold o10_20_12; go_simp
    refine st_val g10_20_12 rfl (wanted_is (j := 11) (d := 82) rfl rfl h82 rfl) Y fun a140 e => ?_; clear Y
    have g83 := R.at_ e (by decide); replace R := R.put e; replace h5 := slot_on e h5 (by decide); replace h6 := slot_on e h6 (by decide); replace h7 := slot_on e h7 (by decide); replace h8 := slot_on e h8 (by decide); replace h9 := slot_on e h9 (by decide); replace h10 := slot_on e h10 (by decide); replace h40 := slot_on e h40 (by decide); replace h41 := slot_on e h41 (by decide); replace h42 := slot_on e h42 (by decide); replace h43 := slot_on e h43 (by decide); replace h82 := slot_on e h82 (by decide); have h83 := g83; clear g83; clear e
    have Y : (execOp a140.eval o10_20_13).run Try.prog w127 = .ok (.enter 18 #[.agg #[.int .i64 4, .string (str nm), .int .i64 0, .slice sa ps.length sc]]) w127 := by unfold o10_20_13; go_simp
    have hcn := vars_sx (l := vaA (ps.map (·.1)) j) (L := (vaA (ps.map (·.1)) j).length) (HNT.out.on K1) (by rw [HC.out.2.2.1, HJ.out, List.length_map]) rfl
    simp only [tv, Tm.k, Tm.nm, Tm.i, Tm.args, List.length_map] at hcn
    refine st_call g10_20_13 rfl (wanted_is (j := 11) (d := 82) rfl rfl h82 rfl) Y ((hcn).mono ?_); clear Y
    rintro e9 w142 ⟨gb, ub, uc, rfl, hvr, kk⟩
    replace K1 := keep_onto K1 kk
    replace KR := keep_onto KR kk
    replace B63 := blk_on B63 kk
    replace B80 := blk_on B80 kk
    clear kk
    clear hcn
    refine ⟨_, rfl, fun a143 e => ?_⟩
    have g84 := R.at_ e (by decide); replace R := R.put e; replace h5 := slot_on e h5 (by decide); replace h6 := slot_on e h6 (by decide); replace h7 := slot_on e h7 (by decide); replace h8 := slot_on e h8 (by decide); replace h9 := slot_on e h9 (by decide); replace h10 := slot_on e h10 (by decide); replace h40 := slot_on e h40 (by decide); replace h41 := slot_on e h41 (by decide); replace h42 := slot_on e h42 (by decide); replace h43 := slot_on e h43 (by decide); replace h82 := slot_on e h82 (by decide); clear h83; have h84 := g84; clear g84; clear e
    have Y : (execOp a143.eval o10_20_14).run Try.prog w142 = .ok (.value (.slice ra ((vaA (ps.map (·.1)) j).length) rc)) w142 := by unfold o10_20_14; go_simp
    refine st_val g10_20_14 rfl (wanted_is (j := 11) (d := 82) rfl rfl h82 rfl) Y fun a145 e => ?_; clear Y
    have g85 := R.at_ e (by decide); replace R := R.put e; replace h5 := slot_on e h5 (by decide); replace h6 := slot_on e h6 (by decide); replace h7 := slot_on e h7 (by decide); replace h8 := slot_on e h8 (by decide); replace h9 := slot_on e h9 (by decide); replace h10 := slot_on e h10 (by decide); replace h40 := slot_on e h40 (by decide); replace h41 := slot_on e h41 (by decide); replace h42 := slot_on e h42 (by decide); replace h43 := slot_on e h43 (by decide); replace h82 := slot_on e h82 (by decide); replace h84 := slot_on e h84 (by decide); have h85 := g85; clear g85; clear e
    have Y : (execOp a145.eval o10_20_15).run Try.prog w142 = .ok (.enter 24 #[.slice ub ((vaA (ps.map (·.1)) j).length) uc, .slice ra ((vaA (ps.map (·.1)) j).length) rc]) w142 := by unfold o10_20_15; go_simp
    refine st_call g10_20_15 rfl (wanted_is (j := 11) (d := 82) rfl rfl h82 rfl) Y ((samelongs_sx (fun h => ⟨(hvr.1 h).1, (hvr.1 h).2.2⟩) hvr.2 (fun k hk => by obtain ⟨b7, o7, e7, l7, c7⟩ := HLG.out k hk; exact ⟨b7, o7, e7, Nat.lt_of_lt_of_le l7 KR.size, cell_on c7 KR⟩) (by have := HVB.out j hj; omega)).mono ?_); clear Y
    rintro e9 w147 ⟨rfl, kk⟩
    replace K1 := keep_onto K1 kk
    replace KR := keep_onto KR kk
    replace B63 := blk_on B63 kk
    replace B80 := blk_on B80 kk
    clear kk
    clear hvr
    refine ⟨_, rfl, fun a148 e => ?_⟩
    have g86 := R.at_ e (by decide); replace R := R.put e; replace h5 := slot_on e h5 (by decide); replace h6 := slot_on e h6 (by decide); replace h7 := slot_on e h7 (by decide); replace h8 := slot_on e h8 (by decide); replace h9 := slot_on e h9 (by decide); replace h10 := slot_on e h10 (by decide); replace h40 := slot_on e h40 (by decide); replace h41 := slot_on e h41 (by decide); replace h42 := slot_on e h42 (by decide); replace h43 := slot_on e h43 (by decide); replace h82 := slot_on e h82 (by decide); clear h84 h85; have h86 := g86; clear g86; clear e
    have Y : (execOp a148.eval o10_20_16).run Try.prog w147 = .ok (.value (.bool false)) w147 := by unfold o10_20_16; go_simp
    refine st_val g10_20_16 rfl (wanted_is (j := 11) (d := 82) rfl rfl h82 rfl) Y fun a150 e => ?_; clear Y
    have g87 := R.at_ e (by decide); replace R := R.put e; replace h5 := slot_on e h5 (by decide); replace h6 := slot_on e h6 (by decide); replace h7 := slot_on e h7 (by decide); replace h8 := slot_on e h8 (by decide); replace h9 := slot_on e h9 (by decide); replace h10 := slot_on e h10 (by decide); replace h40 := slot_on e h40 (by decide); replace h41 := slot_on e h41 (by decide); replace h42 := slot_on e h42 (by decide); replace h43 := slot_on e h43 (by decide); replace h82 := slot_on e h82 (by decide); clear h86; have h87 := g87; clear g87; clear e
    have Y : (execOp a150.eval o10_20_17).run Try.prog w147 = .ok (.value (.bool false)) w147 := by unfold o10_20_17; go_simp
    refine st_val g10_20_17 rfl (wanted_free rfl) Y fun a152 e => ?_; clear Y
    have g88 := R.at_ e (by decide); replace R := R.put e; replace h5 := slot_on e h5 (by decide); replace h6 := slot_on e h6 (by decide); replace h7 := slot_on e h7 (by decide); replace h8 := slot_on e h8 (by decide); replace h9 := slot_on e h9 (by decide); replace h10 := slot_on e h10 (by decide); replace h40 := slot_on e h40 (by decide); replace h41 := slot_on e h41 (by decide); replace h42 := slot_on e h42 (by decide); replace h43 := slot_on e h43 (by decide); clear h82 h87; have h88 := g88; clear g88; clear e
    refine st_end ?_
    change (c10_67).wp _ _ _ _
    refine wp_cond_false (x := c10_68) (y := Code.skip) (eval_slot h88) ?_
    refine wp_skip ?_
    change (c10_72).wp _ _ _ _
    refine wp_seq (x := c10_73) (y := c10_80) ?_
    refine wp_seq (x := c10_74) (y := c10_75) ?_
    change (Code.region 22 O10_22 false).wp _ _ _ _
    refine reg_in (l := [0, 1, 2, 3, 4, 5, 6, 7]) rfl ?_
    have Y : (execOp a152.eval o10_22_0).run Try.prog w147 = .ok (.value (.slice ra ((vaA (ps.map (·.1)) j).length) rc)) w147 := by unfold o10_22_0; go_simp
    refine st_val g10_22_0 rfl (wanted_free rfl) Y fun a154 e => ?_; clear Y
    have g89 := R.at_ e (by decide); replace R := R.put e; replace h5 := slot_on e h5 (by decide); replace h6 := slot_on e h6 (by decide); replace h7 := slot_on e h7 (by decide); replace h8 := slot_on e h8 (by decide); replace h9 := slot_on e h9 (by decide); replace h10 := slot_on e h10 (by decide); replace h40 := slot_on e h40 (by decide); replace h41 := slot_on e h41 (by decide); replace h42 := slot_on e h42 (by decide); replace h43 := slot_on e h43 (by decide); clear h88; have h89 := g89; clear g89; clear e
    have Y : (execOp a154.eval o10_22_1).run Try.prog w147 = .ok (.value (.int .i64 ((vaA (ps.map (·.1)) j).length))) w147 := by unfold o10_22_1; go_simp
    refine st_val g10_22_1 rfl (wanted_free rfl) Y fun a156 e => ?_; clear Y
    have g90 := R.at_ e (by decide); replace R := R.put e; replace h5 := slot_on e h5 (by decide); replace h6 := slot_on e h6 (by decide); replace h7 := slot_on e h7 (by decide); replace h8 := slot_on e h8 (by decide); replace h9 := slot_on e h9 (by decide); replace h10 := slot_on e h10 (by decide); replace h40 := slot_on e h40 (by decide); replace h41 := slot_on e h41 (by decide); replace h42 := slot_on e h42 (by decide); replace h43 := slot_on e h43 (by decide); clear h89; have h90 := g90; clear g90; clear e
    obtain ⟨b158, hb158⟩ : ∃ x, ((((vaA (ps.map (·.1)) j).length : Int) == (0 : Int))) = x := ⟨_, rfl⟩
    have Y : (execOp a156.eval o10_22_2).run Try.prog w147 = .ok (.value (.bool b158)) w147 := by rw [← hb158]; unfold o10_22_2; go_simp
    refine st_val g10_22_2 rfl (wanted_free rfl) Y fun a159 e => ?_; clear Y
    have g91 := R.at_ e (by decide); replace R := R.put e; replace h5 := slot_on e h5 (by decide); replace h6 := slot_on e h6 (by decide); replace h7 := slot_on e h7 (by decide); replace h8 := slot_on e h8 (by decide); replace h9 := slot_on e h9 (by decide); replace h10 := slot_on e h10 (by decide); replace h40 := slot_on e h40 (by decide); replace h41 := slot_on e h41 (by decide); replace h42 := slot_on e h42 (by decide); replace h43 := slot_on e h43 (by decide); clear h90; have h91 := g91; clear g91; clear e
    have Y : (execOp a159.eval o10_22_3).run Try.prog w147 = .ok (.value (.bool b158)) w147 := by unfold o10_22_3; go_simp
    refine st_val g10_22_3 rfl (wanted_free rfl) Y fun a161 e => ?_; clear Y
    have g92 := R.at_ e (by decide); replace R := R.put e; replace h5 := slot_on e h5 (by decide); replace h6 := slot_on e h6 (by decide); replace h7 := slot_on e h7 (by decide); replace h8 := slot_on e h8 (by decide); replace h9 := slot_on e h9 (by decide); replace h10 := slot_on e h10 (by decide); replace h40 := slot_on e h40 (by decide); replace h41 := slot_on e h41 (by decide); replace h42 := slot_on e h42 (by decide); replace h43 := slot_on e h43 (by decide); clear h91; have h92 := g92; clear g92; clear e
    cases b158 with
    | false =>
      have fb158 := hb158; clear hb158
      simp only [decide_eq_true_eq, decide_eq_false_iff_not, bne_iff_ne, bne_eq_false_iff_eq, beq_iff_eq, beq_eq_false_iff_ne, ne_eq, Bool.not_eq_true', Bool.not_eq_false', Bool.not_eq_eq_eq_not, Bool.not_true, Bool.not_false] at fb158
      have Y : (execOp a161.eval o10_22_4).run Try.prog w147 = .ok (.value (.agg #[.int .i64 v.k, .string (str v.nm), .int .i64 v.i, .slice va v.args.length vc])) w147 := by have qq0 : w147.cell? ⟨b63, 0, none⟩ = some (.int .i64 v.k) := B63.cell 0; have qq1 : w147.cell? ⟨b63, 1, none⟩ = some (.string (str v.nm)) := B63.cell 1; have qq2 : w147.cell? ⟨b63, 2, none⟩ = some (.int .i64 v.i) := B63.cell 2; have qq3 : w147.cell? ⟨b63, 3, none⟩ = some (.slice va v.args.length vc) := B63.cell 3; unfold o10_22_4; go_simp
      refine st_val g10_22_4 rfl (wanted_is (j := 3) (d := 92) rfl rfl h92 rfl) Y fun a163 e => ?_; clear Y
      have g93 := R.at_ e (by decide); replace R := R.put e; replace h5 := slot_on e h5 (by decide); replace h6 := slot_on e h6 (by decide); replace h7 := slot_on e h7 (by decide); replace h8 := slot_on e h8 (by decide); replace h9 := slot_on e h9 (by decide); replace h10 := slot_on e h10 (by decide); replace h40 := slot_on e h40 (by decide); replace h41 := slot_on e h41 (by decide); replace h42 := slot_on e h42 (by decide); replace h43 := slot_on e h43 (by decide); replace h92 := slot_on e h92 (by decide); have h93 := g93; clear g93; clear e
      have Y : (execOp a163.eval o10_22_5).run Try.prog w147 = .ok (.enter 15 #[.agg #[.int .i64 v.k, .string (str v.nm), .int .i64 v.i, .slice va v.args.length vc]]) w147 := by unfold o10_22_5; go_simp
      obtain ⟨ev, hev⟩ : ∃ z : Int, (if v.right = true then (0 : Int) else 70) = z := ⟨_, rfl⟩
      refine st_call g10_22_5 rfl (wanted_is (j := 3) (d := 92) rfl rfl h92 rfl) Y ((check_sx (HV.out.on K1) hev).mono ?_); clear Y
      rintro e9 w165 ⟨rfl, kk⟩
      replace K1 := keep_onto K1 kk
      replace KR := keep_onto KR kk
      replace B63 := blk_on B63 kk
      replace B80 := blk_on B80 kk
      clear kk
      have HEV := Lib.hid hev; clear hev
      refine ⟨_, rfl, fun a166 e => ?_⟩
      have g94 := R.at_ e (by decide); replace R := R.put e; replace h5 := slot_on e h5 (by decide); replace h6 := slot_on e h6 (by decide); replace h7 := slot_on e h7 (by decide); replace h8 := slot_on e h8 (by decide); replace h9 := slot_on e h9 (by decide); replace h10 := slot_on e h10 (by decide); replace h40 := slot_on e h40 (by decide); replace h41 := slot_on e h41 (by decide); replace h42 := slot_on e h42 (by decide); replace h43 := slot_on e h43 (by decide); replace h92 := slot_on e h92 (by decide); clear h93; have h94 := g94; clear g94; clear e
      obtain ⟨b168, hb168⟩ : ∃ x, (((ev : Int) != (0 : Int))) = x := ⟨_, rfl⟩
      have Y : (execOp a166.eval o10_22_6).run Try.prog w165 = .ok (.value (.bool b168)) w165 := by rw [← hb168]; unfold o10_22_6; go_simp
      refine st_val g10_22_6 rfl (wanted_is (j := 3) (d := 92) rfl rfl h92 rfl) Y fun a169 e => ?_; clear Y
      have g95 := R.at_ e (by decide); replace R := R.put e; replace h5 := slot_on e h5 (by decide); replace h6 := slot_on e h6 (by decide); replace h7 := slot_on e h7 (by decide); replace h8 := slot_on e h8 (by decide); replace h9 := slot_on e h9 (by decide); replace h10 := slot_on e h10 (by decide); replace h40 := slot_on e h40 (by decide); replace h41 := slot_on e h41 (by decide); replace h42 := slot_on e h42 (by decide); replace h43 := slot_on e h43 (by decide); replace h92 := slot_on e h92 (by decide); clear h94; have h95 := g95; clear g95; clear e
      have Y : (execOp a169.eval o10_22_7).run Try.prog w165 = .ok (.value (.bool b168)) w165 := by unfold o10_22_7; go_simp
      refine st_val g10_22_7 rfl (wanted_free rfl) Y fun a171 e => ?_; clear Y
      have g96 := R.at_ e (by decide); replace R := R.put e; replace h5 := slot_on e h5 (by decide); replace h6 := slot_on e h6 (by decide); replace h7 := slot_on e h7 (by decide); replace h8 := slot_on e h8 (by decide); replace h9 := slot_on e h9 (by decide); replace h10 := slot_on e h10 (by decide); replace h40 := slot_on e h40 (by decide); replace h41 := slot_on e h41 (by decide); replace h42 := slot_on e h42 (by decide); replace h43 := slot_on e h43 (by decide); clear h92 h95; have h96 := g96; clear g96; clear e
      refine st_end ?_
      change (c10_75).wp _ _ _ _
      cases b168 with
      | false =>
        have fb168 := hb168; clear hb168
        simp only [decide_eq_true_eq, decide_eq_false_iff_not, bne_iff_ne, bne_eq_false_iff_eq, beq_iff_eq, beq_eq_false_iff_ne, ne_eq, Bool.not_eq_true', Bool.not_eq_false', Bool.not_eq_eq_eq_not, Bool.not_true, Bool.not_false] at fb168
        refine wp_cond_false (x := c10_76) (y := Code.skip) (eval_slot h96) ?_
        refine wp_skip ?_
        change (c10_80).wp _ _ _ _
        refine wp_seq (x := c10_81) (y := c10_82) ?_
        change (Code.region 24 O10_24 true).wp _ _ _ _
        have D175 := B63
        have D176 := B80
        have K173 := (Keep.refl (fun g => g < w165.heap.size) w165).drew
        have EK1 := K1
        have EKR := KR
        refine dr_in (S := (fun W => Keep (fun g => g < w165.heap.size) w165 W)) (n := 14) (l := #[false, false, false, false, false, false, false, false, false, false, false, false, false, false]) (by kernel_rfl) K173 rfl rfl ?_
        replace K1 := K1.drew
        replace KR := KR.drew
        replace B63 := B63.drew
        replace B80 := B80.drew
        generalize w165.drew = w174 at K173 K1 KR B63 B80 ⊢
        have Y : ∀ W, Keep (fun g => g < w165.heap.size) w165 W → (execOp a171.eval o10_24_0).run Try.prog W = .ok (.value (.agg #[.int .i64 4, .string (str nm), .int .i64 0, .slice sa ps.length sc])) W := by intro W7 hS; have D := D176.keep hS D176.lt; have qq0 : W7.cell? ⟨b80, 0, none⟩ = some (.int .i64 4) := D.cell 0; have qq1 : W7.cell? ⟨b80, 1, none⟩ = some (.string (str nm)) := D.cell 1; have qq2 : W7.cell? ⟨b80, 2, none⟩ = some (.int .i64 0) := D.cell 2; have qq3 : W7.cell? ⟨b80, 3, none⟩ = some (.slice sa ps.length sc) := D.cell 3; unfold o10_24_0; go_simp
        refine dr_take (i := 0) (fuel := 13) (l' := #[true, false, false, false, false, false, false, false, false, false, false, false, false, false]) g10_24_0 rfl ns10_24 (by kernel_rfl) (by kernel_rfl) rfl (wanted_free rfl) K173 Y fun a177 e => ?_; clear Y
        have g98 := R.at_ e (by decide); replace R := R.put e; replace h5 := slot_on e h5 (by decide); replace h6 := slot_on e h6 (by decide); replace h8 := slot_on e h8 (by decide); replace h9 := slot_on e h9 (by decide); replace h10 := slot_on e h10 (by decide); replace h40 := slot_on e h40 (by decide); replace h41 := slot_on e h41 (by decide); replace h42 := slot_on e h42 (by decide); replace h43 := slot_on e h43 (by decide); clear h7 h96; have h98 := g98; clear g98; clear e
        have Y : ∀ W, Keep (fun g => g < w165.heap.size) w165 W → (execOp a177.eval o10_24_1).run Try.prog W = .ok (.value (.slice ra ((vaA (ps.map (·.1)) j).length) rc)) W := by intro W7 hS; unfold o10_24_1; go_simp
        refine dr_take (i := 1) (fuel := 12) (l' := #[true, true, false, false, false, false, false, false, false, false, false, false, false, false]) g10_24_1 rfl ns10_24 (by kernel_rfl) (by kernel_rfl) rfl (wanted_free rfl) K173 Y fun a179 e => ?_; clear Y
        have g99 := R.at_ e (by decide); replace R := R.put e; replace h5 := slot_on e h5 (by decide); replace h6 := slot_on e h6 (by decide); replace h8 := slot_on e h8 (by decide); replace h9 := slot_on e h9 (by decide); replace h10 := slot_on e h10 (by decide); replace h40 := slot_on e h40 (by decide); replace h41 := slot_on e h41 (by decide); replace h42 := slot_on e h42 (by decide); replace h43 := slot_on e h43 (by decide); replace h98 := slot_on e h98 (by decide); have h99 := g99; clear g99; clear e
        have Y : ∀ W, Keep (fun g => g < w165.heap.size) w165 W → (execOp a179.eval o10_24_4).run Try.prog W = .ok (.value (.agg #[.int .i64 v.k, .string (str v.nm), .int .i64 v.i, .slice va v.args.length vc])) W := by intro W7 hS; have D := D175.keep hS D175.lt; have qq0 : W7.cell? ⟨b63, 0, none⟩ = some (.int .i64 v.k) := D.cell 0; have qq1 : W7.cell? ⟨b63, 1, none⟩ = some (.string (str v.nm)) := D.cell 1; have qq2 : W7.cell? ⟨b63, 2, none⟩ = some (.int .i64 v.i) := D.cell 2; have qq3 : W7.cell? ⟨b63, 3, none⟩ = some (.slice va v.args.length vc) := D.cell 3; unfold o10_24_4; go_simp
        refine dr_take (i := 4) (fuel := 11) (l' := #[true, true, false, false, true, false, false, false, false, false, false, false, false, false]) g10_24_4 rfl ns10_24 (by kernel_rfl) (by kernel_rfl) rfl (wanted_free rfl) K173 Y fun a181 e => ?_; clear Y
        have g102 := R.at_ e (by decide); replace R := R.put e; replace h5 := slot_on e h5 (by decide); replace h6 := slot_on e h6 (by decide); replace h8 := slot_on e h8 (by decide); replace h9 := slot_on e h9 (by decide); replace h10 := slot_on e h10 (by decide); replace h40 := slot_on e h40 (by decide); replace h41 := slot_on e h41 (by decide); replace h42 := slot_on e h42 (by decide); replace h43 := slot_on e h43 (by decide); replace h98 := slot_on e h98 (by decide); replace h99 := slot_on e h99 (by decide); have h102 := g102; clear g102; clear e
        refine dr_two (i := 2) (k := 11) (fuel := 10) (by kernel_rfl) ?_ ?_
        ·
          have hev := HEV.out
          have HRV : Hid (v.right = true) := Lib.hid (by cases hr : v.right with | true => rfl | false => rw [hr, if_neg (by decide)] at hev; omega)
          have hl0 : 0 < (vaA (ps.map (·.1)) j).length := by omega
          obtain ⟨g6, o6, hra, hg6, hc6⟩ := HLG.out 0 hl0
          obtain ⟨y, hy⟩ : ∃ y, (vaA (ps.map (·.1)) j).getD 0 0 = y := ⟨_, rfl⟩
          rw [hy] at hc6; clear hev
          have hlt6 : (0 : Int) < ((vaA (ps.map (·.1)) j).length : Int) := by omega
          have Y : (execOp a181.eval o10_24_2).run Try.prog w174 = .ok (.value (.pointer (some ⟨g6, o6, none⟩))) w174 := by unfold o10_24_2; go_simp
          refine dr_val (l' := #[true, true, true, false, true, false, false, false, false, false, false, false, false, false]) g10_24_2 rfl rfl (wanted_free rfl) Y K173 fun a183 e => ?_; clear Y
          have g100 := R.at_ e (by decide); replace R := R.put e; replace h5 := slot_on e h5 (by decide); replace h6 := slot_on e h6 (by decide); replace h8 := slot_on e h8 (by decide); replace h9 := slot_on e h9 (by decide); replace h10 := slot_on e h10 (by decide); replace h40 := slot_on e h40 (by decide); replace h41 := slot_on e h41 (by decide); replace h42 := slot_on e h42 (by decide); replace h43 := slot_on e h43 (by decide); replace h98 := slot_on e h98 (by decide); replace h102 := slot_on e h102 (by decide); clear h99; have h100 := g100; clear g100; clear e
          have Y : ∀ W, Keep (fun g => g < w165.heap.size) w165 W → (execOp a183.eval o10_24_3).run Try.prog W = .ok (.value (.int .i64 y)) W := by intro W7 hS; rw [Nat.add_zero] at hc6; have hc7 := cell_on (cell_on hc6 EKR) hS; unfold o10_24_3; go_simp
          refine dr_take (i := 3) (fuel := 9) (l' := #[true, true, true, true, true, false, false, false, false, false, false, false, false, false]) g10_24_3 rfl ns10_24 (by kernel_rfl) (by kernel_rfl) rfl (wanted_free rfl) K173 Y fun a185 e => ?_; clear Y
          have g101 := R.at_ e (by decide); replace R := R.put e; replace h5 := slot_on e h5 (by decide); replace h6 := slot_on e h6 (by decide); replace h8 := slot_on e h8 (by decide); replace h9 := slot_on e h9 (by decide); replace h10 := slot_on e h10 (by decide); replace h40 := slot_on e h40 (by decide); replace h41 := slot_on e h41 (by decide); replace h42 := slot_on e h42 (by decide); replace h43 := slot_on e h43 (by decide); replace h98 := slot_on e h98 (by decide); replace h102 := slot_on e h102 (by decide); clear h100; have h101 := g101; clear g101; clear e
          refine dr_two (i := 5) (k := 11) (fuel := 8) (by kernel_rfl) ?_ ?_
          ·
            have Y : (execOp a185.eval o10_24_5).run Try.prog w174 = .ok (.value (.agg #[.int .i64 y, .int .i64 v.k, .string (str v.nm), .int .i64 v.i, .slice va v.args.length vc])) w174 := by unfold o10_24_5; go_simp
            refine dr_val (l' := #[true, true, true, true, true, true, false, false, false, false, false, false, false, false]) g10_24_5 rfl rfl (wanted_free rfl) Y K173 fun a187 e => ?_; clear Y
            have g103 := R.at_ e (by decide); replace R := R.put e; replace h5 := slot_on e h5 (by decide); replace h6 := slot_on e h6 (by decide); replace h8 := slot_on e h8 (by decide); replace h9 := slot_on e h9 (by decide); replace h10 := slot_on e h10 (by decide); replace h40 := slot_on e h40 (by decide); replace h41 := slot_on e h41 (by decide); replace h42 := slot_on e h42 (by decide); replace h43 := slot_on e h43 (by decide); replace h98 := slot_on e h98 (by decide); clear h101 h102; have h103 := g103; clear g103; clear e
            refine dr_two (i := 6) (k := 11) (fuel := 7) (by kernel_rfl) ?_ ?_
            ·
              have MK1 := K1
              have MKR := KR
              have MK173 := K173
              have Y : (execOp a187.eval o10_24_6).run Try.prog w174 = .ok (.value (.slice (some ⟨w174.heap.size, 0, none⟩) 1 1)) (w174.alloc (.cells #[.int .i64 y, .int .i64 v.k, .string (str v.nm), .int .i64 v.i, .slice va v.args.length vc] 41)) := by unfold o10_24_6; go_simp
              have B189 := Blk.new w174 41 #[.int .i64 y, .int .i64 v.k, .string (str v.nm), .int .i64 v.i, .slice va v.args.length vc]
              replace K1 := K1.alloc (.cells #[.int .i64 y, .int .i64 v.k, .string (str v.nm), .int .i64 v.i, .slice va v.args.length vc] 41)
              replace KR := KR.alloc (.cells #[.int .i64 y, .int .i64 v.k, .string (str v.nm), .int .i64 v.i, .slice va v.args.length vc] 41)
              replace K173 := K173.alloc (.cells #[.int .i64 y, .int .i64 v.k, .string (str v.nm), .int .i64 v.i, .slice va v.args.length vc] 41)
              have Nb63_b189 := Nat.ne_of_lt B63.lt; replace B63 := B63.alloc (.cells #[.int .i64 y, .int .i64 v.k, .string (str v.nm), .int .i64 v.i, .slice va v.args.length vc] 41)
              have Nb80_b189 := Nat.ne_of_lt B80.lt; replace B80 := B80.alloc (.cells #[.int .i64 y, .int .i64 v.k, .string (str v.nm), .int .i64 v.i, .slice va v.args.length vc] 41)
              obtain ⟨w190, hw190⟩ : ∃ x, x = w174.alloc (.cells #[.int .i64 y, .int .i64 v.k, .string (str v.nm), .int .i64 v.i, .slice va v.args.length vc] 41) := ⟨_, rfl⟩
              rw [← hw190] at Y B189 K1 KR K173 B63 B80
              obtain ⟨b189, hb189⟩ : ∃ x, x = w174.heap.size := ⟨_, rfl⟩
              rw [← hb189] at Y B189 Nb63_b189 Nb80_b189
              have LK1_b189 : W.heap.size ≤ b189 := by rw [hb189]; first | exact Nat.le_refl _ | exact MK1.size
              have LKR_b189 : wr.heap.size ≤ b189 := by rw [hb189]; first | exact Nat.le_refl _ | exact MKR.size
              have LK173_b189 : w165.heap.size ≤ b189 := by rw [hb189]; first | exact Nat.le_refl _ | exact MK173.size
              clear hw190 hb189 MK1 MKR MK173
              refine dr_val (l' := #[true, true, true, true, true, true, true, false, false, false, false, false, false, false]) g10_24_6 rfl rfl (wanted_free rfl) Y K173 fun a191 e => ?_; clear Y
              have g104 := R.at_ e (by decide); replace R := R.put e; replace h5 := slot_on e h5 (by decide); replace h6 := slot_on e h6 (by decide); replace h8 := slot_on e h8 (by decide); replace h9 := slot_on e h9 (by decide); replace h10 := slot_on e h10 (by decide); replace h40 := slot_on e h40 (by decide); replace h41 := slot_on e h41 (by decide); replace h42 := slot_on e h42 (by decide); replace h43 := slot_on e h43 (by decide); replace h98 := slot_on e h98 (by decide); clear h103; have h104 := g104; clear g104; clear e
              refine dr_two (i := 7) (k := 11) (fuel := 6) (by kernel_rfl) ?_ ?_
              ·
                have Y : (execOp a191.eval o10_24_7).run Try.prog w190 = .ok (.enter 30 #[.agg #[.int .i64 4, .string (str nm), .int .i64 0, .slice sa ps.length sc], .slice (some ⟨b189, 0, none⟩) 1 1]) w190 := by unfold o10_24_7; go_simp
                obtain ⟨xr, er, hap⟩ : ∃ q e, apV (Tm.node 4 nm 0 (ps.map (·.1))) [(y, (v, va, vc))] = (q, e) := ⟨_, _, rfl⟩
                have HAP := Lib.hid (ap_one HR.out HRV.out hap)
                obtain ⟨zu, hzu⟩ : ∃ q, xr.size = q := ⟨_, rfl⟩
                obtain ⟨zv, hzv⟩ : ∃ q, v.size = q := ⟨_, rfl⟩
                have HZU := Lib.hid hzu; have HZV := Lib.hid hzv; clear hzu hzv
                have hyw : (ik y).wf = true := by rw [← hy]; exact HYW.out j (by omega) (by omega)
                have UK2_b63 := B63.lt
                have UK2_b80 := B80.lt
                have UK2_b189 := B189.lt
                have hca := apply_fr (cap := 1) (bsl_one (q := (y, (v, va, vc))) B189 B189.lt hyw (HV.out.on K1)) (HNT.out.on K1) (by show (1 : Nat) ≤ _; decide) (fun g off h => by cases h; exact B189.lt) hap
                have hnl : ((Tm.node 4 nm 0 (ps.map (·.1)))).args.length = ps.length := List.length_map ..; simp only [tv, hnl] at hca; clear hap hyw hnl
                refine dr_call (l' := #[true, true, true, true, true, true, true, true, false, false, false, false, false, false]) g10_24_7 rfl rfl (wanted_free rfl) Y ((hca).mono ?_); clear Y
                rintro e9 w193 ⟨ax, cx, rfl, hx, kk⟩
                replace K1 := keep_onto K1 kk
                replace KR := keep_onto KR kk
                replace K173 := keep_onto K173 kk
                replace B63 := blk_on B63 kk
                replace B80 := blk_on B80 kk
                replace B189 := blk_on B189 kk
                clear kk
                clear hca
                have HX := Lib.hid hx; clear hx
                have K2 := Keep.refl (fun g => w190.heap.size ≤ g ∧ g < w193.heap.size) w193
                refine ⟨_, rfl, K173, fun a194 e => ?_⟩
                have g105 := R.at_ e (by decide); replace R := R.put e; replace h5 := slot_on e h5 (by decide); replace h6 := slot_on e h6 (by decide); replace h8 := slot_on e h8 (by decide); replace h9 := slot_on e h9 (by decide); replace h10 := slot_on e h10 (by decide); replace h40 := slot_on e h40 (by decide); replace h41 := slot_on e h41 (by decide); replace h42 := slot_on e h42 (by decide); replace h43 := slot_on e h43 (by decide); clear h98 h104; have h105 := g105; clear g105; clear e
                have Y : ∀ W, Keep (fun g => g < w165.heap.size) w165 W → (execOp a194.eval o10_24_8).run Try.prog W = .ok (.value (.tuple #[.agg #[.int .i64 xr.k, .string (str xr.nm), .int .i64 xr.i, .slice ax xr.args.length cx], .int .i64 er])) W := by intro W7 hS; unfold o10_24_8; go_simp
                refine dr_take (i := 8) (fuel := 5) (l' := #[true, true, true, true, true, true, true, true, true, false, false, false, false, false]) g10_24_8 rfl ns10_24 (by kernel_rfl) (by kernel_rfl) rfl (wanted_free rfl) K173 Y fun a196 e => ?_; clear Y
                have g97 := R.at_ e (by decide); replace R := R.put e; replace h5 := slot_on e h5 (by decide); replace h6 := slot_on e h6 (by decide); replace h8 := slot_on e h8 (by decide); replace h9 := slot_on e h9 (by decide); replace h10 := slot_on e h10 (by decide); replace h40 := slot_on e h40 (by decide); replace h41 := slot_on e h41 (by decide); replace h42 := slot_on e h42 (by decide); replace h43 := slot_on e h43 (by decide); clear h105; have h97 := g97; clear g97; clear e
                have Y : ∀ W, Keep (fun g => g < w165.heap.size) w165 W → (execOp a196.eval o10_24_9).run Try.prog W = .ok (.value (.agg #[.int .i64 xr.k, .string (str xr.nm), .int .i64 xr.i, .slice ax xr.args.length cx])) W := by intro W7 hS; unfold o10_24_9; go_simp
                refine dr_take (i := 9) (fuel := 4) (l' := #[true, true, true, true, true, true, true, true, true, true, false, false, false, false]) g10_24_9 rfl ns10_24 (by kernel_rfl) (by kernel_rfl) rfl (wanted_free rfl) K173 Y fun a198 e => ?_; clear Y
                have g106 := R.at_ e (by decide); replace R := R.put e; replace h5 := slot_on e h5 (by decide); replace h6 := slot_on e h6 (by decide); replace h8 := slot_on e h8 (by decide); replace h9 := slot_on e h9 (by decide); replace h10 := slot_on e h10 (by decide); replace h40 := slot_on e h40 (by decide); replace h41 := slot_on e h41 (by decide); replace h42 := slot_on e h42 (by decide); replace h43 := slot_on e h43 (by decide); replace h97 := slot_on e h97 (by decide); have h106 := g106; clear g106; clear e
                have Y : ∀ W, Keep (fun g => g < w165.heap.size) w165 W → (execOp a198.eval o10_24_10).run Try.prog W = .ok (.value (.int .i64 er)) W := by intro W7 hS; unfold o10_24_10; go_simp
                refine dr_take (i := 10) (fuel := 3) (l' := #[true, true, true, true, true, true, true, true, true, true, true, false, false, false]) g10_24_10 rfl ns10_24 (by kernel_rfl) (by kernel_rfl) rfl (wanted_free rfl) K173 Y fun a200 e => ?_; clear Y
                have g107 := R.at_ e (by decide); replace R := R.put e; replace h5 := slot_on e h5 (by decide); replace h6 := slot_on e h6 (by decide); replace h8 := slot_on e h8 (by decide); replace h9 := slot_on e h9 (by decide); replace h10 := slot_on e h10 (by decide); replace h40 := slot_on e h40 (by decide); replace h41 := slot_on e h41 (by decide); replace h42 := slot_on e h42 (by decide); replace h43 := slot_on e h43 (by decide); replace h106 := slot_on e h106 (by decide); clear h97; have h107 := g107; clear g107; clear e
                refine dr_only (i := 11) (fuel := 2) (by kernel_rfl) ?_
                have MK1 := K1
                have MKR := KR
                have MK173 := K173
                have MK2 := K2
                have Y : (execOp a200.eval o10_24_11).run Try.prog w193 = .ok (.value (.pointer (some ⟨w193.heap.size, 0, none⟩))) (w193.alloc (.cells #[.int .i64 0, .string (⟨#[]⟩), .int .i64 0, .slice none 0 0] 24)) := by unfold o10_24_11; go_simp
                have B202 := Blk.new w193 24 #[.int .i64 0, .string (⟨#[]⟩), .int .i64 0, .slice none 0 0]
                replace K1 := K1.alloc (.cells #[.int .i64 0, .string (⟨#[]⟩), .int .i64 0, .slice none 0 0] 24)
                replace KR := KR.alloc (.cells #[.int .i64 0, .string (⟨#[]⟩), .int .i64 0, .slice none 0 0] 24)
                replace K173 := K173.alloc (.cells #[.int .i64 0, .string (⟨#[]⟩), .int .i64 0, .slice none 0 0] 24)
                replace K2 := K2.alloc (.cells #[.int .i64 0, .string (⟨#[]⟩), .int .i64 0, .slice none 0 0] 24)
                have Nb63_b202 := Nat.ne_of_lt B63.lt; replace B63 := B63.alloc (.cells #[.int .i64 0, .string (⟨#[]⟩), .int .i64 0, .slice none 0 0] 24)
                have Nb80_b202 := Nat.ne_of_lt B80.lt; replace B80 := B80.alloc (.cells #[.int .i64 0, .string (⟨#[]⟩), .int .i64 0, .slice none 0 0] 24)
                have Nb189_b202 := Nat.ne_of_lt B189.lt; replace B189 := B189.alloc (.cells #[.int .i64 0, .string (⟨#[]⟩), .int .i64 0, .slice none 0 0] 24)
                obtain ⟨w203, hw203⟩ : ∃ x, x = w193.alloc (.cells #[.int .i64 0, .string (⟨#[]⟩), .int .i64 0, .slice none 0 0] 24) := ⟨_, rfl⟩
                rw [← hw203] at Y B202 K1 KR K173 K2 B63 B80 B189
                obtain ⟨b202, hb202⟩ : ∃ x, x = w193.heap.size := ⟨_, rfl⟩
                rw [← hb202] at Y B202 Nb63_b202 Nb80_b202 Nb189_b202
                have LK1_b202 : W.heap.size ≤ b202 := by rw [hb202]; first | exact Nat.le_refl _ | exact MK1.size
                have LKR_b202 : wr.heap.size ≤ b202 := by rw [hb202]; first | exact Nat.le_refl _ | exact MKR.size
                have LK173_b202 : w165.heap.size ≤ b202 := by rw [hb202]; first | exact Nat.le_refl _ | exact MK173.size
                have LK2_b202 : w193.heap.size ≤ b202 := by rw [hb202]; first | exact Nat.le_refl _ | exact MK2.size
                clear hw203 hb202 MK1 MKR MK173 MK2
                refine dr_val (l' := #[true, true, true, true, true, true, true, true, true, true, true, true, false, false]) g10_24_11 rfl rfl (wanted_free rfl) Y K173 fun a204 e => ?_; clear Y
                have g15 := R.at_ e (by decide); replace R := R.put e; replace h5 := slot_on e h5 (by decide); replace h6 := slot_on e h6 (by decide); replace h8 := slot_on e h8 (by decide); replace h9 := slot_on e h9 (by decide); replace h10 := slot_on e h10 (by decide); replace h40 := slot_on e h40 (by decide); replace h41 := slot_on e h41 (by decide); replace h42 := slot_on e h42 (by decide); replace h43 := slot_on e h43 (by decide); replace h106 := slot_on e h106 (by decide); replace h107 := slot_on e h107 (by decide); have h15 := g15; clear g15; clear e
                refine dr_only (i := 12) (fuel := 1) (by kernel_rfl) ?_
                have Y : (execOp a204.eval o10_24_12).run Try.prog w203 = .ok .skip ((((w203.setCell ⟨b202, 0, none⟩ (.int .i64 xr.k)).setCell ⟨b202, 1, none⟩ (.string (str xr.nm))).setCell ⟨b202, 2, none⟩ (.int .i64 xr.i)).setCell ⟨b202, 3, none⟩ (.slice ax xr.args.length cx)) := by have qq0 : w203.cell? ⟨b202, 0, none⟩ = some (.int .i64 0) := B202.cell 0; have qq1 : w203.cell? ⟨b202, 1, none⟩ = some (.string (⟨#[]⟩)) := B202.cell 1; have qq2 : w203.cell? ⟨b202, 2, none⟩ = some (.int .i64 0) := B202.cell 2; have qq3 : w203.cell? ⟨b202, 3, none⟩ = some (.slice none 0 0) := B202.cell 3; have z0 := B202.frozen 0; have z1 := B202.frozen 1; have z2 := B202.frozen 2; have z3 := B202.frozen 3; unfold o10_24_12; go_simp
                replace K1 := ((((K1.setCell (p := ⟨b202, 0, none⟩) (Nat.not_lt.2 LK1_b202) (.int .i64 xr.k)).setCell (p := ⟨b202, 1, none⟩) (Nat.not_lt.2 LK1_b202) (.string (str xr.nm))).setCell (p := ⟨b202, 2, none⟩) (Nat.not_lt.2 LK1_b202) (.int .i64 xr.i)).setCell (p := ⟨b202, 3, none⟩) (Nat.not_lt.2 LK1_b202) (.slice ax xr.args.length cx))
                replace KR := ((((KR.setCell (p := ⟨b202, 0, none⟩) (Nat.not_lt.2 LKR_b202) (.int .i64 xr.k)).setCell (p := ⟨b202, 1, none⟩) (Nat.not_lt.2 LKR_b202) (.string (str xr.nm))).setCell (p := ⟨b202, 2, none⟩) (Nat.not_lt.2 LKR_b202) (.int .i64 xr.i)).setCell (p := ⟨b202, 3, none⟩) (Nat.not_lt.2 LKR_b202) (.slice ax xr.args.length cx))
                replace K173 := ((((K173.setCell (p := ⟨b202, 0, none⟩) (Nat.not_lt.2 LK173_b202) (.int .i64 xr.k)).setCell (p := ⟨b202, 1, none⟩) (Nat.not_lt.2 LK173_b202) (.string (str xr.nm))).setCell (p := ⟨b202, 2, none⟩) (Nat.not_lt.2 LK173_b202) (.int .i64 xr.i)).setCell (p := ⟨b202, 3, none⟩) (Nat.not_lt.2 LK173_b202) (.slice ax xr.args.length cx))
                replace K2 := ((((K2.setCell (p := ⟨b202, 0, none⟩) (fun hx => absurd hx.2 (Nat.not_lt.2 LK2_b202)) (.int .i64 xr.k)).setCell (p := ⟨b202, 1, none⟩) (fun hx => absurd hx.2 (Nat.not_lt.2 LK2_b202)) (.string (str xr.nm))).setCell (p := ⟨b202, 2, none⟩) (fun hx => absurd hx.2 (Nat.not_lt.2 LK2_b202)) (.int .i64 xr.i)).setCell (p := ⟨b202, 3, none⟩) (fun hx => absurd hx.2 (Nat.not_lt.2 LK2_b202)) (.slice ax xr.args.length cx))
                replace B63 := ((((B63.far (p := ⟨b202, 0, none⟩) Nb63_b202 (.int .i64 xr.k)).far (p := ⟨b202, 1, none⟩) Nb63_b202 (.string (str xr.nm))).far (p := ⟨b202, 2, none⟩) Nb63_b202 (.int .i64 xr.i)).far (p := ⟨b202, 3, none⟩) Nb63_b202 (.slice ax xr.args.length cx))
                replace B80 := ((((B80.far (p := ⟨b202, 0, none⟩) Nb80_b202 (.int .i64 xr.k)).far (p := ⟨b202, 1, none⟩) Nb80_b202 (.string (str xr.nm))).far (p := ⟨b202, 2, none⟩) Nb80_b202 (.int .i64 xr.i)).far (p := ⟨b202, 3, none⟩) Nb80_b202 (.slice ax xr.args.length cx))
                replace B189 := ((((B189.far (p := ⟨b202, 0, none⟩) Nb189_b202 (.int .i64 xr.k)).far (p := ⟨b202, 1, none⟩) Nb189_b202 (.string (str xr.nm))).far (p := ⟨b202, 2, none⟩) Nb189_b202 (.int .i64 xr.i)).far (p := ⟨b202, 3, none⟩) Nb189_b202 (.slice ax xr.args.length cx))
                replace B202 : Blk ((((w203.setCell ⟨b202, 0, none⟩ (.int .i64 xr.k)).setCell ⟨b202, 1, none⟩ (.string (str xr.nm))).setCell ⟨b202, 2, none⟩ (.int .i64 xr.i)).setCell ⟨b202, 3, none⟩ (.slice ax xr.args.length cx)) b202 24 #[.int .i64 xr.k, .string (str xr.nm), .int .i64 xr.i, .slice ax xr.args.length cx] := ((((B202.set_ 0 (.int .i64 xr.k)).set_ 1 (.string (str xr.nm))).set_ 2 (.int .i64 xr.i)).set_ 3 (.slice ax xr.args.length cx))
                generalize ((((w203.setCell ⟨b202, 0, none⟩ (.int .i64 xr.k)).setCell ⟨b202, 1, none⟩ (.string (str xr.nm))).setCell ⟨b202, 2, none⟩ (.int .i64 xr.i)).setCell ⟨b202, 3, none⟩ (.slice ax xr.args.length cx)) = w206 at Y K1 KR K173 K2 B63 B80 B189 B202
                refine dr_skip (l' := #[true, true, true, true, true, true, true, true, true, true, true, true, true, false]) g10_24_12 rfl rfl (wanted_free rfl) Y K173 ?_; clear Y
                have Y : ∀ W, Keep (fun g => g < w165.heap.size) w165 W → (execOp a204.eval o10_24_13).run Try.prog W = .ok (.value (.int .i64 er)) W := by intro W7 hS; unfold o10_24_13; go_simp
                refine dr_take (i := 13) (fuel := 0) (l' := #[true, true, true, true, true, true, true, true, true, true, true, true, true, true]) g10_24_13 rfl ns10_24 (by kernel_rfl) (by kernel_rfl) rfl (wanted_free rfl) K173 Y fun a207 e => ?_; clear Y
                have g16 := R.at_ e (by decide); replace R := R.put e; replace h5 := slot_on e h5 (by decide); replace h6 := slot_on e h6 (by decide); replace h8 := slot_on e h8 (by decide); replace h9 := slot_on e h9 (by decide); replace h10 := slot_on e h10 (by decide); replace h15 := slot_on e h15 (by decide); replace h40 := slot_on e h40 (by decide); replace h41 := slot_on e h41 (by decide); replace h42 := slot_on e h42 (by decide); replace h43 := slot_on e h43 (by decide); clear h106 h107; have h16 := g16; clear g16; clear e
                refine dr_end (by kernel_rfl) ?_
                clear K173 EK1 EKR D175 D176
                change (c10_82).wp Try.prog (bodyPost Try.prog Try.f10 (fun e w' => e = .returned (.bool true) ∧ Keep (fun g => g < W.heap.size) W w')) a207 w206
                have HX9 : Hid (TmAt w206.heap.size w206 xr ax cx) := Lib.hid (fr_tm HX.out K2)
                have K9 := Keep.refl (fun g => g < w206.heap.size) w206
                have HAP9 : Hid ((er = 2 ∨ er = 0) ∧ (er = 0 → ∃ k : Nat, xr.size = (Tm.node 4 nm 0 (ps.map (·.1))).size + k * (v.size - 1) ∧ 1 ≤ v.size ∧ v.size ≤ 2000 ∧ xr.size ≤ 2000 ∧ 1 ≤ xr.size)) := HAP
                with_reducible refine cw_u (W := W) (v := v) (va := va) (sa := sa) (vc := vc) (sc := sc) (ps := ps) (nm := nm) (j := j) (er := er) (zu := zu) (zv := zv) (xr := xr) (ax := ax) (cx := cx) (V := w206) (f0 := a207) (w0 := w206) (b1 := b63) (b2 := b202) R h5 h8 h15 h16 K1 B63 B202 HV HR HC HJ hj HAP9 HZU HZV HX9 K9
              ·
                have MK1 := K1
                have MKR := KR
                have MK173 := K173
                have Y : (execOp a191.eval o10_24_11).run Try.prog w190 = .ok (.value (.pointer (some ⟨w190.heap.size, 0, none⟩))) (w190.alloc (.cells #[.int .i64 0, .string (⟨#[]⟩), .int .i64 0, .slice none 0 0] 24)) := by unfold o10_24_11; go_simp
                have B209 := Blk.new w190 24 #[.int .i64 0, .string (⟨#[]⟩), .int .i64 0, .slice none 0 0]
                replace K1 := K1.alloc (.cells #[.int .i64 0, .string (⟨#[]⟩), .int .i64 0, .slice none 0 0] 24)
                replace KR := KR.alloc (.cells #[.int .i64 0, .string (⟨#[]⟩), .int .i64 0, .slice none 0 0] 24)
                replace K173 := K173.alloc (.cells #[.int .i64 0, .string (⟨#[]⟩), .int .i64 0, .slice none 0 0] 24)
                have Nb63_b209 := Nat.ne_of_lt B63.lt; replace B63 := B63.alloc (.cells #[.int .i64 0, .string (⟨#[]⟩), .int .i64 0, .slice none 0 0] 24)
                have Nb80_b209 := Nat.ne_of_lt B80.lt; replace B80 := B80.alloc (.cells #[.int .i64 0, .string (⟨#[]⟩), .int .i64 0, .slice none 0 0] 24)
                have Nb189_b209 := Nat.ne_of_lt B189.lt; replace B189 := B189.alloc (.cells #[.int .i64 0, .string (⟨#[]⟩), .int .i64 0, .slice none 0 0] 24)
                obtain ⟨w210, hw210⟩ : ∃ x, x = w190.alloc (.cells #[.int .i64 0, .string (⟨#[]⟩), .int .i64 0, .slice none 0 0] 24) := ⟨_, rfl⟩
                rw [← hw210] at Y B209 K1 KR K173 B63 B80 B189
                obtain ⟨b209, hb209⟩ : ∃ x, x = w190.heap.size := ⟨_, rfl⟩
                rw [← hb209] at Y B209 Nb63_b209 Nb80_b209 Nb189_b209
                have LK1_b209 : W.heap.size ≤ b209 := by rw [hb209]; first | exact Nat.le_refl _ | exact MK1.size
                have LKR_b209 : wr.heap.size ≤ b209 := by rw [hb209]; first | exact Nat.le_refl _ | exact MKR.size
                have LK173_b209 : w165.heap.size ≤ b209 := by rw [hb209]; first | exact Nat.le_refl _ | exact MK173.size
                clear hw210 hb209 MK1 MKR MK173
                refine dr_val (l' := #[true, true, true, true, true, true, true, false, false, false, false, true, false, false]) g10_24_11 rfl rfl (wanted_free rfl) Y K173 fun a211 e => ?_; clear Y
                have g15 := R.at_ e (by decide); replace R := R.put e; replace h5 := slot_on e h5 (by decide); replace h6 := slot_on e h6 (by decide); replace h8 := slot_on e h8 (by decide); replace h9 := slot_on e h9 (by decide); replace h10 := slot_on e h10 (by decide); replace h40 := slot_on e h40 (by decide); replace h41 := slot_on e h41 (by decide); replace h42 := slot_on e h42 (by decide); replace h43 := slot_on e h43 (by decide); replace h98 := slot_on e h98 (by decide); replace h104 := slot_on e h104 (by decide); have h15 := g15; clear g15; clear e
                refine dr_only (i := 7) (fuel := 5) (by kernel_rfl) ?_
                have Y : (execOp a211.eval o10_24_7).run Try.prog w210 = .ok (.enter 30 #[.agg #[.int .i64 4, .string (str nm), .int .i64 0, .slice sa ps.length sc], .slice (some ⟨b189, 0, none⟩) 1 1]) w210 := by unfold o10_24_7; go_simp
                obtain ⟨xr, er, hap⟩ : ∃ q e, apV (Tm.node 4 nm 0 (ps.map (·.1))) [(y, (v, va, vc))] = (q, e) := ⟨_, _, rfl⟩
                have HAP := Lib.hid (ap_one HR.out HRV.out hap)
                obtain ⟨zu, hzu⟩ : ∃ q, xr.size = q := ⟨_, rfl⟩
                obtain ⟨zv, hzv⟩ : ∃ q, v.size = q := ⟨_, rfl⟩
                have HZU := Lib.hid hzu; have HZV := Lib.hid hzv; clear hzu hzv
                have hyw : (ik y).wf = true := by rw [← hy]; exact HYW.out j (by omega) (by omega)
                have UK2_b63 := B63.lt
                have UK2_b80 := B80.lt
                have UK2_b189 := B189.lt
                have UK2_b209 := B209.lt
                have hca := apply_fr (cap := 1) (bsl_one (q := (y, (v, va, vc))) B189 B189.lt hyw (HV.out.on K1)) (HNT.out.on K1) (by show (1 : Nat) ≤ _; decide) (fun g off h => by cases h; exact B189.lt) hap
                have hnl : ((Tm.node 4 nm 0 (ps.map (·.1)))).args.length = ps.length := List.length_map ..; simp only [tv, hnl] at hca; clear hap hyw hnl
                refine dr_call (l' := #[true, true, true, true, true, true, true, true, false, false, false, true, false, false]) g10_24_7 rfl rfl (wanted_free rfl) Y ((hca).mono ?_); clear Y
                rintro e9 w213 ⟨ax, cx, rfl, hx, kk⟩
                replace K1 := keep_onto K1 kk
                replace KR := keep_onto KR kk
                replace K173 := keep_onto K173 kk
                replace B63 := blk_on B63 kk
                replace B80 := blk_on B80 kk
                replace B189 := blk_on B189 kk
                replace B209 := blk_on B209 kk
                clear kk
                clear hca
                have HX := Lib.hid hx; clear hx
                have K2 := Keep.refl (fun g => w210.heap.size ≤ g ∧ g < w213.heap.size) w213
                refine ⟨_, rfl, K173, fun a214 e => ?_⟩
                have g105 := R.at_ e (by decide); replace R := R.put e; replace h5 := slot_on e h5 (by decide); replace h6 := slot_on e h6 (by decide); replace h8 := slot_on e h8 (by decide); replace h9 := slot_on e h9 (by decide); replace h10 := slot_on e h10 (by decide); replace h15 := slot_on e h15 (by decide); replace h40 := slot_on e h40 (by decide); replace h41 := slot_on e h41 (by decide); replace h42 := slot_on e h42 (by decide); replace h43 := slot_on e h43 (by decide); clear h98 h104; have h105 := g105; clear g105; clear e
                have Y : ∀ W, Keep (fun g => g < w165.heap.size) w165 W → (execOp a214.eval o10_24_8).run Try.prog W = .ok (.value (.tuple #[.agg #[.int .i64 xr.k, .string (str xr.nm), .int .i64 xr.i, .slice ax xr.args.length cx], .int .i64 er])) W := by intro W7 hS; unfold o10_24_8; go_simp
                refine dr_take (i := 8) (fuel := 4) (l' := #[true, true, true, true, true, true, true, true, true, false, false, true, false, false]) g10_24_8 rfl ns10_24 (by kernel_rfl) (by kernel_rfl) rfl (wanted_free rfl) K173 Y fun a216 e => ?_; clear Y
                have g97 := R.at_ e (by decide); replace R := R.put e; replace h5 := slot_on e h5 (by decide); replace h6 := slot_on e h6 (by decide); replace h8 := slot_on e h8 (by decide); replace h9 := slot_on e h9 (by decide); replace h10 := slot_on e h10 (by decide); replace h15 := slot_on e h15 (by decide); replace h40 := slot_on e h40 (by decide); replace h41 := slot_on e h41 (by decide); replace h42 := slot_on e h42 (by decide); replace h43 := slot_on e h43 (by decide); clear h105; have h97 := g97; clear g97; clear e
                have Y : ∀ W, Keep (fun g => g < w165.heap.size) w165 W → (execOp a216.eval o10_24_9).run Try.prog W = .ok (.value (.agg #[.int .i64 xr.k, .string (str xr.nm), .int .i64 xr.i, .slice ax xr.args.length cx])) W := by intro W7 hS; unfold o10_24_9; go_simp
                refine dr_take (i := 9) (fuel := 3) (l' := #[true, true, true, true, true, true, true, true, true, true, false, true, false, false]) g10_24_9 rfl ns10_24 (by kernel_rfl) (by kernel_rfl) rfl (wanted_free rfl) K173 Y fun a218 e => ?_; clear Y
                have g106 := R.at_ e (by decide); replace R := R.put e; replace h5 := slot_on e h5 (by decide); replace h6 := slot_on e h6 (by decide); replace h8 := slot_on e h8 (by decide); replace h9 := slot_on e h9 (by decide); replace h10 := slot_on e h10 (by decide); replace h15 := slot_on e h15 (by decide); replace h40 := slot_on e h40 (by decide); replace h41 := slot_on e h41 (by decide); replace h42 := slot_on e h42 (by decide); replace h43 := slot_on e h43 (by decide); replace h97 := slot_on e h97 (by decide); have h106 := g106; clear g106; clear e
                have Y : ∀ W, Keep (fun g => g < w165.heap.size) w165 W → (execOp a218.eval o10_24_10).run Try.prog W = .ok (.value (.int .i64 er)) W := by intro W7 hS; unfold o10_24_10; go_simp
                refine dr_take (i := 10) (fuel := 2) (l' := #[true, true, true, true, true, true, true, true, true, true, true, true, false, false]) g10_24_10 rfl ns10_24 (by kernel_rfl) (by kernel_rfl) rfl (wanted_free rfl) K173 Y fun a220 e => ?_; clear Y
                have g107 := R.at_ e (by decide); replace R := R.put e; replace h5 := slot_on e h5 (by decide); replace h6 := slot_on e h6 (by decide); replace h8 := slot_on e h8 (by decide); replace h9 := slot_on e h9 (by decide); replace h10 := slot_on e h10 (by decide); replace h15 := slot_on e h15 (by decide); replace h40 := slot_on e h40 (by decide); replace h41 := slot_on e h41 (by decide); replace h42 := slot_on e h42 (by decide); replace h43 := slot_on e h43 (by decide); replace h106 := slot_on e h106 (by decide); clear h97; have h107 := g107; clear g107; clear e
                refine dr_only (i := 12) (fuel := 1) (by kernel_rfl) ?_
                have Y : (execOp a220.eval o10_24_12).run Try.prog w213 = .ok .skip ((((w213.setCell ⟨b209, 0, none⟩ (.int .i64 xr.k)).setCell ⟨b209, 1, none⟩ (.string (str xr.nm))).setCell ⟨b209, 2, none⟩ (.int .i64 xr.i)).setCell ⟨b209, 3, none⟩ (.slice ax xr.args.length cx)) := by have qq0 : w213.cell? ⟨b209, 0, none⟩ = some (.int .i64 0) := B209.cell 0; have qq1 : w213.cell? ⟨b209, 1, none⟩ = some (.string (⟨#[]⟩)) := B209.cell 1; have qq2 : w213.cell? ⟨b209, 2, none⟩ = some (.int .i64 0) := B209.cell 2; have qq3 : w213.cell? ⟨b209, 3, none⟩ = some (.slice none 0 0) := B209.cell 3; have z0 := B209.frozen 0; have z1 := B209.frozen 1; have z2 := B209.frozen 2; have z3 := B209.frozen 3; unfold o10_24_12; go_simp
                replace K1 := ((((K1.setCell (p := ⟨b209, 0, none⟩) (Nat.not_lt.2 LK1_b209) (.int .i64 xr.k)).setCell (p := ⟨b209, 1, none⟩) (Nat.not_lt.2 LK1_b209) (.string (str xr.nm))).setCell (p := ⟨b209, 2, none⟩) (Nat.not_lt.2 LK1_b209) (.int .i64 xr.i)).setCell (p := ⟨b209, 3, none⟩) (Nat.not_lt.2 LK1_b209) (.slice ax xr.args.length cx))
                replace KR := ((((KR.setCell (p := ⟨b209, 0, none⟩) (Nat.not_lt.2 LKR_b209) (.int .i64 xr.k)).setCell (p := ⟨b209, 1, none⟩) (Nat.not_lt.2 LKR_b209) (.string (str xr.nm))).setCell (p := ⟨b209, 2, none⟩) (Nat.not_lt.2 LKR_b209) (.int .i64 xr.i)).setCell (p := ⟨b209, 3, none⟩) (Nat.not_lt.2 LKR_b209) (.slice ax xr.args.length cx))
                replace K173 := ((((K173.setCell (p := ⟨b209, 0, none⟩) (Nat.not_lt.2 LK173_b209) (.int .i64 xr.k)).setCell (p := ⟨b209, 1, none⟩) (Nat.not_lt.2 LK173_b209) (.string (str xr.nm))).setCell (p := ⟨b209, 2, none⟩) (Nat.not_lt.2 LK173_b209) (.int .i64 xr.i)).setCell (p := ⟨b209, 3, none⟩) (Nat.not_lt.2 LK173_b209) (.slice ax xr.args.length cx))
                replace K2 := ((((K2.setCell (p := ⟨b209, 0, none⟩) (fun hx => absurd hx.1 (Nat.not_le.2 UK2_b209)) (.int .i64 xr.k)).setCell (p := ⟨b209, 1, none⟩) (fun hx => absurd hx.1 (Nat.not_le.2 UK2_b209)) (.string (str xr.nm))).setCell (p := ⟨b209, 2, none⟩) (fun hx => absurd hx.1 (Nat.not_le.2 UK2_b209)) (.int .i64 xr.i)).setCell (p := ⟨b209, 3, none⟩) (fun hx => absurd hx.1 (Nat.not_le.2 UK2_b209)) (.slice ax xr.args.length cx))
                replace B63 := ((((B63.far (p := ⟨b209, 0, none⟩) Nb63_b209 (.int .i64 xr.k)).far (p := ⟨b209, 1, none⟩) Nb63_b209 (.string (str xr.nm))).far (p := ⟨b209, 2, none⟩) Nb63_b209 (.int .i64 xr.i)).far (p := ⟨b209, 3, none⟩) Nb63_b209 (.slice ax xr.args.length cx))
                replace B80 := ((((B80.far (p := ⟨b209, 0, none⟩) Nb80_b209 (.int .i64 xr.k)).far (p := ⟨b209, 1, none⟩) Nb80_b209 (.string (str xr.nm))).far (p := ⟨b209, 2, none⟩) Nb80_b209 (.int .i64 xr.i)).far (p := ⟨b209, 3, none⟩) Nb80_b209 (.slice ax xr.args.length cx))
                replace B189 := ((((B189.far (p := ⟨b209, 0, none⟩) Nb189_b209 (.int .i64 xr.k)).far (p := ⟨b209, 1, none⟩) Nb189_b209 (.string (str xr.nm))).far (p := ⟨b209, 2, none⟩) Nb189_b209 (.int .i64 xr.i)).far (p := ⟨b209, 3, none⟩) Nb189_b209 (.slice ax xr.args.length cx))
                replace B209 : Blk ((((w213.setCell ⟨b209, 0, none⟩ (.int .i64 xr.k)).setCell ⟨b209, 1, none⟩ (.string (str xr.nm))).setCell ⟨b209, 2, none⟩ (.int .i64 xr.i)).setCell ⟨b209, 3, none⟩ (.slice ax xr.args.length cx)) b209 24 #[.int .i64 xr.k, .string (str xr.nm), .int .i64 xr.i, .slice ax xr.args.length cx] := ((((B209.set_ 0 (.int .i64 xr.k)).set_ 1 (.string (str xr.nm))).set_ 2 (.int .i64 xr.i)).set_ 3 (.slice ax xr.args.length cx))
                generalize ((((w213.setCell ⟨b209, 0, none⟩ (.int .i64 xr.k)).setCell ⟨b209, 1, none⟩ (.string (str xr.nm))).setCell ⟨b209, 2, none⟩ (.int .i64 xr.i)).setCell ⟨b209, 3, none⟩ (.slice ax xr.args.length cx)) = w222 at Y K1 KR K173 K2 B63 B80 B189 B209
                refine dr_skip (l' := #[true, true, true, true, true, true, true, true, true, true, true, true, true, false]) g10_24_12 rfl rfl (wanted_free rfl) Y K173 ?_; clear Y
                have Y : ∀ W, Keep (fun g => g < w165.heap.size) w165 W → (execOp a220.eval o10_24_13).run Try.prog W = .ok (.value (.int .i64 er)) W := by intro W7 hS; unfold o10_24_13; go_simp
                refine dr_take (i := 13) (fuel := 0) (l' := #[true, true, true, true, true, true, true, true, true, true, true, true, true, true]) g10_24_13 rfl ns10_24 (by kernel_rfl) (by kernel_rfl) rfl (wanted_free rfl) K173 Y fun a223 e => ?_; clear Y
                have g16 := R.at_ e (by decide); replace R := R.put e; replace h5 := slot_on e h5 (by decide); replace h6 := slot_on e h6 (by decide); replace h8 := slot_on e h8 (by decide); replace h9 := slot_on e h9 (by decide); replace h10 := slot_on e h10 (by decide); replace h15 := slot_on e h15 (by decide); replace h40 := slot_on e h40 (by decide); replace h41 := slot_on e h41 (by decide); replace h42 := slot_on e h42 (by decide); replace h43 := slot_on e h43 (by decide); clear h106 h107; have h16 := g16; clear g16; clear e
                refine dr_end (by kernel_rfl) ?_
                clear K173 EK1 EKR D175 D176
                change (c10_82).wp Try.prog (bodyPost Try.prog Try.f10 (fun e w' => e = .returned (.bool true) ∧ Keep (fun g => g < W.heap.size) W w')) a223 w222
                have HX9 : Hid (TmAt w222.heap.size w222 xr ax cx) := Lib.hid (fr_tm HX.out K2)
                have K9 := Keep.refl (fun g => g < w222.heap.size) w222
                have HAP9 : Hid ((er = 2 ∨ er = 0) ∧ (er = 0 → ∃ k : Nat, xr.size = (Tm.node 4 nm 0 (ps.map (·.1))).size + k * (v.size - 1) ∧ 1 ≤ v.size ∧ v.size ≤ 2000 ∧ xr.size ≤ 2000 ∧ 1 ≤ xr.size)) := HAP
                with_reducible refine cw_u (W := W) (v := v) (va := va) (sa := sa) (vc := vc) (sc := sc) (ps := ps) (nm := nm) (j := j) (er := er) (zu := zu) (zv := zv) (xr := xr) (ax := ax) (cx := cx) (V := w222) (f0 := a223) (w0 := w222) (b1 := b63) (b2 := b209) R h5 h8 h15 h16 K1 B63 B209 HV HR HC HJ hj HAP9 HZU HZV HX9 K9
            ·
              have MK1 := K1
              have MKR := KR
              have MK173 := K173
              have Y : (execOp a187.eval o10_24_11).run Try.prog w174 = .ok (.value (.pointer (some ⟨w174.heap.size, 0, none⟩))) (w174.alloc (.cells #[.int .i64 0, .string (⟨#[]⟩), .int .i64 0, .slice none 0 0] 24)) := by unfold o10_24_11; go_simp
              have B225 := Blk.new w174 24 #[.int .i64 0, .string (⟨#[]⟩), .int .i64 0, .slice none 0 0]
              replace K1 := K1.alloc (.cells #[.int .i64 0, .string (⟨#[]⟩), .int .i64 0, .slice none 0 0] 24)
              replace KR := KR.alloc (.cells #[.int .i64 0, .string (⟨#[]⟩), .int .i64 0, .slice none 0 0] 24)
              replace K173 := K173.alloc (.cells #[.int .i64 0, .string (⟨#[]⟩), .int .i64 0, .slice none 0 0] 24)
              have Nb63_b225 := Nat.ne_of_lt B63.lt; replace B63 := B63.alloc (.cells #[.int .i64 0, .string (⟨#[]⟩), .int .i64 0, .slice none 0 0] 24)
              have Nb80_b225 := Nat.ne_of_lt B80.lt; replace B80 := B80.alloc (.cells #[.int .i64 0, .string (⟨#[]⟩), .int .i64 0, .slice none 0 0] 24)
              obtain ⟨w226, hw226⟩ : ∃ x, x = w174.alloc (.cells #[.int .i64 0, .string (⟨#[]⟩), .int .i64 0, .slice none 0 0] 24) := ⟨_, rfl⟩
              rw [← hw226] at Y B225 K1 KR K173 B63 B80
              obtain ⟨b225, hb225⟩ : ∃ x, x = w174.heap.size := ⟨_, rfl⟩
              rw [← hb225] at Y B225 Nb63_b225 Nb80_b225
              have LK1_b225 : W.heap.size ≤ b225 := by rw [hb225]; first | exact Nat.le_refl _ | exact MK1.size
              have LKR_b225 : wr.heap.size ≤ b225 := by rw [hb225]; first | exact Nat.le_refl _ | exact MKR.size
              have LK173_b225 : w165.heap.size ≤ b225 := by rw [hb225]; first | exact Nat.le_refl _ | exact MK173.size
              clear hw226 hb225 MK1 MKR MK173
              refine dr_val (l' := #[true, true, true, true, true, true, false, false, false, false, false, true, false, false]) g10_24_11 rfl rfl (wanted_free rfl) Y K173 fun a227 e => ?_; clear Y
              have g15 := R.at_ e (by decide); replace R := R.put e; replace h5 := slot_on e h5 (by decide); replace h6 := slot_on e h6 (by decide); replace h8 := slot_on e h8 (by decide); replace h9 := slot_on e h9 (by decide); replace h10 := slot_on e h10 (by decide); replace h40 := slot_on e h40 (by decide); replace h41 := slot_on e h41 (by decide); replace h42 := slot_on e h42 (by decide); replace h43 := slot_on e h43 (by decide); replace h98 := slot_on e h98 (by decide); replace h103 := slot_on e h103 (by decide); have h15 := g15; clear g15; clear e
              refine dr_only (i := 6) (fuel := 6) (by kernel_rfl) ?_
              have MK1 := K1
              have MKR := KR
              have MK173 := K173
              have Y : (execOp a227.eval o10_24_6).run Try.prog w226 = .ok (.value (.slice (some ⟨w226.heap.size, 0, none⟩) 1 1)) (w226.alloc (.cells #[.int .i64 y, .int .i64 v.k, .string (str v.nm), .int .i64 v.i, .slice va v.args.length vc] 41)) := by unfold o10_24_6; go_simp
              have B229 := Blk.new w226 41 #[.int .i64 y, .int .i64 v.k, .string (str v.nm), .int .i64 v.i, .slice va v.args.length vc]
              replace K1 := K1.alloc (.cells #[.int .i64 y, .int .i64 v.k, .string (str v.nm), .int .i64 v.i, .slice va v.args.length vc] 41)
              replace KR := KR.alloc (.cells #[.int .i64 y, .int .i64 v.k, .string (str v.nm), .int .i64 v.i, .slice va v.args.length vc] 41)
              replace K173 := K173.alloc (.cells #[.int .i64 y, .int .i64 v.k, .string (str v.nm), .int .i64 v.i, .slice va v.args.length vc] 41)
              have Nb63_b229 := Nat.ne_of_lt B63.lt; replace B63 := B63.alloc (.cells #[.int .i64 y, .int .i64 v.k, .string (str v.nm), .int .i64 v.i, .slice va v.args.length vc] 41)
              have Nb80_b229 := Nat.ne_of_lt B80.lt; replace B80 := B80.alloc (.cells #[.int .i64 y, .int .i64 v.k, .string (str v.nm), .int .i64 v.i, .slice va v.args.length vc] 41)
              have Nb225_b229 := Nat.ne_of_lt B225.lt; replace B225 := B225.alloc (.cells #[.int .i64 y, .int .i64 v.k, .string (str v.nm), .int .i64 v.i, .slice va v.args.length vc] 41)
              obtain ⟨w230, hw230⟩ : ∃ x, x = w226.alloc (.cells #[.int .i64 y, .int .i64 v.k, .string (str v.nm), .int .i64 v.i, .slice va v.args.length vc] 41) := ⟨_, rfl⟩
              rw [← hw230] at Y B229 K1 KR K173 B63 B80 B225
              obtain ⟨b229, hb229⟩ : ∃ x, x = w226.heap.size := ⟨_, rfl⟩
              rw [← hb229] at Y B229 Nb63_b229 Nb80_b229 Nb225_b229
              have LK1_b229 : W.heap.size ≤ b229 := by rw [hb229]; first | exact Nat.le_refl _ | exact MK1.size
              have LKR_b229 : wr.heap.size ≤ b229 := by rw [hb229]; first | exact Nat.le_refl _ | exact MKR.size
              have LK173_b229 : w165.heap.size ≤ b229 := by rw [hb229]; first | exact Nat.le_refl _ | exact MK173.size
              clear hw230 hb229 MK1 MKR MK173
              refine dr_val (l' := #[true, true, true, true, true, true, true, false, false, false, false, true, false, false]) g10_24_6 rfl rfl (wanted_free rfl) Y K173 fun a231 e => ?_; clear Y
              have g104 := R.at_ e (by decide); replace R := R.put e; replace h5 := slot_on e h5 (by decide); replace h6 := slot_on e h6 (by decide); replace h8 := slot_on e h8 (by decide); replace h9 := slot_on e h9 (by decide); replace h10 := slot_on e h10 (by decide); replace h15 := slot_on e h15 (by decide); replace h40 := slot_on e h40 (by decide); replace h41 := slot_on e h41 (by decide); replace h42 := slot_on e h42 (by decide); replace h43 := slot_on e h43 (by decide); replace h98 := slot_on e h98 (by decide); clear h103; have h104 := g104; clear g104; clear e
              refine dr_only (i := 7) (fuel := 5) (by kernel_rfl) ?_
              have Y : (execOp a231.eval o10_24_7).run Try.prog w230 = .ok (.enter 30 #[.agg #[.int .i64 4, .string (str nm), .int .i64 0, .slice sa ps.length sc], .slice (some ⟨b229, 0, none⟩) 1 1]) w230 := by unfold o10_24_7; go_simp
              obtain ⟨xr, er, hap⟩ : ∃ q e, apV (Tm.node 4 nm 0 (ps.map (·.1))) [(y, (v, va, vc))] = (q, e) := ⟨_, _, rfl⟩
              have HAP := Lib.hid (ap_one HR.out HRV.out hap)
              obtain ⟨zu, hzu⟩ : ∃ q, xr.size = q := ⟨_, rfl⟩
              obtain ⟨zv, hzv⟩ : ∃ q, v.size = q := ⟨_, rfl⟩
              have HZU := Lib.hid hzu; have HZV := Lib.hid hzv; clear hzu hzv
              have hyw : (ik y).wf = true := by rw [← hy]; exact HYW.out j (by omega) (by omega)
              have UK2_b63 := B63.lt
              have UK2_b80 := B80.lt
              have UK2_b225 := B225.lt
              have UK2_b229 := B229.lt
              have hca := apply_fr (cap := 1) (bsl_one (q := (y, (v, va, vc))) B229 B229.lt hyw (HV.out.on K1)) (HNT.out.on K1) (by show (1 : Nat) ≤ _; decide) (fun g off h => by cases h; exact B229.lt) hap
              have hnl : ((Tm.node 4 nm 0 (ps.map (·.1)))).args.length = ps.length := List.length_map ..; simp only [tv, hnl] at hca; clear hap hyw hnl
              refine dr_call (l' := #[true, true, true, true, true, true, true, true, false, false, false, true, false, false]) g10_24_7 rfl rfl (wanted_free rfl) Y ((hca).mono ?_); clear Y
              rintro e9 w233 ⟨ax, cx, rfl, hx, kk⟩
              replace K1 := keep_onto K1 kk
              replace KR := keep_onto KR kk
              replace K173 := keep_onto K173 kk
              replace B63 := blk_on B63 kk
              replace B80 := blk_on B80 kk
              replace B225 := blk_on B225 kk
              replace B229 := blk_on B229 kk
              clear kk
              clear hca
              have HX := Lib.hid hx; clear hx
              have K2 := Keep.refl (fun g => w230.heap.size ≤ g ∧ g < w233.heap.size) w233
              refine ⟨_, rfl, K173, fun a234 e => ?_⟩
              have g105 := R.at_ e (by decide); replace R := R.put e; replace h5 := slot_on e h5 (by decide); replace h6 := slot_on e h6 (by decide); replace h8 := slot_on e h8 (by decide); replace h9 := slot_on e h9 (by decide); replace h10 := slot_on e h10 (by decide); replace h15 := slot_on e h15 (by decide); replace h40 := slot_on e h40 (by decide); replace h41 := slot_on e h41 (by decide); replace h42 := slot_on e h42 (by decide); replace h43 := slot_on e h43 (by decide); clear h98 h104; have h105 := g105; clear g105; clear e
              have Y : ∀ W, Keep (fun g => g < w165.heap.size) w165 W → (execOp a234.eval o10_24_8).run Try.prog W = .ok (.value (.tuple #[.agg #[.int .i64 xr.k, .string (str xr.nm), .int .i64 xr.i, .slice ax xr.args.length cx], .int .i64 er])) W := by intro W7 hS; unfold o10_24_8; go_simp
              refine dr_take (i := 8) (fuel := 4) (l' := #[true, true, true, true, true, true, true, true, true, false, false, true, false, false]) g10_24_8 rfl ns10_24 (by kernel_rfl) (by kernel_rfl) rfl (wanted_free rfl) K173 Y fun a236 e => ?_; clear Y
              have g97 := R.at_ e (by decide); replace R := R.put e; replace h5 := slot_on e h5 (by decide); replace h6 := slot_on e h6 (by decide); replace h8 := slot_on e h8 (by decide); replace h9 := slot_on e h9 (by decide); replace h10 := slot_on e h10 (by decide); replace h15 := slot_on e h15 (by decide); replace h40 := slot_on e h40 (by decide); replace h41 := slot_on e h41 (by decide); replace h42 := slot_on e h42 (by decide); replace h43 := slot_on e h43 (by decide); clear h105; have h97 := g97; clear g97; clear e
              have Y : ∀ W, Keep (fun g => g < w165.heap.size) w165 W → (execOp a236.eval o10_24_9).run Try.prog W = .ok (.value (.agg #[.int .i64 xr.k, .string (str xr.nm), .int .i64 xr.i, .slice ax xr.args.length cx])) W := by intro W7 hS; unfold o10_24_9; go_simp
              refine dr_take (i := 9) (fuel := 3) (l' := #[true, true, true, true, true, true, true, true, true, true, false, true, false, false]) g10_24_9 rfl ns10_24 (by kernel_rfl) (by kernel_rfl) rfl (wanted_free rfl) K173 Y fun a238 e => ?_; clear Y
              have g106 := R.at_ e (by decide); replace R := R.put e; replace h5 := slot_on e h5 (by decide); replace h6 := slot_on e h6 (by decide); replace h8 := slot_on e h8 (by decide); replace h9 := slot_on e h9 (by decide); replace h10 := slot_on e h10 (by decide); replace h15 := slot_on e h15 (by decide); replace h40 := slot_on e h40 (by decide); replace h41 := slot_on e h41 (by decide); replace h42 := slot_on e h42 (by decide); replace h43 := slot_on e h43 (by decide); replace h97 := slot_on e h97 (by decide); have h106 := g106; clear g106; clear e
              have Y : ∀ W, Keep (fun g => g < w165.heap.size) w165 W → (execOp a238.eval o10_24_10).run Try.prog W = .ok (.value (.int .i64 er)) W := by intro W7 hS; unfold o10_24_10; go_simp
              refine dr_take (i := 10) (fuel := 2) (l' := #[true, true, true, true, true, true, true, true, true, true, true, true, false, false]) g10_24_10 rfl ns10_24 (by kernel_rfl) (by kernel_rfl) rfl (wanted_free rfl) K173 Y fun a240 e => ?_; clear Y
              have g107 := R.at_ e (by decide); replace R := R.put e; replace h5 := slot_on e h5 (by decide); replace h6 := slot_on e h6 (by decide); replace h8 := slot_on e h8 (by decide); replace h9 := slot_on e h9 (by decide); replace h10 := slot_on e h10 (by decide); replace h15 := slot_on e h15 (by decide); replace h40 := slot_on e h40 (by decide); replace h41 := slot_on e h41 (by decide); replace h42 := slot_on e h42 (by decide); replace h43 := slot_on e h43 (by decide); replace h106 := slot_on e h106 (by decide); clear h97; have h107 := g107; clear g107; clear e
              refine dr_only (i := 12) (fuel := 1) (by kernel_rfl) ?_
              have Y : (execOp a240.eval o10_24_12).run Try.prog w233 = .ok .skip ((((w233.setCell ⟨b225, 0, none⟩ (.int .i64 xr.k)).setCell ⟨b225, 1, none⟩ (.string (str xr.nm))).setCell ⟨b225, 2, none⟩ (.int .i64 xr.i)).setCell ⟨b225, 3, none⟩ (.slice ax xr.args.length cx)) := by have qq0 : w233.cell? ⟨b225, 0, none⟩ = some (.int .i64 0) := B225.cell 0; have qq1 : w233.cell? ⟨b225, 1, none⟩ = some (.string (⟨#[]⟩)) := B225.cell 1; have qq2 : w233.cell? ⟨b225, 2, none⟩ = some (.int .i64 0) := B225.cell 2; have qq3 : w233.cell? ⟨b225, 3, none⟩ = some (.slice none 0 0) := B225.cell 3; have z0 := B225.frozen 0; have z1 := B225.frozen 1; have z2 := B225.frozen 2; have z3 := B225.frozen 3; unfold o10_24_12; go_simp
              replace K1 := ((((K1.setCell (p := ⟨b225, 0, none⟩) (Nat.not_lt.2 LK1_b225) (.int .i64 xr.k)).setCell (p := ⟨b225, 1, none⟩) (Nat.not_lt.2 LK1_b225) (.string (str xr.nm))).setCell (p := ⟨b225, 2, none⟩) (Nat.not_lt.2 LK1_b225) (.int .i64 xr.i)).setCell (p := ⟨b225, 3, none⟩) (Nat.not_lt.2 LK1_b225) (.slice ax xr.args.length cx))
              replace KR := ((((KR.setCell (p := ⟨b225, 0, none⟩) (Nat.not_lt.2 LKR_b225) (.int .i64 xr.k)).setCell (p := ⟨b225, 1, none⟩) (Nat.not_lt.2 LKR_b225) (.string (str xr.nm))).setCell (p := ⟨b225, 2, none⟩) (Nat.not_lt.2 LKR_b225) (.int .i64 xr.i)).setCell (p := ⟨b225, 3, none⟩) (Nat.not_lt.2 LKR_b225) (.slice ax xr.args.length cx))
              replace K173 := ((((K173.setCell (p := ⟨b225, 0, none⟩) (Nat.not_lt.2 LK173_b225) (.int .i64 xr.k)).setCell (p := ⟨b225, 1, none⟩) (Nat.not_lt.2 LK173_b225) (.string (str xr.nm))).setCell (p := ⟨b225, 2, none⟩) (Nat.not_lt.2 LK173_b225) (.int .i64 xr.i)).setCell (p := ⟨b225, 3, none⟩) (Nat.not_lt.2 LK173_b225) (.slice ax xr.args.length cx))
              replace K2 := ((((K2.setCell (p := ⟨b225, 0, none⟩) (fun hx => absurd hx.1 (Nat.not_le.2 UK2_b225)) (.int .i64 xr.k)).setCell (p := ⟨b225, 1, none⟩) (fun hx => absurd hx.1 (Nat.not_le.2 UK2_b225)) (.string (str xr.nm))).setCell (p := ⟨b225, 2, none⟩) (fun hx => absurd hx.1 (Nat.not_le.2 UK2_b225)) (.int .i64 xr.i)).setCell (p := ⟨b225, 3, none⟩) (fun hx => absurd hx.1 (Nat.not_le.2 UK2_b225)) (.slice ax xr.args.length cx))
              replace B63 := ((((B63.far (p := ⟨b225, 0, none⟩) Nb63_b225 (.int .i64 xr.k)).far (p := ⟨b225, 1, none⟩) Nb63_b225 (.string (str xr.nm))).far (p := ⟨b225, 2, none⟩) Nb63_b225 (.int .i64 xr.i)).far (p := ⟨b225, 3, none⟩) Nb63_b225 (.slice ax xr.args.length cx))
              replace B80 := ((((B80.far (p := ⟨b225, 0, none⟩) Nb80_b225 (.int .i64 xr.k)).far (p := ⟨b225, 1, none⟩) Nb80_b225 (.string (str xr.nm))).far (p := ⟨b225, 2, none⟩) Nb80_b225 (.int .i64 xr.i)).far (p := ⟨b225, 3, none⟩) Nb80_b225 (.slice ax xr.args.length cx))
              replace B225 : Blk ((((w233.setCell ⟨b225, 0, none⟩ (.int .i64 xr.k)).setCell ⟨b225, 1, none⟩ (.string (str xr.nm))).setCell ⟨b225, 2, none⟩ (.int .i64 xr.i)).setCell ⟨b225, 3, none⟩ (.slice ax xr.args.length cx)) b225 24 #[.int .i64 xr.k, .string (str xr.nm), .int .i64 xr.i, .slice ax xr.args.length cx] := ((((B225.set_ 0 (.int .i64 xr.k)).set_ 1 (.string (str xr.nm))).set_ 2 (.int .i64 xr.i)).set_ 3 (.slice ax xr.args.length cx))
              replace B229 := ((((B229.far (p := ⟨b225, 0, none⟩) (Ne.symm Nb225_b229) (.int .i64 xr.k)).far (p := ⟨b225, 1, none⟩) (Ne.symm Nb225_b229) (.string (str xr.nm))).far (p := ⟨b225, 2, none⟩) (Ne.symm Nb225_b229) (.int .i64 xr.i)).far (p := ⟨b225, 3, none⟩) (Ne.symm Nb225_b229) (.slice ax xr.args.length cx))
              generalize ((((w233.setCell ⟨b225, 0, none⟩ (.int .i64 xr.k)).setCell ⟨b225, 1, none⟩ (.string (str xr.nm))).setCell ⟨b225, 2, none⟩ (.int .i64 xr.i)).setCell ⟨b225, 3, none⟩ (.slice ax xr.args.length cx)) = w242 at Y K1 KR K173 K2 B63 B80 B225 B229
              refine dr_skip (l' := #[true, true, true, true, true, true, true, true, true, true, true, true, true, false]) g10_24_12 rfl rfl (wanted_free rfl) Y K173 ?_; clear Y
              have Y : ∀ W, Keep (fun g => g < w165.heap.size) w165 W → (execOp a240.eval o10_24_13).run Try.prog W = .ok (.value (.int .i64 er)) W := by intro W7 hS; unfold o10_24_13; go_simp
              refine dr_take (i := 13) (fuel := 0) (l' := #[true, true, true, true, true, true, true, true, true, true, true, true, true, true]) g10_24_13 rfl ns10_24 (by kernel_rfl) (by kernel_rfl) rfl (wanted_free rfl) K173 Y fun a243 e => ?_; clear Y
              have g16 := R.at_ e (by decide); replace R := R.put e; replace h5 := slot_on e h5 (by decide); replace h6 := slot_on e h6 (by decide); replace h8 := slot_on e h8 (by decide); replace h9 := slot_on e h9 (by decide); replace h10 := slot_on e h10 (by decide); replace h15 := slot_on e h15 (by decide); replace h40 := slot_on e h40 (by decide); replace h41 := slot_on e h41 (by decide); replace h42 := slot_on e h42 (by decide); replace h43 := slot_on e h43 (by decide); clear h106 h107; have h16 := g16; clear g16; clear e
              refine dr_end (by kernel_rfl) ?_
              clear K173 EK1 EKR D175 D176
              change (c10_82).wp Try.prog (bodyPost Try.prog Try.f10 (fun e w' => e = .returned (.bool true) ∧ Keep (fun g => g < W.heap.size) W w')) a243 w242
              have HX9 : Hid (TmAt w242.heap.size w242 xr ax cx) := Lib.hid (fr_tm HX.out K2)
              have K9 := Keep.refl (fun g => g < w242.heap.size) w242
              have HAP9 : Hid ((er = 2 ∨ er = 0) ∧ (er = 0 → ∃ k : Nat, xr.size = (Tm.node 4 nm 0 (ps.map (·.1))).size + k * (v.size - 1) ∧ 1 ≤ v.size ∧ v.size ≤ 2000 ∧ xr.size ≤ 2000 ∧ 1 ≤ xr.size)) := HAP
              with_reducible refine cw_u (W := W) (v := v) (va := va) (sa := sa) (vc := vc) (sc := sc) (ps := ps) (nm := nm) (j := j) (er := er) (zu := zu) (zv := zv) (xr := xr) (ax := ax) (cx := cx) (V := w242) (f0 := a243) (w0 := w242) (b1 := b63) (b2 := b225) R h5 h8 h15 h16 K1 B63 B225 HV HR HC HJ hj HAP9 HZU HZV HX9 K9
          ·
            have MK1 := K1
            have MKR := KR
            have MK173 := K173
            have Y : (execOp a185.eval o10_24_11).run Try.prog w174 = .ok (.value (.pointer (some ⟨w174.heap.size, 0, none⟩))) (w174.alloc (.cells #[.int .i64 0, .string (⟨#[]⟩), .int .i64 0, .slice none 0 0] 24)) := by unfold o10_24_11; go_simp
            have B245 := Blk.new w174 24 #[.int .i64 0, .string (⟨#[]⟩), .int .i64 0, .slice none 0 0]
            replace K1 := K1.alloc (.cells #[.int .i64 0, .string (⟨#[]⟩), .int .i64 0, .slice none 0 0] 24)
            replace KR := KR.alloc (.cells #[.int .i64 0, .string (⟨#[]⟩), .int .i64 0, .slice none 0 0] 24)
            replace K173 := K173.alloc (.cells #[.int .i64 0, .string (⟨#[]⟩), .int .i64 0, .slice none 0 0] 24)
            have Nb63_b245 := Nat.ne_of_lt B63.lt; replace B63 := B63.alloc (.cells #[.int .i64 0, .string (⟨#[]⟩), .int .i64 0, .slice none 0 0] 24)
            have Nb80_b245 := Nat.ne_of_lt B80.lt; replace B80 := B80.alloc (.cells #[.int .i64 0, .string (⟨#[]⟩), .int .i64 0, .slice none 0 0] 24)
            obtain ⟨w246, hw246⟩ : ∃ x, x = w174.alloc (.cells #[.int .i64 0, .string (⟨#[]⟩), .int .i64 0, .slice none 0 0] 24) := ⟨_, rfl⟩
            rw [← hw246] at Y B245 K1 KR K173 B63 B80
            obtain ⟨b245, hb245⟩ : ∃ x, x = w174.heap.size := ⟨_, rfl⟩
            rw [← hb245] at Y B245 Nb63_b245 Nb80_b245
            have LK1_b245 : W.heap.size ≤ b245 := by rw [hb245]; first | exact Nat.le_refl _ | exact MK1.size
            have LKR_b245 : wr.heap.size ≤ b245 := by rw [hb245]; first | exact Nat.le_refl _ | exact MKR.size
            have LK173_b245 : w165.heap.size ≤ b245 := by rw [hb245]; first | exact Nat.le_refl _ | exact MK173.size
            clear hw246 hb245 MK1 MKR MK173
            refine dr_val (l' := #[true, true, true, true, true, false, false, false, false, false, false, true, false, false]) g10_24_11 rfl rfl (wanted_free rfl) Y K173 fun a247 e => ?_; clear Y
            have g15 := R.at_ e (by decide); replace R := R.put e; replace h5 := slot_on e h5 (by decide); replace h6 := slot_on e h6 (by decide); replace h8 := slot_on e h8 (by decide); replace h9 := slot_on e h9 (by decide); replace h10 := slot_on e h10 (by decide); replace h40 := slot_on e h40 (by decide); replace h41 := slot_on e h41 (by decide); replace h42 := slot_on e h42 (by decide); replace h43 := slot_on e h43 (by decide); replace h98 := slot_on e h98 (by decide); replace h101 := slot_on e h101 (by decide); replace h102 := slot_on e h102 (by decide); have h15 := g15; clear g15; clear e
            refine dr_only (i := 5) (fuel := 7) (by kernel_rfl) ?_
            have Y : (execOp a247.eval o10_24_5).run Try.prog w246 = .ok (.value (.agg #[.int .i64 y, .int .i64 v.k, .string (str v.nm), .int .i64 v.i, .slice va v.args.length vc])) w246 := by unfold o10_24_5; go_simp
            refine dr_val (l' := #[true, true, true, true, true, true, false, false, false, false, false, true, false, false]) g10_24_5 rfl rfl (wanted_free rfl) Y K173 fun a249 e => ?_; clear Y
            have g103 := R.at_ e (by decide); replace R := R.put e; replace h5 := slot_on e h5 (by decide); replace h6 := slot_on e h6 (by decide); replace h8 := slot_on e h8 (by decide); replace h9 := slot_on e h9 (by decide); replace h10 := slot_on e h10 (by decide); replace h15 := slot_on e h15 (by decide); replace h40 := slot_on e h40 (by decide); replace h41 := slot_on e h41 (by decide); replace h42 := slot_on e h42 (by decide); replace h43 := slot_on e h43 (by decide); replace h98 := slot_on e h98 (by decide); clear h101 h102; have h103 := g103; clear g103; clear e
            refine dr_only (i := 6) (fuel := 6) (by kernel_rfl) ?_
            have MK1 := K1
            have MKR := KR
            have MK173 := K173
            have Y : (execOp a249.eval o10_24_6).run Try.prog w246 = .ok (.value (.slice (some ⟨w246.heap.size, 0, none⟩) 1 1)) (w246.alloc (.cells #[.int .i64 y, .int .i64 v.k, .string (str v.nm), .int .i64 v.i, .slice va v.args.length vc] 41)) := by unfold o10_24_6; go_simp
            have B251 := Blk.new w246 41 #[.int .i64 y, .int .i64 v.k, .string (str v.nm), .int .i64 v.i, .slice va v.args.length vc]
            replace K1 := K1.alloc (.cells #[.int .i64 y, .int .i64 v.k, .string (str v.nm), .int .i64 v.i, .slice va v.args.length vc] 41)
            replace KR := KR.alloc (.cells #[.int .i64 y, .int .i64 v.k, .string (str v.nm), .int .i64 v.i, .slice va v.args.length vc] 41)
            replace K173 := K173.alloc (.cells #[.int .i64 y, .int .i64 v.k, .string (str v.nm), .int .i64 v.i, .slice va v.args.length vc] 41)
            have Nb63_b251 := Nat.ne_of_lt B63.lt; replace B63 := B63.alloc (.cells #[.int .i64 y, .int .i64 v.k, .string (str v.nm), .int .i64 v.i, .slice va v.args.length vc] 41)
            have Nb80_b251 := Nat.ne_of_lt B80.lt; replace B80 := B80.alloc (.cells #[.int .i64 y, .int .i64 v.k, .string (str v.nm), .int .i64 v.i, .slice va v.args.length vc] 41)
            have Nb245_b251 := Nat.ne_of_lt B245.lt; replace B245 := B245.alloc (.cells #[.int .i64 y, .int .i64 v.k, .string (str v.nm), .int .i64 v.i, .slice va v.args.length vc] 41)
            obtain ⟨w252, hw252⟩ : ∃ x, x = w246.alloc (.cells #[.int .i64 y, .int .i64 v.k, .string (str v.nm), .int .i64 v.i, .slice va v.args.length vc] 41) := ⟨_, rfl⟩
            rw [← hw252] at Y B251 K1 KR K173 B63 B80 B245
            obtain ⟨b251, hb251⟩ : ∃ x, x = w246.heap.size := ⟨_, rfl⟩
            rw [← hb251] at Y B251 Nb63_b251 Nb80_b251 Nb245_b251
            have LK1_b251 : W.heap.size ≤ b251 := by rw [hb251]; first | exact Nat.le_refl _ | exact MK1.size
            have LKR_b251 : wr.heap.size ≤ b251 := by rw [hb251]; first | exact Nat.le_refl _ | exact MKR.size
            have LK173_b251 : w165.heap.size ≤ b251 := by rw [hb251]; first | exact Nat.le_refl _ | exact MK173.size
            clear hw252 hb251 MK1 MKR MK173
            refine dr_val (l' := #[true, true, true, true, true, true, true, false, false, false, false, true, false, false]) g10_24_6 rfl rfl (wanted_free rfl) Y K173 fun a253 e => ?_; clear Y
            have g104 := R.at_ e (by decide); replace R := R.put e; replace h5 := slot_on e h5 (by decide); replace h6 := slot_on e h6 (by decide); replace h8 := slot_on e h8 (by decide); replace h9 := slot_on e h9 (by decide); replace h10 := slot_on e h10 (by decide); replace h15 := slot_on e h15 (by decide); replace h40 := slot_on e h40 (by decide); replace h41 := slot_on e h41 (by decide); replace h42 := slot_on e h42 (by decide); replace h43 := slot_on e h43 (by decide); replace h98 := slot_on e h98 (by decide); clear h103; have h104 := g104; clear g104; clear e
            refine dr_only (i := 7) (fuel := 5) (by kernel_rfl) ?_
            have Y : (execOp a253.eval o10_24_7).run Try.prog w252 = .ok (.enter 30 #[.agg #[.int .i64 4, .string (str nm), .int .i64 0, .slice sa ps.length sc], .slice (some ⟨b251, 0, none⟩) 1 1]) w252 := by unfold o10_24_7; go_simp
            obtain ⟨xr, er, hap⟩ : ∃ q e, apV (Tm.node 4 nm 0 (ps.map (·.1))) [(y, (v, va, vc))] = (q, e) := ⟨_, _, rfl⟩
            have HAP := Lib.hid (ap_one HR.out HRV.out hap)
            obtain ⟨zu, hzu⟩ : ∃ q, xr.size = q := ⟨_, rfl⟩
            obtain ⟨zv, hzv⟩ : ∃ q, v.size = q := ⟨_, rfl⟩
            have HZU := Lib.hid hzu; have HZV := Lib.hid hzv; clear hzu hzv
            have hyw : (ik y).wf = true := by rw [← hy]; exact HYW.out j (by omega) (by omega)
            have UK2_b63 := B63.lt
            have UK2_b80 := B80.lt
            have UK2_b245 := B245.lt
            have UK2_b251 := B251.lt
            have hca := apply_fr (cap := 1) (bsl_one (q := (y, (v, va, vc))) B251 B251.lt hyw (HV.out.on K1)) (HNT.out.on K1) (by show (1 : Nat) ≤ _; decide) (fun g off h => by cases h; exact B251.lt) hap
            have hnl : ((Tm.node 4 nm 0 (ps.map (·.1)))).args.length = ps.length := List.length_map ..; simp only [tv, hnl] at hca; clear hap hyw hnl
            refine dr_call (l' := #[true, true, true, true, true, true, true, true, false, false, false, true, false, false]) g10_24_7 rfl rfl (wanted_free rfl) Y ((hca).mono ?_); clear Y
            rintro e9 w255 ⟨ax, cx, rfl, hx, kk⟩
            replace K1 := keep_onto K1 kk
            replace KR := keep_onto KR kk
            replace K173 := keep_onto K173 kk
            replace B63 := blk_on B63 kk
            replace B80 := blk_on B80 kk
            replace B245 := blk_on B245 kk
            replace B251 := blk_on B251 kk
            clear kk
            clear hca
            have HX := Lib.hid hx; clear hx
            have K2 := Keep.refl (fun g => w252.heap.size ≤ g ∧ g < w255.heap.size) w255
            refine ⟨_, rfl, K173, fun a256 e => ?_⟩
            have g105 := R.at_ e (by decide); replace R := R.put e; replace h5 := slot_on e h5 (by decide); replace h6 := slot_on e h6 (by decide); replace h8 := slot_on e h8 (by decide); replace h9 := slot_on e h9 (by decide); replace h10 := slot_on e h10 (by decide); replace h15 := slot_on e h15 (by decide); replace h40 := slot_on e h40 (by decide); replace h41 := slot_on e h41 (by decide); replace h42 := slot_on e h42 (by decide); replace h43 := slot_on e h43 (by decide); clear h98 h104; have h105 := g105; clear g105; clear e
            have Y : ∀ W, Keep (fun g => g < w165.heap.size) w165 W → (execOp a256.eval o10_24_8).run Try.prog W = .ok (.value (.tuple #[.agg #[.int .i64 xr.k, .string (str xr.nm), .int .i64 xr.i, .slice ax xr.args.length cx], .int .i64 er])) W := by intro W7 hS; unfold o10_24_8; go_simp
            refine dr_take (i := 8) (fuel := 4) (l' := #[true, true, true, true, true, true, true, true, true, false, false, true, false, false]) g10_24_8 rfl ns10_24 (by kernel_rfl) (by kernel_rfl) rfl (wanted_free rfl) K173 Y fun a258 e => ?_; clear Y
            have g97 := R.at_ e (by decide); replace R := R.put e; replace h5 := slot_on e h5 (by decide); replace h6 := slot_on e h6 (by decide); replace h8 := slot_on e h8 (by decide); replace h9 := slot_on e h9 (by decide); replace h10 := slot_on e h10 (by decide); replace h15 := slot_on e h15 (by decide); replace h40 := slot_on e h40 (by decide); replace h41 := slot_on e h41 (by decide); replace h42 := slot_on e h42 (by decide); replace h43 := slot_on e h43 (by decide); clear h105; have h97 := g97; clear g97; clear e
            have Y : ∀ W, Keep (fun g => g < w165.heap.size) w165 W → (execOp a258.eval o10_24_9).run Try.prog W = .ok (.value (.agg #[.int .i64 xr.k, .string (str xr.nm), .int .i64 xr.i, .slice ax xr.args.length cx])) W := by intro W7 hS; unfold o10_24_9; go_simp
            refine dr_take (i := 9) (fuel := 3) (l' := #[true, true, true, true, true, true, true, true, true, true, false, true, false, false]) g10_24_9 rfl ns10_24 (by kernel_rfl) (by kernel_rfl) rfl (wanted_free rfl) K173 Y fun a260 e => ?_; clear Y
            have g106 := R.at_ e (by decide); replace R := R.put e; replace h5 := slot_on e h5 (by decide); replace h6 := slot_on e h6 (by decide); replace h8 := slot_on e h8 (by decide); replace h9 := slot_on e h9 (by decide); replace h10 := slot_on e h10 (by decide); replace h15 := slot_on e h15 (by decide); replace h40 := slot_on e h40 (by decide); replace h41 := slot_on e h41 (by decide); replace h42 := slot_on e h42 (by decide); replace h43 := slot_on e h43 (by decide); replace h97 := slot_on e h97 (by decide); have h106 := g106; clear g106; clear e
            have Y : ∀ W, Keep (fun g => g < w165.heap.size) w165 W → (execOp a260.eval o10_24_10).run Try.prog W = .ok (.value (.int .i64 er)) W := by intro W7 hS; unfold o10_24_10; go_simp
            refine dr_take (i := 10) (fuel := 2) (l' := #[true, true, true, true, true, true, true, true, true, true, true, true, false, false]) g10_24_10 rfl ns10_24 (by kernel_rfl) (by kernel_rfl) rfl (wanted_free rfl) K173 Y fun a262 e => ?_; clear Y
            have g107 := R.at_ e (by decide); replace R := R.put e; replace h5 := slot_on e h5 (by decide); replace h6 := slot_on e h6 (by decide); replace h8 := slot_on e h8 (by decide); replace h9 := slot_on e h9 (by decide); replace h10 := slot_on e h10 (by decide); replace h15 := slot_on e h15 (by decide); replace h40 := slot_on e h40 (by decide); replace h41 := slot_on e h41 (by decide); replace h42 := slot_on e h42 (by decide); replace h43 := slot_on e h43 (by decide); replace h106 := slot_on e h106 (by decide); clear h97; have h107 := g107; clear g107; clear e
            refine dr_only (i := 12) (fuel := 1) (by kernel_rfl) ?_
            have Y : (execOp a262.eval o10_24_12).run Try.prog w255 = .ok .skip ((((w255.setCell ⟨b245, 0, none⟩ (.int .i64 xr.k)).setCell ⟨b245, 1, none⟩ (.string (str xr.nm))).setCell ⟨b245, 2, none⟩ (.int .i64 xr.i)).setCell ⟨b245, 3, none⟩ (.slice ax xr.args.length cx)) := by have qq0 : w255.cell? ⟨b245, 0, none⟩ = some (.int .i64 0) := B245.cell 0; have qq1 : w255.cell? ⟨b245, 1, none⟩ = some (.string (⟨#[]⟩)) := B245.cell 1; have qq2 : w255.cell? ⟨b245, 2, none⟩ = some (.int .i64 0) := B245.cell 2; have qq3 : w255.cell? ⟨b245, 3, none⟩ = some (.slice none 0 0) := B245.cell 3; have z0 := B245.frozen 0; have z1 := B245.frozen 1; have z2 := B245.frozen 2; have z3 := B245.frozen 3; unfold o10_24_12; go_simp
            replace K1 := ((((K1.setCell (p := ⟨b245, 0, none⟩) (Nat.not_lt.2 LK1_b245) (.int .i64 xr.k)).setCell (p := ⟨b245, 1, none⟩) (Nat.not_lt.2 LK1_b245) (.string (str xr.nm))).setCell (p := ⟨b245, 2, none⟩) (Nat.not_lt.2 LK1_b245) (.int .i64 xr.i)).setCell (p := ⟨b245, 3, none⟩) (Nat.not_lt.2 LK1_b245) (.slice ax xr.args.length cx))
            replace KR := ((((KR.setCell (p := ⟨b245, 0, none⟩) (Nat.not_lt.2 LKR_b245) (.int .i64 xr.k)).setCell (p := ⟨b245, 1, none⟩) (Nat.not_lt.2 LKR_b245) (.string (str xr.nm))).setCell (p := ⟨b245, 2, none⟩) (Nat.not_lt.2 LKR_b245) (.int .i64 xr.i)).setCell (p := ⟨b245, 3, none⟩) (Nat.not_lt.2 LKR_b245) (.slice ax xr.args.length cx))
            replace K173 := ((((K173.setCell (p := ⟨b245, 0, none⟩) (Nat.not_lt.2 LK173_b245) (.int .i64 xr.k)).setCell (p := ⟨b245, 1, none⟩) (Nat.not_lt.2 LK173_b245) (.string (str xr.nm))).setCell (p := ⟨b245, 2, none⟩) (Nat.not_lt.2 LK173_b245) (.int .i64 xr.i)).setCell (p := ⟨b245, 3, none⟩) (Nat.not_lt.2 LK173_b245) (.slice ax xr.args.length cx))
            replace K2 := ((((K2.setCell (p := ⟨b245, 0, none⟩) (fun hx => absurd hx.1 (Nat.not_le.2 UK2_b245)) (.int .i64 xr.k)).setCell (p := ⟨b245, 1, none⟩) (fun hx => absurd hx.1 (Nat.not_le.2 UK2_b245)) (.string (str xr.nm))).setCell (p := ⟨b245, 2, none⟩) (fun hx => absurd hx.1 (Nat.not_le.2 UK2_b245)) (.int .i64 xr.i)).setCell (p := ⟨b245, 3, none⟩) (fun hx => absurd hx.1 (Nat.not_le.2 UK2_b245)) (.slice ax xr.args.length cx))
            replace B63 := ((((B63.far (p := ⟨b245, 0, none⟩) Nb63_b245 (.int .i64 xr.k)).far (p := ⟨b245, 1, none⟩) Nb63_b245 (.string (str xr.nm))).far (p := ⟨b245, 2, none⟩) Nb63_b245 (.int .i64 xr.i)).far (p := ⟨b245, 3, none⟩) Nb63_b245 (.slice ax xr.args.length cx))
            replace B80 := ((((B80.far (p := ⟨b245, 0, none⟩) Nb80_b245 (.int .i64 xr.k)).far (p := ⟨b245, 1, none⟩) Nb80_b245 (.string (str xr.nm))).far (p := ⟨b245, 2, none⟩) Nb80_b245 (.int .i64 xr.i)).far (p := ⟨b245, 3, none⟩) Nb80_b245 (.slice ax xr.args.length cx))
            replace B245 : Blk ((((w255.setCell ⟨b245, 0, none⟩ (.int .i64 xr.k)).setCell ⟨b245, 1, none⟩ (.string (str xr.nm))).setCell ⟨b245, 2, none⟩ (.int .i64 xr.i)).setCell ⟨b245, 3, none⟩ (.slice ax xr.args.length cx)) b245 24 #[.int .i64 xr.k, .string (str xr.nm), .int .i64 xr.i, .slice ax xr.args.length cx] := ((((B245.set_ 0 (.int .i64 xr.k)).set_ 1 (.string (str xr.nm))).set_ 2 (.int .i64 xr.i)).set_ 3 (.slice ax xr.args.length cx))
            replace B251 := ((((B251.far (p := ⟨b245, 0, none⟩) (Ne.symm Nb245_b251) (.int .i64 xr.k)).far (p := ⟨b245, 1, none⟩) (Ne.symm Nb245_b251) (.string (str xr.nm))).far (p := ⟨b245, 2, none⟩) (Ne.symm Nb245_b251) (.int .i64 xr.i)).far (p := ⟨b245, 3, none⟩) (Ne.symm Nb245_b251) (.slice ax xr.args.length cx))
            generalize ((((w255.setCell ⟨b245, 0, none⟩ (.int .i64 xr.k)).setCell ⟨b245, 1, none⟩ (.string (str xr.nm))).setCell ⟨b245, 2, none⟩ (.int .i64 xr.i)).setCell ⟨b245, 3, none⟩ (.slice ax xr.args.length cx)) = w264 at Y K1 KR K173 K2 B63 B80 B245 B251
            refine dr_skip (l' := #[true, true, true, true, true, true, true, true, true, true, true, true, true, false]) g10_24_12 rfl rfl (wanted_free rfl) Y K173 ?_; clear Y
            have Y : ∀ W, Keep (fun g => g < w165.heap.size) w165 W → (execOp a262.eval o10_24_13).run Try.prog W = .ok (.value (.int .i64 er)) W := by intro W7 hS; unfold o10_24_13; go_simp
            refine dr_take (i := 13) (fuel := 0) (l' := #[true, true, true, true, true, true, true, true, true, true, true, true, true, true]) g10_24_13 rfl ns10_24 (by kernel_rfl) (by kernel_rfl) rfl (wanted_free rfl) K173 Y fun a265 e => ?_; clear Y
            have g16 := R.at_ e (by decide); replace R := R.put e; replace h5 := slot_on e h5 (by decide); replace h6 := slot_on e h6 (by decide); replace h8 := slot_on e h8 (by decide); replace h9 := slot_on e h9 (by decide); replace h10 := slot_on e h10 (by decide); replace h15 := slot_on e h15 (by decide); replace h40 := slot_on e h40 (by decide); replace h41 := slot_on e h41 (by decide); replace h42 := slot_on e h42 (by decide); replace h43 := slot_on e h43 (by decide); clear h106 h107; have h16 := g16; clear g16; clear e
            refine dr_end (by kernel_rfl) ?_
            clear K173 EK1 EKR D175 D176
            change (c10_82).wp Try.prog (bodyPost Try.prog Try.f10 (fun e w' => e = .returned (.bool true) ∧ Keep (fun g => g < W.heap.size) W w')) a265 w264
            have HX9 : Hid (TmAt w264.heap.size w264 xr ax cx) := Lib.hid (fr_tm HX.out K2)
            have K9 := Keep.refl (fun g => g < w264.heap.size) w264
            have HAP9 : Hid ((er = 2 ∨ er = 0) ∧ (er = 0 → ∃ k : Nat, xr.size = (Tm.node 4 nm 0 (ps.map (·.1))).size + k * (v.size - 1) ∧ 1 ≤ v.size ∧ v.size ≤ 2000 ∧ xr.size ≤ 2000 ∧ 1 ≤ xr.size)) := HAP
            with_reducible refine cw_u (W := W) (v := v) (va := va) (sa := sa) (vc := vc) (sc := sc) (ps := ps) (nm := nm) (j := j) (er := er) (zu := zu) (zv := zv) (xr := xr) (ax := ax) (cx := cx) (V := w264) (f0 := a265) (w0 := w264) (b1 := b63) (b2 := b245) R h5 h8 h15 h16 K1 B63 B245 HV HR HC HJ hj HAP9 HZU HZV HX9 K9
        ·
          have MK1 := K1
          have MKR := KR
          have MK173 := K173
          have Y : (execOp a181.eval o10_24_11).run Try.prog w174 = .ok (.value (.pointer (some ⟨w174.heap.size, 0, none⟩))) (w174.alloc (.cells #[.int .i64 0, .string (⟨#[]⟩), .int .i64 0, .slice none 0 0] 24)) := by unfold o10_24_11; go_simp
          have B267 := Blk.new w174 24 #[.int .i64 0, .string (⟨#[]⟩), .int .i64 0, .slice none 0 0]
          replace K1 := K1.alloc (.cells #[.int .i64 0, .string (⟨#[]⟩), .int .i64 0, .slice none 0 0] 24)
          replace KR := KR.alloc (.cells #[.int .i64 0, .string (⟨#[]⟩), .int .i64 0, .slice none 0 0] 24)
          replace K173 := K173.alloc (.cells #[.int .i64 0, .string (⟨#[]⟩), .int .i64 0, .slice none 0 0] 24)
          have Nb63_b267 := Nat.ne_of_lt B63.lt; replace B63 := B63.alloc (.cells #[.int .i64 0, .string (⟨#[]⟩), .int .i64 0, .slice none 0 0] 24)
          have Nb80_b267 := Nat.ne_of_lt B80.lt; replace B80 := B80.alloc (.cells #[.int .i64 0, .string (⟨#[]⟩), .int .i64 0, .slice none 0 0] 24)
          obtain ⟨w268, hw268⟩ : ∃ x, x = w174.alloc (.cells #[.int .i64 0, .string (⟨#[]⟩), .int .i64 0, .slice none 0 0] 24) := ⟨_, rfl⟩
          rw [← hw268] at Y B267 K1 KR K173 B63 B80
          obtain ⟨b267, hb267⟩ : ∃ x, x = w174.heap.size := ⟨_, rfl⟩
          rw [← hb267] at Y B267 Nb63_b267 Nb80_b267
          have LK1_b267 : W.heap.size ≤ b267 := by rw [hb267]; first | exact Nat.le_refl _ | exact MK1.size
          have LKR_b267 : wr.heap.size ≤ b267 := by rw [hb267]; first | exact Nat.le_refl _ | exact MKR.size
          have LK173_b267 : w165.heap.size ≤ b267 := by rw [hb267]; first | exact Nat.le_refl _ | exact MK173.size
          clear hw268 hb267 MK1 MKR MK173
          refine dr_val (l' := #[true, true, false, false, true, false, false, false, false, false, false, true, false, false]) g10_24_11 rfl rfl (wanted_free rfl) Y K173 fun a269 e => ?_; clear Y
          have g15 := R.at_ e (by decide); replace R := R.put e; replace h5 := slot_on e h5 (by decide); replace h6 := slot_on e h6 (by decide); replace h8 := slot_on e h8 (by decide); replace h9 := slot_on e h9 (by decide); replace h10 := slot_on e h10 (by decide); replace h40 := slot_on e h40 (by decide); replace h41 := slot_on e h41 (by decide); replace h42 := slot_on e h42 (by decide); replace h43 := slot_on e h43 (by decide); replace h98 := slot_on e h98 (by decide); replace h99 := slot_on e h99 (by decide); replace h102 := slot_on e h102 (by decide); have h15 := g15; clear g15; clear e
          refine dr_only (i := 2) (fuel := 9) (by kernel_rfl) ?_
          have hev := HEV.out
          have HRV : Hid (v.right = true) := Lib.hid (by cases hr : v.right with | true => rfl | false => rw [hr, if_neg (by decide)] at hev; omega)
          have hl0 : 0 < (vaA (ps.map (·.1)) j).length := by omega
          obtain ⟨g6, o6, hra, hg6, hc6⟩ := HLG.out 0 hl0
          obtain ⟨y, hy⟩ : ∃ y, (vaA (ps.map (·.1)) j).getD 0 0 = y := ⟨_, rfl⟩
          rw [hy] at hc6; clear hev
          have hlt6 : (0 : Int) < ((vaA (ps.map (·.1)) j).length : Int) := by omega
          have Y : (execOp a269.eval o10_24_2).run Try.prog w268 = .ok (.value (.pointer (some ⟨g6, o6, none⟩))) w268 := by unfold o10_24_2; go_simp
          refine dr_val (l' := #[true, true, true, false, true, false, false, false, false, false, false, true, false, false]) g10_24_2 rfl rfl (wanted_free rfl) Y K173 fun a271 e => ?_; clear Y
          have g100 := R.at_ e (by decide); replace R := R.put e; replace h5 := slot_on e h5 (by decide); replace h6 := slot_on e h6 (by decide); replace h8 := slot_on e h8 (by decide); replace h9 := slot_on e h9 (by decide); replace h10 := slot_on e h10 (by decide); replace h15 := slot_on e h15 (by decide); replace h40 := slot_on e h40 (by decide); replace h41 := slot_on e h41 (by decide); replace h42 := slot_on e h42 (by decide); replace h43 := slot_on e h43 (by decide); replace h98 := slot_on e h98 (by decide); replace h102 := slot_on e h102 (by decide); clear h99; have h100 := g100; clear g100; clear e
          have Y : ∀ W, Keep (fun g => g < w165.heap.size) w165 W → (execOp a271.eval o10_24_3).run Try.prog W = .ok (.value (.int .i64 y)) W := by intro W7 hS; rw [Nat.add_zero] at hc6; have hc7 := cell_on (cell_on hc6 EKR) hS; unfold o10_24_3; go_simp
          refine dr_take (i := 3) (fuel := 8) (l' := #[true, true, true, true, true, false, false, false, false, false, false, true, false, false]) g10_24_3 rfl ns10_24 (by kernel_rfl) (by kernel_rfl) rfl (wanted_free rfl) K173 Y fun a273 e => ?_; clear Y
          have g101 := R.at_ e (by decide); replace R := R.put e; replace h5 := slot_on e h5 (by decide); replace h6 := slot_on e h6 (by decide); replace h8 := slot_on e h8 (by decide); replace h9 := slot_on e h9 (by decide); replace h10 := slot_on e h10 (by decide); replace h15 := slot_on e h15 (by decide); replace h40 := slot_on e h40 (by decide); replace h41 := slot_on e h41 (by decide); replace h42 := slot_on e h42 (by decide); replace h43 := slot_on e h43 (by decide); replace h98 := slot_on e h98 (by decide); replace h102 := slot_on e h102 (by decide); clear h100; have h101 := g101; clear g101; clear e
          refine dr_only (i := 5) (fuel := 7) (by kernel_rfl) ?_
          have Y : (execOp a273.eval o10_24_5).run Try.prog w268 = .ok (.value (.agg #[.int .i64 y, .int .i64 v.k, .string (str v.nm), .int .i64 v.i, .slice va v.args.length vc])) w268 := by unfold o10_24_5; go_simp
          refine dr_val (l' := #[true, true, true, true, true, true, false, false, false, false, false, true, false, false]) g10_24_5 rfl rfl (wanted_free rfl) Y K173 fun a275 e => ?_; clear Y
          have g103 := R.at_ e (by decide); replace R := R.put e; replace h5 := slot_on e h5 (by decide); replace h6 := slot_on e h6 (by decide); replace h8 := slot_on e h8 (by decide); replace h9 := slot_on e h9 (by decide); replace h10 := slot_on e h10 (by decide); replace h15 := slot_on e h15 (by decide); replace h40 := slot_on e h40 (by decide); replace h41 := slot_on e h41 (by decide); replace h42 := slot_on e h42 (by decide); replace h43 := slot_on e h43 (by decide); replace h98 := slot_on e h98 (by decide); clear h101 h102; have h103 := g103; clear g103; clear e
          refine dr_only (i := 6) (fuel := 6) (by kernel_rfl) ?_
          have MK1 := K1
          have MKR := KR
          have MK173 := K173
          have Y : (execOp a275.eval o10_24_6).run Try.prog w268 = .ok (.value (.slice (some ⟨w268.heap.size, 0, none⟩) 1 1)) (w268.alloc (.cells #[.int .i64 y, .int .i64 v.k, .string (str v.nm), .int .i64 v.i, .slice va v.args.length vc] 41)) := by unfold o10_24_6; go_simp
          have B277 := Blk.new w268 41 #[.int .i64 y, .int .i64 v.k, .string (str v.nm), .int .i64 v.i, .slice va v.args.length vc]
          replace K1 := K1.alloc (.cells #[.int .i64 y, .int .i64 v.k, .string (str v.nm), .int .i64 v.i, .slice va v.args.length vc] 41)
          replace KR := KR.alloc (.cells #[.int .i64 y, .int .i64 v.k, .string (str v.nm), .int .i64 v.i, .slice va v.args.length vc] 41)
          replace K173 := K173.alloc (.cells #[.int .i64 y, .int .i64 v.k, .string (str v.nm), .int .i64 v.i, .slice va v.args.length vc] 41)
          have Nb63_b277 := Nat.ne_of_lt B63.lt; replace B63 := B63.alloc (.cells #[.int .i64 y, .int .i64 v.k, .string (str v.nm), .int .i64 v.i, .slice va v.args.length vc] 41)
          have Nb80_b277 := Nat.ne_of_lt B80.lt; replace B80 := B80.alloc (.cells #[.int .i64 y, .int .i64 v.k, .string (str v.nm), .int .i64 v.i, .slice va v.args.length vc] 41)
          have Nb267_b277 := Nat.ne_of_lt B267.lt; replace B267 := B267.alloc (.cells #[.int .i64 y, .int .i64 v.k, .string (str v.nm), .int .i64 v.i, .slice va v.args.length vc] 41)
          obtain ⟨w278, hw278⟩ : ∃ x, x = w268.alloc (.cells #[.int .i64 y, .int .i64 v.k, .string (str v.nm), .int .i64 v.i, .slice va v.args.length vc] 41) := ⟨_, rfl⟩
          rw [← hw278] at Y B277 K1 KR K173 B63 B80 B267
          obtain ⟨b277, hb277⟩ : ∃ x, x = w268.heap.size := ⟨_, rfl⟩
          rw [← hb277] at Y B277 Nb63_b277 Nb80_b277 Nb267_b277
          have LK1_b277 : W.heap.size ≤ b277 := by rw [hb277]; first | exact Nat.le_refl _ | exact MK1.size
          have LKR_b277 : wr.heap.size ≤ b277 := by rw [hb277]; first | exact Nat.le_refl _ | exact MKR.size
          have LK173_b277 : w165.heap.size ≤ b277 := by rw [hb277]; first | exact Nat.le_refl _ | exact MK173.size
          clear hw278 hb277 MK1 MKR MK173
          refine dr_val (l' := #[true, true, true, true, true, true, true, false, false, false, false, true, false, false]) g10_24_6 rfl rfl (wanted_free rfl) Y K173 fun a279 e => ?_; clear Y
          have g104 := R.at_ e (by decide); replace R := R.put e; replace h5 := slot_on e h5 (by decide); replace h6 := slot_on e h6 (by decide); replace h8 := slot_on e h8 (by decide); replace h9 := slot_on e h9 (by decide); replace h10 := slot_on e h10 (by decide); replace h15 := slot_on e h15 (by decide); replace h40 := slot_on e h40 (by decide); replace h41 := slot_on e h41 (by decide); replace h42 := slot_on e h42 (by decide); replace h43 := slot_on e h43 (by decide); replace h98 := slot_on e h98 (by decide); clear h103; have h104 := g104; clear g104; clear e
          refine dr_only (i := 7) (fuel := 5) (by kernel_rfl) ?_
          have Y : (execOp a279.eval o10_24_7).run Try.prog w278 = .ok (.enter 30 #[.agg #[.int .i64 4, .string (str nm), .int .i64 0, .slice sa ps.length sc], .slice (some ⟨b277, 0, none⟩) 1 1]) w278 := by unfold o10_24_7; go_simp
          obtain ⟨xr, er, hap⟩ : ∃ q e, apV (Tm.node 4 nm 0 (ps.map (·.1))) [(y, (v, va, vc))] = (q, e) := ⟨_, _, rfl⟩
          have HAP := Lib.hid (ap_one HR.out HRV.out hap)
          obtain ⟨zu, hzu⟩ : ∃ q, xr.size = q := ⟨_, rfl⟩
          obtain ⟨zv, hzv⟩ : ∃ q, v.size = q := ⟨_, rfl⟩
          have HZU := Lib.hid hzu; have HZV := Lib.hid hzv; clear hzu hzv
          have hyw : (ik y).wf = true := by rw [← hy]; exact HYW.out j (by omega) (by omega)
          have UK2_b63 := B63.lt
          have UK2_b80 := B80.lt
          have UK2_b267 := B267.lt
          have UK2_b277 := B277.lt
          have hca := apply_fr (cap := 1) (bsl_one (q := (y, (v, va, vc))) B277 B277.lt hyw (HV.out.on K1)) (HNT.out.on K1) (by show (1 : Nat) ≤ _; decide) (fun g off h => by cases h; exact B277.lt) hap
          have hnl : ((Tm.node 4 nm 0 (ps.map (·.1)))).args.length = ps.length := List.length_map ..; simp only [tv, hnl] at hca; clear hap hyw hnl
          refine dr_call (l' := #[true, true, true, true, true, true, true, true, false, false, false, true, false, false]) g10_24_7 rfl rfl (wanted_free rfl) Y ((hca).mono ?_); clear Y
          rintro e9 w281 ⟨ax, cx, rfl, hx, kk⟩
          replace K1 := keep_onto K1 kk
          replace KR := keep_onto KR kk
          replace K173 := keep_onto K173 kk
          replace B63 := blk_on B63 kk
          replace B80 := blk_on B80 kk
          replace B267 := blk_on B267 kk
          replace B277 := blk_on B277 kk
          clear kk
          clear hca
          have HX := Lib.hid hx; clear hx
          have K2 := Keep.refl (fun g => w278.heap.size ≤ g ∧ g < w281.heap.size) w281
          refine ⟨_, rfl, K173, fun a282 e => ?_⟩
          have g105 := R.at_ e (by decide); replace R := R.put e; replace h5 := slot_on e h5 (by decide); replace h6 := slot_on e h6 (by decide); replace h8 := slot_on e h8 (by decide); replace h9 := slot_on e h9 (by decide); replace h10 := slot_on e h10 (by decide); replace h15 := slot_on e h15 (by decide); replace h40 := slot_on e h40 (by decide); replace h41 := slot_on e h41 (by decide); replace h42 := slot_on e h42 (by decide); replace h43 := slot_on e h43 (by decide); clear h98 h104; have h105 := g105; clear g105; clear e
          have Y : ∀ W, Keep (fun g => g < w165.heap.size) w165 W → (execOp a282.eval o10_24_8).run Try.prog W = .ok (.value (.tuple #[.agg #[.int .i64 xr.k, .string (str xr.nm), .int .i64 xr.i, .slice ax xr.args.length cx], .int .i64 er])) W := by intro W7 hS; unfold o10_24_8; go_simp
          refine dr_take (i := 8) (fuel := 4) (l' := #[true, true, true, true, true, true, true, true, true, false, false, true, false, false]) g10_24_8 rfl ns10_24 (by kernel_rfl) (by kernel_rfl) rfl (wanted_free rfl) K173 Y fun a284 e => ?_; clear Y
          have g97 := R.at_ e (by decide); replace R := R.put e; replace h5 := slot_on e h5 (by decide); replace h6 := slot_on e h6 (by decide); replace h8 := slot_on e h8 (by decide); replace h9 := slot_on e h9 (by decide); replace h10 := slot_on e h10 (by decide); replace h15 := slot_on e h15 (by decide); replace h40 := slot_on e h40 (by decide); replace h41 := slot_on e h41 (by decide); replace h42 := slot_on e h42 (by decide); replace h43 := slot_on e h43 (by decide); clear h105; have h97 := g97; clear g97; clear e
          have Y : ∀ W, Keep (fun g => g < w165.heap.size) w165 W → (execOp a284.eval o10_24_9).run Try.prog W = .ok (.value (.agg #[.int .i64 xr.k, .string (str xr.nm), .int .i64 xr.i, .slice ax xr.args.length cx])) W := by intro W7 hS; unfold o10_24_9; go_simp
          refine dr_take (i := 9) (fuel := 3) (l' := #[true, true, true, true, true, true, true, true, true, true, false, true, false, false]) g10_24_9 rfl ns10_24 (by kernel_rfl) (by kernel_rfl) rfl (wanted_free rfl) K173 Y fun a286 e => ?_; clear Y
          have g106 := R.at_ e (by decide); replace R := R.put e; replace h5 := slot_on e h5 (by decide); replace h6 := slot_on e h6 (by decide); replace h8 := slot_on e h8 (by decide); replace h9 := slot_on e h9 (by decide); replace h10 := slot_on e h10 (by decide); replace h15 := slot_on e h15 (by decide); replace h40 := slot_on e h40 (by decide); replace h41 := slot_on e h41 (by decide); replace h42 := slot_on e h42 (by decide); replace h43 := slot_on e h43 (by decide); replace h97 := slot_on e h97 (by decide); have h106 := g106; clear g106; clear e
          have Y : ∀ W, Keep (fun g => g < w165.heap.size) w165 W → (execOp a286.eval o10_24_10).run Try.prog W = .ok (.value (.int .i64 er)) W := by intro W7 hS; unfold o10_24_10; go_simp
          refine dr_take (i := 10) (fuel := 2) (l' := #[true, true, true, true, true, true, true, true, true, true, true, true, false, false]) g10_24_10 rfl ns10_24 (by kernel_rfl) (by kernel_rfl) rfl (wanted_free rfl) K173 Y fun a288 e => ?_; clear Y
          have g107 := R.at_ e (by decide); replace R := R.put e; replace h5 := slot_on e h5 (by decide); replace h6 := slot_on e h6 (by decide); replace h8 := slot_on e h8 (by decide); replace h9 := slot_on e h9 (by decide); replace h10 := slot_on e h10 (by decide); replace h15 := slot_on e h15 (by decide); replace h40 := slot_on e h40 (by decide); replace h41 := slot_on e h41 (by decide); replace h42 := slot_on e h42 (by decide); replace h43 := slot_on e h43 (by decide); replace h106 := slot_on e h106 (by decide); clear h97; have h107 := g107; clear g107; clear e
          refine dr_only (i := 12) (fuel := 1) (by kernel_rfl) ?_
          have Y : (execOp a288.eval o10_24_12).run Try.prog w281 = .ok .skip ((((w281.setCell ⟨b267, 0, none⟩ (.int .i64 xr.k)).setCell ⟨b267, 1, none⟩ (.string (str xr.nm))).setCell ⟨b267, 2, none⟩ (.int .i64 xr.i)).setCell ⟨b267, 3, none⟩ (.slice ax xr.args.length cx)) := by have qq0 : w281.cell? ⟨b267, 0, none⟩ = some (.int .i64 0) := B267.cell 0; have qq1 : w281.cell? ⟨b267, 1, none⟩ = some (.string (⟨#[]⟩)) := B267.cell 1; have qq2 : w281.cell? ⟨b267, 2, none⟩ = some (.int .i64 0) := B267.cell 2; have qq3 : w281.cell? ⟨b267, 3, none⟩ = some (.slice none 0 0) := B267.cell 3; have z0 := B267.frozen 0; have z1 := B267.frozen 1; have z2 := B267.frozen 2; have z3 := B267.frozen 3; unfold o10_24_12; go_simp
          replace K1 := ((((K1.setCell (p := ⟨b267, 0, none⟩) (Nat.not_lt.2 LK1_b267) (.int .i64 xr.k)).setCell (p := ⟨b267, 1, none⟩) (Nat.not_lt.2 LK1_b267) (.string (str xr.nm))).setCell (p := ⟨b267, 2, none⟩) (Nat.not_lt.2 LK1_b267) (.int .i64 xr.i)).setCell (p := ⟨b267, 3, none⟩) (Nat.not_lt.2 LK1_b267) (.slice ax xr.args.length cx))
          replace KR := ((((KR.setCell (p := ⟨b267, 0, none⟩) (Nat.not_lt.2 LKR_b267) (.int .i64 xr.k)).setCell (p := ⟨b267, 1, none⟩) (Nat.not_lt.2 LKR_b267) (.string (str xr.nm))).setCell (p := ⟨b267, 2, none⟩) (Nat.not_lt.2 LKR_b267) (.int .i64 xr.i)).setCell (p := ⟨b267, 3, none⟩) (Nat.not_lt.2 LKR_b267) (.slice ax xr.args.length cx))
          replace K173 := ((((K173.setCell (p := ⟨b267, 0, none⟩) (Nat.not_lt.2 LK173_b267) (.int .i64 xr.k)).setCell (p := ⟨b267, 1, none⟩) (Nat.not_lt.2 LK173_b267) (.string (str xr.nm))).setCell (p := ⟨b267, 2, none⟩) (Nat.not_lt.2 LK173_b267) (.int .i64 xr.i)).setCell (p := ⟨b267, 3, none⟩) (Nat.not_lt.2 LK173_b267) (.slice ax xr.args.length cx))
          replace K2 := ((((K2.setCell (p := ⟨b267, 0, none⟩) (fun hx => absurd hx.1 (Nat.not_le.2 UK2_b267)) (.int .i64 xr.k)).setCell (p := ⟨b267, 1, none⟩) (fun hx => absurd hx.1 (Nat.not_le.2 UK2_b267)) (.string (str xr.nm))).setCell (p := ⟨b267, 2, none⟩) (fun hx => absurd hx.1 (Nat.not_le.2 UK2_b267)) (.int .i64 xr.i)).setCell (p := ⟨b267, 3, none⟩) (fun hx => absurd hx.1 (Nat.not_le.2 UK2_b267)) (.slice ax xr.args.length cx))
          replace B63 := ((((B63.far (p := ⟨b267, 0, none⟩) Nb63_b267 (.int .i64 xr.k)).far (p := ⟨b267, 1, none⟩) Nb63_b267 (.string (str xr.nm))).far (p := ⟨b267, 2, none⟩) Nb63_b267 (.int .i64 xr.i)).far (p := ⟨b267, 3, none⟩) Nb63_b267 (.slice ax xr.args.length cx))
          replace B80 := ((((B80.far (p := ⟨b267, 0, none⟩) Nb80_b267 (.int .i64 xr.k)).far (p := ⟨b267, 1, none⟩) Nb80_b267 (.string (str xr.nm))).far (p := ⟨b267, 2, none⟩) Nb80_b267 (.int .i64 xr.i)).far (p := ⟨b267, 3, none⟩) Nb80_b267 (.slice ax xr.args.length cx))
          replace B267 : Blk ((((w281.setCell ⟨b267, 0, none⟩ (.int .i64 xr.k)).setCell ⟨b267, 1, none⟩ (.string (str xr.nm))).setCell ⟨b267, 2, none⟩ (.int .i64 xr.i)).setCell ⟨b267, 3, none⟩ (.slice ax xr.args.length cx)) b267 24 #[.int .i64 xr.k, .string (str xr.nm), .int .i64 xr.i, .slice ax xr.args.length cx] := ((((B267.set_ 0 (.int .i64 xr.k)).set_ 1 (.string (str xr.nm))).set_ 2 (.int .i64 xr.i)).set_ 3 (.slice ax xr.args.length cx))
          replace B277 := ((((B277.far (p := ⟨b267, 0, none⟩) (Ne.symm Nb267_b277) (.int .i64 xr.k)).far (p := ⟨b267, 1, none⟩) (Ne.symm Nb267_b277) (.string (str xr.nm))).far (p := ⟨b267, 2, none⟩) (Ne.symm Nb267_b277) (.int .i64 xr.i)).far (p := ⟨b267, 3, none⟩) (Ne.symm Nb267_b277) (.slice ax xr.args.length cx))
          generalize ((((w281.setCell ⟨b267, 0, none⟩ (.int .i64 xr.k)).setCell ⟨b267, 1, none⟩ (.string (str xr.nm))).setCell ⟨b267, 2, none⟩ (.int .i64 xr.i)).setCell ⟨b267, 3, none⟩ (.slice ax xr.args.length cx)) = w290 at Y K1 KR K173 K2 B63 B80 B267 B277
          refine dr_skip (l' := #[true, true, true, true, true, true, true, true, true, true, true, true, true, false]) g10_24_12 rfl rfl (wanted_free rfl) Y K173 ?_; clear Y
          have Y : ∀ W, Keep (fun g => g < w165.heap.size) w165 W → (execOp a288.eval o10_24_13).run Try.prog W = .ok (.value (.int .i64 er)) W := by intro W7 hS; unfold o10_24_13; go_simp
          refine dr_take (i := 13) (fuel := 0) (l' := #[true, true, true, true, true, true, true, true, true, true, true, true, true, true]) g10_24_13 rfl ns10_24 (by kernel_rfl) (by kernel_rfl) rfl (wanted_free rfl) K173 Y fun a291 e => ?_; clear Y
          have g16 := R.at_ e (by decide); replace R := R.put e; replace h5 := slot_on e h5 (by decide); replace h6 := slot_on e h6 (by decide); replace h8 := slot_on e h8 (by decide); replace h9 := slot_on e h9 (by decide); replace h10 := slot_on e h10 (by decide); replace h15 := slot_on e h15 (by decide); replace h40 := slot_on e h40 (by decide); replace h41 := slot_on e h41 (by decide); replace h42 := slot_on e h42 (by decide); replace h43 := slot_on e h43 (by decide); clear h106 h107; have h16 := g16; clear g16; clear e
          refine dr_end (by kernel_rfl) ?_
          clear K173 EK1 EKR D175 D176
          change (c10_82).wp Try.prog (bodyPost Try.prog Try.f10 (fun e w' => e = .returned (.bool true) ∧ Keep (fun g => g < W.heap.size) W w')) a291 w290
          have HX9 : Hid (TmAt w290.heap.size w290 xr ax cx) := Lib.hid (fr_tm HX.out K2)
          have K9 := Keep.refl (fun g => g < w290.heap.size) w290
          have HAP9 : Hid ((er = 2 ∨ er = 0) ∧ (er = 0 → ∃ k : Nat, xr.size = (Tm.node 4 nm 0 (ps.map (·.1))).size + k * (v.size - 1) ∧ 1 ≤ v.size ∧ v.size ≤ 2000 ∧ xr.size ≤ 2000 ∧ 1 ≤ xr.size)) := HAP
          with_reducible refine cw_u (W := W) (v := v) (va := va) (sa := sa) (vc := vc) (sc := sc) (ps := ps) (nm := nm) (j := j) (er := er) (zu := zu) (zv := zv) (xr := xr) (ax := ax) (cx := cx) (V := w290) (f0 := a291) (w0 := w290) (b1 := b63) (b2 := b267) R h5 h8 h15 h16 K1 B63 B267 HV HR HC HJ hj HAP9 HZU HZV HX9 K9
      | true =>
        have fb168 := hb168; clear hb168
        simp only [decide_eq_true_eq, decide_eq_false_iff_not, bne_iff_ne, bne_eq_false_iff_eq, beq_iff_eq, beq_eq_false_iff_ne, ne_eq, Bool.not_eq_true', Bool.not_eq_false', Bool.not_eq_eq_eq_not, Bool.not_true, Bool.not_false] at fb168
        refine wp_cond_true (x := c10_76) (y := Code.skip) (eval_slot h96) ?_
        refine wp_seq (x := c10_77) (y := Code.ret) ?_
        change (Code.region 23 O10_23 false).wp _ _ _ _
        refine reg_in (l := [0]) rfl ?_
        have Y : (execOp a171.eval o10_23_0).run Try.prog w165 = .ok (.value (.bool true)) w165 := by unfold o10_23_0; go_simp
        refine st_val g10_23_0 rfl (wanted_free rfl) Y fun a293 e => ?_; clear Y
        have g6 := R.at_ e (by decide); replace R := R.put e; replace h5 := slot_on e h5 (by decide); replace h7 := slot_on e h7 (by decide); replace h8 := slot_on e h8 (by decide); replace h9 := slot_on e h9 (by decide); replace h10 := slot_on e h10 (by decide); replace h40 := slot_on e h40 (by decide); replace h41 := slot_on e h41 (by decide); replace h42 := slot_on e h42 (by decide); replace h43 := slot_on e h43 (by decide); clear h6 h96; have h6 := g6; clear g6; clear e
        refine st_end ?_
        change (Code.ret).wp _ _ _ _
        refine wp_ret ?_
        change bodyPost Try.prog Try.f10 (fun e w' => e = .returned (.bool true) ∧ Keep (fun g => g < W.heap.size) W w') .ret a293 w165
        refine ret_one rfl R h6 ?_
        exact ⟨rfl, K1⟩
    | true =>
      have fb158 := hb158; clear hb158
      simp only [decide_eq_true_eq, decide_eq_false_iff_not, bne_iff_ne, bne_eq_false_iff_eq, beq_iff_eq, beq_eq_false_iff_ne, ne_eq, Bool.not_eq_true', Bool.not_eq_false', Bool.not_eq_eq_eq_not, Bool.not_true, Bool.not_false] at fb158
      refine st_not g10_22_4 rfl (wanted_is (j := 3) (d := 92) rfl rfl h92 rfl) fun a295 e => ?_
      have g93 := R.at_ e (by decide); replace R := R.put e; replace h5 := slot_on e h5 (by decide); replace h6 := slot_on e h6 (by decide); replace h7 := slot_on e h7 (by decide); replace h8 := slot_on e h8 (by decide); replace h9 := slot_on e h9 (by decide); replace h10 := slot_on e h10 (by decide); replace h40 := slot_on e h40 (by decide); replace h41 := slot_on e h41 (by decide); replace h42 := slot_on e h42 (by decide); replace h43 := slot_on e h43 (by decide); replace h92 := slot_on e h92 (by decide); have h93 := g93; clear g93; clear e
      refine st_not g10_22_5 rfl (wanted_is (j := 3) (d := 92) rfl rfl h92 rfl) fun a297 e => ?_
      have g94 := R.at_ e (by decide); replace R := R.put e; replace h5 := slot_on e h5 (by decide); replace h6 := slot_on e h6 (by decide); replace h7 := slot_on e h7 (by decide); replace h8 := slot_on e h8 (by decide); replace h9 := slot_on e h9 (by decide); replace h10 := slot_on e h10 (by decide); replace h40 := slot_on e h40 (by decide); replace h41 := slot_on e h41 (by decide); replace h42 := slot_on e h42 (by decide); replace h43 := slot_on e h43 (by decide); replace h92 := slot_on e h92 (by decide); clear h93; have h94 := g94; clear g94; clear e
      refine st_not g10_22_6 rfl (wanted_is (j := 3) (d := 92) rfl rfl h92 rfl) fun a299 e => ?_
      have g95 := R.at_ e (by decide); replace R := R.put e; replace h5 := slot_on e h5 (by decide); replace h6 := slot_on e h6 (by decide); replace h7 := slot_on e h7 (by decide); replace h8 := slot_on e h8 (by decide); replace h9 := slot_on e h9 (by decide); replace h10 := slot_on e h10 (by decide); replace h40 := slot_on e h40 (by decide); replace h41 := slot_on e h41 (by decide); replace h42 := slot_on e h42 (by decide); replace h43 := slot_on e h43 (by decide); replace h92 := slot_on e h92 (by decide); clear h94; have h95 := g95; clear g95; clear e
      have Y : (execOp a299.eval o10_22_7).run Try.prog w147 = .ok (.value (.bool true)) w147 := by unfold o10_22_7; go_simp
      refine st_val g10_22_7 rfl (wanted_free rfl) Y fun a301 e => ?_; clear Y
      have g96 := R.at_ e (by decide); replace R := R.put e; replace h5 := slot_on e h5 (by decide); replace h6 := slot_on e h6 (by decide); replace h7 := slot_on e h7 (by decide); replace h8 := slot_on e h8 (by decide); replace h9 := slot_on e h9 (by decide); replace h10 := slot_on e h10 (by decide); replace h40 := slot_on e h40 (by decide); replace h41 := slot_on e h41 (by decide); replace h42 := slot_on e h42 (by decide); replace h43 := slot_on e h43 (by decide); clear h92 h95; have h96 := g96; clear g96; clear e
      refine st_end ?_
      change (c10_75).wp _ _ _ _
      refine wp_cond_true (x := c10_76) (y := Code.skip) (eval_slot h96) ?_
      refine wp_seq (x := c10_77) (y := Code.ret) ?_
      change (Code.region 23 O10_23 false).wp _ _ _ _
      refine reg_in (l := [0]) rfl ?_
      have Y : (execOp a301.eval o10_23_0).run Try.prog w147 = .ok (.value (.bool true)) w147 := by unfold o10_23_0; go_simp
      refine st_val g10_23_0 rfl (wanted_free rfl) Y fun a303 e => ?_; clear Y
      have g6 := R.at_ e (by decide); replace R := R.put e; replace h5 := slot_on e h5 (by decide); replace h7 := slot_on e h7 (by decide); replace h8 := slot_on e h8 (by decide); replace h9 := slot_on e h9 (by decide); replace h10 := slot_on e h10 (by decide); replace h40 := slot_on e h40 (by decide); replace h41 := slot_on e h41 (by decide); replace h42 := slot_on e h42 (by decide); replace h43 := slot_on e h43 (by decide); clear h6 h96; have h6 := g6; clear g6; clear e
      refine st_end ?_
      change (Code.ret).wp _ _ _ _
      refine wp_ret ?_
      change bodyPost Try.prog Try.f10 (fun e w' => e = .returned (.bool true) ∧ Keep (fun g => g < W.heap.size) W w') .ret a303 w147
      refine ret_one rfl R h6 ?_
      exact ⟨rfl, K1⟩
  | true =>
    have fb111 := hb111; clear hb111
    simp only [decide_eq_true_eq, decide_eq_false_iff_not, bne_iff_ne, bne_eq_false_iff_eq, beq_iff_eq, beq_eq_false_iff_ne, ne_eq, Bool.not_eq_true', Bool.not_eq_false', Bool.not_eq_eq_eq_not, Bool.not_true, Bool.not_false] at fb111
    refine wp_cond_true (x := Code.skip) (y := c10_34) (eval_slot h43) ?_
    refine wp_skip ?_
    change (c10_35).wp _ _ _ _
    refine wp_seq (x := c10_36) (y := c10_63) ?_
    refine wp_block (id := 1) (c := c10_37) ?_
    refine wp_seq (x := c10_38) (y := c10_39) ?_
    change (Code.region 10 O10_10 false).wp _ _ _ _
    refine reg_in (l := [0, 1, 2, 3]) rfl ?_
    obtain ⟨bA, oA, hsA, -⟩ := tmsl_addr (tmsl_on HS.out K1) (show j < ps.length by omega)
    have hltA : (j : Int) < (ps.length : Int) := by omega
    have Y : (execOp a112.eval o10_10_0).run Try.prog w109 = .ok (.value (.pointer (some ⟨bA, oA + j * 4, none⟩))) w109 := by unfold o10_10_0; go_simp
    refine st_val g10_10_0 rfl (wanted_free rfl) Y fun a305 e => ?_; clear Y
    have g44 := R.at_ e (by decide); replace R := R.put e; replace h5 := slot_on e h5 (by decide); replace h6 := slot_on e h6 (by decide); replace h7 := slot_on e h7 (by decide); replace h8 := slot_on e h8 (by decide); replace h9 := slot_on e h9 (by decide); replace h10 := slot_on e h10 (by decide); replace h40 := slot_on e h40 (by decide); replace h41 := slot_on e h41 (by decide); replace h42 := slot_on e h42 (by decide); replace h43 := slot_on e h43 (by decide); have h44 := g44; clear g44; clear e
    obtain ⟨p, hp⟩ : ∃ q, ps[j]? = some q := ⟨_, List.getElem?_eq_getElem (by omega)⟩
    have htp : (ps.map (·.1))[j]? = some p.1 := by rw [List.getElem?_map, hp]; rfl
    have HTP := Lib.hid htp; clear htp
    have HP : Hid (p.1.right = true ∧ TmAt W.heap.size W p.1 p.2.1 p.2.2) := Lib.hid ⟨HC.out.2.2.2.1 _ (List.mem_of_getElem? HTP.out), (HS.out j p hp).2⟩
    have HPV : Hid (p.1.tree.vars.length ≤ 2000) := Lib.hid (vars_nodup_len (Tm.tree_right (right_of.1 HP.out.1)))
    have HM : Hid (szA (ps.map (·.1)) (j + 1) ≤ 2000 ∧ dpA (ps.map (·.1)) (j + 1) ≤ 100) := Lib.hid ⟨Nat.le_trans (szA_mono (show j + 1 ≤ (ps.map (·.1)).length by rw [List.length_map]; omega)) HC.out.2.2.2.2.2.1, Nat.le_trans (dpA_mono (show j + 1 ≤ (ps.map (·.1)).length by rw [List.length_map]; omega)) HC.out.2.2.2.2.2.2⟩
    have Y : (execOp a305.eval o10_10_1).run Try.prog w109 = .ok (.value (.agg #[.int .i64 p.1.k, .string (str p.1.nm), .int .i64 p.1.i, .slice p.2.1 p.1.args.length p.2.2])) w109 := by obtain ⟨⟨c0, c1, c2, c3⟩, -⟩ := tmsl_at (tmsl_on HS.out K1) hsA hp; unfold o10_10_1; go_simp
    refine st_val g10_10_1 rfl (wanted_free rfl) Y fun a307 e => ?_; clear Y
    have g45 := R.at_ e (by decide); replace R := R.put e; replace h5 := slot_on e h5 (by decide); replace h6 := slot_on e h6 (by decide); replace h7 := slot_on e h7 (by decide); replace h8 := slot_on e h8 (by decide); replace h9 := slot_on e h9 (by decide); replace h10 := slot_on e h10 (by decide); replace h40 := slot_on e h40 (by decide); replace h41 := slot_on e h41 (by decide); replace h42 := slot_on e h42 (by decide); replace h43 := slot_on e h43 (by decide); replace h44 := slot_on e h44 (by decide); have h45 := g45; clear g45; clear e
    have MK1 := K1
    have MKR := KR
    have Y : (execOp a307.eval o10_10_2).run Try.prog w109 = .ok (.value (.pointer (some ⟨w109.heap.size, 0, none⟩))) (w109.alloc (.cells #[.int .i64 0, .string (⟨#[]⟩), .int .i64 0, .slice none 0 0] 24)) := by unfold o10_10_2; go_simp
    have B309 := Blk.new w109 24 #[.int .i64 0, .string (⟨#[]⟩), .int .i64 0, .slice none 0 0]
    replace K1 := K1.alloc (.cells #[.int .i64 0, .string (⟨#[]⟩), .int .i64 0, .slice none 0 0] 24)
    replace KR := KR.alloc (.cells #[.int .i64 0, .string (⟨#[]⟩), .int .i64 0, .slice none 0 0] 24)
    have Nb63_b309 := Nat.ne_of_lt B63.lt; replace B63 := B63.alloc (.cells #[.int .i64 0, .string (⟨#[]⟩), .int .i64 0, .slice none 0 0] 24)
    have Nb80_b309 := Nat.ne_of_lt B80.lt; replace B80 := B80.alloc (.cells #[.int .i64 0, .string (⟨#[]⟩), .int .i64 0, .slice none 0 0] 24)
    obtain ⟨w310, hw310⟩ : ∃ x, x = w109.alloc (.cells #[.int .i64 0, .string (⟨#[]⟩), .int .i64 0, .slice none 0 0] 24) := ⟨_, rfl⟩
    rw [← hw310] at Y B309 K1 KR B63 B80
    obtain ⟨b309, hb309⟩ : ∃ x, x = w109.heap.size := ⟨_, rfl⟩
    rw [← hb309] at Y B309 Nb63_b309 Nb80_b309
    have LK1_b309 : W.heap.size ≤ b309 := by rw [hb309]; first | exact Nat.le_refl _ | exact MK1.size
    have LKR_b309 : wr.heap.size ≤ b309 := by rw [hb309]; first | exact Nat.le_refl _ | exact MKR.size
    clear hw310 hb309 MK1 MKR
    refine st_val g10_10_2 rfl (wanted_free rfl) Y fun a311 e => ?_; clear Y
    have g12 := R.at_ e (by decide); replace R := R.put e; replace h5 := slot_on e h5 (by decide); replace h6 := slot_on e h6 (by decide); replace h7 := slot_on e h7 (by decide); replace h8 := slot_on e h8 (by decide); replace h9 := slot_on e h9 (by decide); replace h10 := slot_on e h10 (by decide); replace h40 := slot_on e h40 (by decide); replace h41 := slot_on e h41 (by decide); replace h42 := slot_on e h42 (by decide); replace h43 := slot_on e h43 (by decide); replace h44 := slot_on e h44 (by decide); replace h45 := slot_on e h45 (by decide); have h12 := g12; clear g12; clear e
    have Y : (execOp a311.eval o10_10_3).run Try.prog w310 = .ok .skip ((((w310.setCell ⟨b309, 0, none⟩ (.int .i64 p.1.k)).setCell ⟨b309, 1, none⟩ (.string (str p.1.nm))).setCell ⟨b309, 2, none⟩ (.int .i64 p.1.i)).setCell ⟨b309, 3, none⟩ (.slice p.2.1 p.1.args.length p.2.2)) := by have qq0 : w310.cell? ⟨b309, 0, none⟩ = some (.int .i64 0) := B309.cell 0; have qq1 : w310.cell? ⟨b309, 1, none⟩ = some (.string (⟨#[]⟩)) := B309.cell 1; have qq2 : w310.cell? ⟨b309, 2, none⟩ = some (.int .i64 0) := B309.cell 2; have qq3 : w310.cell? ⟨b309, 3, none⟩ = some (.slice none 0 0) := B309.cell 3; have z0 := B309.frozen 0; have z1 := B309.frozen 1; have z2 := B309.frozen 2; have z3 := B309.frozen 3; unfold o10_10_3; go_simp
    replace K1 := ((((K1.setCell (p := ⟨b309, 0, none⟩) (Nat.not_lt.2 LK1_b309) (.int .i64 p.1.k)).setCell (p := ⟨b309, 1, none⟩) (Nat.not_lt.2 LK1_b309) (.string (str p.1.nm))).setCell (p := ⟨b309, 2, none⟩) (Nat.not_lt.2 LK1_b309) (.int .i64 p.1.i)).setCell (p := ⟨b309, 3, none⟩) (Nat.not_lt.2 LK1_b309) (.slice p.2.1 p.1.args.length p.2.2))
    replace KR := ((((KR.setCell (p := ⟨b309, 0, none⟩) (Nat.not_lt.2 LKR_b309) (.int .i64 p.1.k)).setCell (p := ⟨b309, 1, none⟩) (Nat.not_lt.2 LKR_b309) (.string (str p.1.nm))).setCell (p := ⟨b309, 2, none⟩) (Nat.not_lt.2 LKR_b309) (.int .i64 p.1.i)).setCell (p := ⟨b309, 3, none⟩) (Nat.not_lt.2 LKR_b309) (.slice p.2.1 p.1.args.length p.2.2))
    replace B63 := ((((B63.far (p := ⟨b309, 0, none⟩) Nb63_b309 (.int .i64 p.1.k)).far (p := ⟨b309, 1, none⟩) Nb63_b309 (.string (str p.1.nm))).far (p := ⟨b309, 2, none⟩) Nb63_b309 (.int .i64 p.1.i)).far (p := ⟨b309, 3, none⟩) Nb63_b309 (.slice p.2.1 p.1.args.length p.2.2))
    replace B80 := ((((B80.far (p := ⟨b309, 0, none⟩) Nb80_b309 (.int .i64 p.1.k)).far (p := ⟨b309, 1, none⟩) Nb80_b309 (.string (str p.1.nm))).far (p := ⟨b309, 2, none⟩) Nb80_b309 (.int .i64 p.1.i)).far (p := ⟨b309, 3, none⟩) Nb80_b309 (.slice p.2.1 p.1.args.length p.2.2))
    replace B309 : Blk ((((w310.setCell ⟨b309, 0, none⟩ (.int .i64 p.1.k)).setCell ⟨b309, 1, none⟩ (.string (str p.1.nm))).setCell ⟨b309, 2, none⟩ (.int .i64 p.1.i)).setCell ⟨b309, 3, none⟩ (.slice p.2.1 p.1.args.length p.2.2)) b309 24 #[.int .i64 p.1.k, .string (str p.1.nm), .int .i64 p.1.i, .slice p.2.1 p.1.args.length p.2.2] := ((((B309.set_ 0 (.int .i64 p.1.k)).set_ 1 (.string (str p.1.nm))).set_ 2 (.int .i64 p.1.i)).set_ 3 (.slice p.2.1 p.1.args.length p.2.2))
    generalize ((((w310.setCell ⟨b309, 0, none⟩ (.int .i64 p.1.k)).setCell ⟨b309, 1, none⟩ (.string (str p.1.nm))).setCell ⟨b309, 2, none⟩ (.int .i64 p.1.i)).setCell ⟨b309, 3, none⟩ (.slice p.2.1 p.1.args.length p.2.2)) = w313 at Y K1 KR B63 B80 B309
    refine st_skip g10_10_3 rfl (wanted_free rfl) Y ?_; clear Y
    refine st_end ?_
    change (c10_39).wp _ _ _ _
    refine wp_seq (x := c10_40) (y := c10_41) ?_
    change (Code.region 11 O10_11 false).wp _ _ _ _
    refine reg_in (l := [0, 1, 2, 3, 4]) rfl ?_
    have Y : (execOp a311.eval o10_11_0).run Try.prog w313 = .ok (.value (.int .i64 (szA (ps.map (·.1)) j : Int))) w313 := by unfold o10_11_0; go_simp
    refine st_val g10_11_0 rfl (wanted_free rfl) Y fun a314 e => ?_; clear Y
    have g46 := R.at_ e (by decide); replace R := R.put e; replace h5 := slot_on e h5 (by decide); replace h6 := slot_on e h6 (by decide); replace h7 := slot_on e h7 (by decide); replace h8 := slot_on e h8 (by decide); replace h9 := slot_on e h9 (by decide); replace h10 := slot_on e h10 (by decide); replace h12 := slot_on e h12 (by decide); replace h40 := slot_on e h40 (by decide); replace h41 := slot_on e h41 (by decide); replace h42 := slot_on e h42 (by decide); replace h43 := slot_on e h43 (by decide); replace h44 := slot_on e h44 (by decide); replace h45 := slot_on e h45 (by decide); have h46 := g46; clear g46; clear e
    have Y : (execOp a314.eval o10_11_1).run Try.prog w313 = .ok (.value (.agg #[.int .i64 p.1.k, .string (str p.1.nm), .int .i64 p.1.i, .slice p.2.1 p.1.args.length p.2.2])) w313 := by have qq0 : w313.cell? ⟨b309, 0, none⟩ = some (.int .i64 p.1.k) := B309.cell 0; have qq1 : w313.cell? ⟨b309, 1, none⟩ = some (.string (str p.1.nm)) := B309.cell 1; have qq2 : w313.cell? ⟨b309, 2, none⟩ = some (.int .i64 p.1.i) := B309.cell 2; have qq3 : w313.cell? ⟨b309, 3, none⟩ = some (.slice p.2.1 p.1.args.length p.2.2) := B309.cell 3; unfold o10_11_1; go_simp
    refine st_val g10_11_1 rfl (wanted_free rfl) Y fun a316 e => ?_; clear Y
    have g47 := R.at_ e (by decide); replace R := R.put e; replace h5 := slot_on e h5 (by decide); replace h6 := slot_on e h6 (by decide); replace h7 := slot_on e h7 (by decide); replace h8 := slot_on e h8 (by decide); replace h9 := slot_on e h9 (by decide); replace h10 := slot_on e h10 (by decide); replace h12 := slot_on e h12 (by decide); replace h40 := slot_on e h40 (by decide); replace h41 := slot_on e h41 (by decide); replace h42 := slot_on e h42 (by decide); replace h43 := slot_on e h43 (by decide); replace h44 := slot_on e h44 (by decide); replace h45 := slot_on e h45 (by decide); replace h46 := slot_on e h46 (by decide); have h47 := g47; clear g47; clear e
    have Y : (execOp a316.eval o10_11_2).run Try.prog w313 = .ok (.enter 16 #[.agg #[.int .i64 p.1.k, .string (str p.1.nm), .int .i64 p.1.i, .slice p.2.1 p.1.args.length p.2.2]]) w313 := by unfold o10_11_2; go_simp
    refine st_call g10_11_2 rfl (wanted_free rfl) Y ((size_sx (z := (p.1.ns : Int)) (HP.out.2.on K1) (Tm.size_right HP.out.1)).mono ?_); clear Y
    rintro e9 w318 ⟨rfl, kk⟩
    replace K1 := keep_onto K1 kk
    replace KR := keep_onto KR kk
    replace B63 := blk_on B63 kk
    replace B80 := blk_on B80 kk
    replace B309 := blk_on B309 kk
    clear kk
    refine ⟨_, rfl, fun a319 e => ?_⟩
    have g48 := R.at_ e (by decide); replace R := R.put e; replace h5 := slot_on e h5 (by decide); replace h6 := slot_on e h6 (by decide); replace h7 := slot_on e h7 (by decide); replace h8 := slot_on e h8 (by decide); replace h9 := slot_on e h9 (by decide); replace h10 := slot_on e h10 (by decide); replace h12 := slot_on e h12 (by decide); replace h40 := slot_on e h40 (by decide); replace h41 := slot_on e h41 (by decide); replace h42 := slot_on e h42 (by decide); replace h43 := slot_on e h43 (by decide); replace h44 := slot_on e h44 (by decide); replace h45 := slot_on e h45 (by decide); replace h46 := slot_on e h46 (by decide); replace h47 := slot_on e h47 (by decide); have h48 := g48; clear g48; clear e
    have Y : (execOp a319.eval o10_11_3).run Try.prog w318 = .ok (.value (.int .i64 (szA (ps.map (·.1)) (j + 1) : Int))) w318 := by have h1 := szA_succ HTP.out; have h2 := HM.out.1; have hw : IntKind.i64.wrap ((szA (ps.map (·.1)) j : Int) + (p.1.ns : Int)) = (szA (ps.map (·.1)) (j + 1) : Int) := (by rw [IntKind.wrap_i64]; omega); clear h1 h2; unfold o10_11_3; go_simp
    refine st_val g10_11_3 rfl (wanted_free rfl) Y fun a321 e => ?_; clear Y
    have g49 := R.at_ e (by decide); replace R := R.put e; replace h5 := slot_on e h5 (by decide); replace h6 := slot_on e h6 (by decide); replace h7 := slot_on e h7 (by decide); replace h8 := slot_on e h8 (by decide); replace h9 := slot_on e h9 (by decide); replace h10 := slot_on e h10 (by decide); replace h12 := slot_on e h12 (by decide); replace h40 := slot_on e h40 (by decide); replace h41 := slot_on e h41 (by decide); replace h42 := slot_on e h42 (by decide); replace h43 := slot_on e h43 (by decide); replace h44 := slot_on e h44 (by decide); replace h45 := slot_on e h45 (by decide); replace h46 := slot_on e h46 (by decide); replace h47 := slot_on e h47 (by decide); replace h48 := slot_on e h48 (by decide); have h49 := g49; clear g49; clear e
    have Y : (execOp a321.eval o10_11_4).run Try.prog w318 = .ok (.value (.int .i64 (szA (ps.map (·.1)) (j + 1) : Int))) w318 := by unfold o10_11_4; go_simp
    refine st_val g10_11_4 rfl (wanted_free rfl) Y fun a323 e => ?_; clear Y
    have g8 := R.at_ e (by decide); replace R := R.put e; replace h5 := slot_on e h5 (by decide); replace h6 := slot_on e h6 (by decide); replace h7 := slot_on e h7 (by decide); replace h9 := slot_on e h9 (by decide); replace h10 := slot_on e h10 (by decide); replace h12 := slot_on e h12 (by decide); replace h40 := slot_on e h40 (by decide); replace h41 := slot_on e h41 (by decide); replace h42 := slot_on e h42 (by decide); replace h43 := slot_on e h43 (by decide); replace h44 := slot_on e h44 (by decide); replace h45 := slot_on e h45 (by decide); replace h46 := slot_on e h46 (by decide); replace h47 := slot_on e h47 (by decide); replace h48 := slot_on e h48 (by decide); replace h49 := slot_on e h49 (by decide); clear h8; have h8 := g8; clear g8; clear e
    refine st_end ?_
    change (c10_41).wp _ _ _ _
    refine wp_seq (x := c10_42) (y := c10_43) ?_
    change (Code.region 12 O10_12 false).wp _ _ _ _
    refine reg_in (l := [0, 1, 2, 3, 4]) rfl ?_
    have Y : (execOp a323.eval o10_12_0).run Try.prog w318 = .ok (.value (.int .i64 (dpA (ps.map (·.1)) j : Int))) w318 := by unfold o10_12_0; go_simp
    refine st_val g10_12_0 rfl (wanted_free rfl) Y fun a325 e => ?_; clear Y
    have g50 := R.at_ e (by decide); replace R := R.put e; replace h5 := slot_on e h5 (by decide); replace h6 := slot_on e h6 (by decide); replace h7 := slot_on e h7 (by decide); replace h8 := slot_on e h8 (by decide); replace h9 := slot_on e h9 (by decide); replace h10 := slot_on e h10 (by decide); replace h12 := slot_on e h12 (by decide); replace h40 := slot_on e h40 (by decide); replace h41 := slot_on e h41 (by decide); replace h42 := slot_on e h42 (by decide); replace h43 := slot_on e h43 (by decide); replace h44 := slot_on e h44 (by decide); replace h45 := slot_on e h45 (by decide); replace h46 := slot_on e h46 (by decide); replace h47 := slot_on e h47 (by decide); replace h48 := slot_on e h48 (by decide); replace h49 := slot_on e h49 (by decide); have h50 := g50; clear g50; clear e
    have Y : (execOp a325.eval o10_12_1).run Try.prog w318 = .ok (.value (.agg #[.int .i64 p.1.k, .string (str p.1.nm), .int .i64 p.1.i, .slice p.2.1 p.1.args.length p.2.2])) w318 := by have qq0 : w318.cell? ⟨b309, 0, none⟩ = some (.int .i64 p.1.k) := B309.cell 0; have qq1 : w318.cell? ⟨b309, 1, none⟩ = some (.string (str p.1.nm)) := B309.cell 1; have qq2 : w318.cell? ⟨b309, 2, none⟩ = some (.int .i64 p.1.i) := B309.cell 2; have qq3 : w318.cell? ⟨b309, 3, none⟩ = some (.slice p.2.1 p.1.args.length p.2.2) := B309.cell 3; unfold o10_12_1; go_simp
    refine st_val g10_12_1 rfl (wanted_free rfl) Y fun a327 e => ?_; clear Y
    have g51 := R.at_ e (by decide); replace R := R.put e; replace h5 := slot_on e h5 (by decide); replace h6 := slot_on e h6 (by decide); replace h7 := slot_on e h7 (by decide); replace h8 := slot_on e h8 (by decide); replace h9 := slot_on e h9 (by decide); replace h10 := slot_on e h10 (by decide); replace h12 := slot_on e h12 (by decide); replace h40 := slot_on e h40 (by decide); replace h41 := slot_on e h41 (by decide); replace h42 := slot_on e h42 (by decide); replace h43 := slot_on e h43 (by decide); replace h44 := slot_on e h44 (by decide); replace h45 := slot_on e h45 (by decide); replace h46 := slot_on e h46 (by decide); replace h47 := slot_on e h47 (by decide); replace h48 := slot_on e h48 (by decide); replace h49 := slot_on e h49 (by decide); replace h50 := slot_on e h50 (by decide); have h51 := g51; clear g51; clear e
    have Y : (execOp a327.eval o10_12_2).run Try.prog w318 = .ok (.enter 17 #[.agg #[.int .i64 p.1.k, .string (str p.1.nm), .int .i64 p.1.i, .slice p.2.1 p.1.args.length p.2.2]]) w318 := by unfold o10_12_2; go_simp
    refine st_call g10_12_2 rfl (wanted_free rfl) Y ((depth_sx (z := (p.1.nd : Int)) (HP.out.2.on K1) (Tm.depth_right HP.out.1)).mono ?_); clear Y
    rintro e9 w329 ⟨rfl, kk⟩
    replace K1 := keep_onto K1 kk
    replace KR := keep_onto KR kk
    replace B63 := blk_on B63 kk
    replace B80 := blk_on B80 kk
    replace B309 := blk_on B309 kk
    clear kk
    refine ⟨_, rfl, fun a330 e => ?_⟩
    have g52 := R.at_ e (by decide); replace R := R.put e; replace h5 := slot_on e h5 (by decide); replace h6 := slot_on e h6 (by decide); replace h7 := slot_on e h7 (by decide); replace h8 := slot_on e h8 (by decide); replace h9 := slot_on e h9 (by decide); replace h10 := slot_on e h10 (by decide); replace h12 := slot_on e h12 (by decide); replace h40 := slot_on e h40 (by decide); replace h41 := slot_on e h41 (by decide); replace h42 := slot_on e h42 (by decide); replace h43 := slot_on e h43 (by decide); replace h44 := slot_on e h44 (by decide); replace h45 := slot_on e h45 (by decide); replace h46 := slot_on e h46 (by decide); replace h47 := slot_on e h47 (by decide); replace h48 := slot_on e h48 (by decide); replace h49 := slot_on e h49 (by decide); replace h50 := slot_on e h50 (by decide); replace h51 := slot_on e h51 (by decide); have h52 := g52; clear g52; clear e
    have Y : (execOp a330.eval o10_12_3).run Try.prog w329 = .ok (.value (.int .i64 (dpA (ps.map (·.1)) (j + 1) : Int))) w329 := by have h1 := dpA_succ HTP.out; have h5 : (if (dpA (ps.map (·.1)) j : Int) < (p.1.nd : Int) then (p.1.nd : Int) else (dpA (ps.map (·.1)) j : Int)) = (dpA (ps.map (·.1)) (j + 1) : Int) := (by split <;> omega); have h6 : (if dpA (ps.map (·.1)) j < p.1.nd then (p.1.nd : Int) else (dpA (ps.map (·.1)) j : Int)) = (dpA (ps.map (·.1)) (j + 1) : Int) := (by split <;> omega); have h7 : max (dpA (ps.map (·.1)) j : Int) (p.1.nd : Int) = (dpA (ps.map (·.1)) (j + 1) : Int) := (by omega); clear h1; unfold o10_12_3; go_simp
    refine st_val g10_12_3 rfl (wanted_free rfl) Y fun a332 e => ?_; clear Y
    have g53 := R.at_ e (by decide); replace R := R.put e; replace h5 := slot_on e h5 (by decide); replace h6 := slot_on e h6 (by decide); replace h7 := slot_on e h7 (by decide); replace h8 := slot_on e h8 (by decide); replace h9 := slot_on e h9 (by decide); replace h10 := slot_on e h10 (by decide); replace h12 := slot_on e h12 (by decide); replace h40 := slot_on e h40 (by decide); replace h41 := slot_on e h41 (by decide); replace h42 := slot_on e h42 (by decide); replace h43 := slot_on e h43 (by decide); replace h44 := slot_on e h44 (by decide); replace h45 := slot_on e h45 (by decide); replace h46 := slot_on e h46 (by decide); replace h47 := slot_on e h47 (by decide); replace h48 := slot_on e h48 (by decide); replace h49 := slot_on e h49 (by decide); replace h50 := slot_on e h50 (by decide); replace h51 := slot_on e h51 (by decide); replace h52 := slot_on e h52 (by decide); have h53 := g53; clear g53; clear e
    have Y : (execOp a332.eval o10_12_4).run Try.prog w329 = .ok (.value (.int .i64 (dpA (ps.map (·.1)) (j + 1) : Int))) w329 := by unfold o10_12_4; go_simp
    refine st_val g10_12_4 rfl (wanted_free rfl) Y fun a334 e => ?_; clear Y
    have g9 := R.at_ e (by decide); replace R := R.put e; replace h5 := slot_on e h5 (by decide); replace h6 := slot_on e h6 (by decide); replace h7 := slot_on e h7 (by decide); replace h8 := slot_on e h8 (by decide); replace h10 := slot_on e h10 (by decide); replace h12 := slot_on e h12 (by decide); replace h40 := slot_on e h40 (by decide); replace h41 := slot_on e h41 (by decide); replace h42 := slot_on e h42 (by decide); replace h43 := slot_on e h43 (by decide); replace h44 := slot_on e h44 (by decide); replace h45 := slot_on e h45 (by decide); replace h46 := slot_on e h46 (by decide); replace h47 := slot_on e h47 (by decide); replace h48 := slot_on e h48 (by decide); replace h49 := slot_on e h49 (by decide); replace h50 := slot_on e h50 (by decide); replace h51 := slot_on e h51 (by decide); replace h52 := slot_on e h52 (by decide); replace h53 := slot_on e h53 (by decide); clear h9; have h9 := g9; clear g9; clear e
    refine st_end ?_
    change (c10_43).wp _ _ _ _
    refine wp_seq (x := c10_44) (y := c10_45) ?_
    change (Code.region 13 O10_13 false).wp _ _ _ _
    refine reg_in (l := [0, 1, 2, 3]) rfl ?_
    have Y : (execOp a334.eval o10_13_0).run Try.prog w329 = .ok (.value (.agg #[.int .i64 p.1.k, .string (str p.1.nm), .int .i64 p.1.i, .slice p.2.1 p.1.args.length p.2.2])) w329 := by have qq0 : w329.cell? ⟨b309, 0, none⟩ = some (.int .i64 p.1.k) := B309.cell 0; have qq1 : w329.cell? ⟨b309, 1, none⟩ = some (.string (str p.1.nm)) := B309.cell 1; have qq2 : w329.cell? ⟨b309, 2, none⟩ = some (.int .i64 p.1.i) := B309.cell 2; have qq3 : w329.cell? ⟨b309, 3, none⟩ = some (.slice p.2.1 p.1.args.length p.2.2) := B309.cell 3; unfold o10_13_0; go_simp
    refine st_val g10_13_0 rfl (wanted_free rfl) Y fun a336 e => ?_; clear Y
    have g54 := R.at_ e (by decide); replace R := R.put e; replace h5 := slot_on e h5 (by decide); replace h6 := slot_on e h6 (by decide); replace h7 := slot_on e h7 (by decide); replace h8 := slot_on e h8 (by decide); replace h9 := slot_on e h9 (by decide); replace h10 := slot_on e h10 (by decide); replace h12 := slot_on e h12 (by decide); replace h40 := slot_on e h40 (by decide); replace h41 := slot_on e h41 (by decide); replace h42 := slot_on e h42 (by decide); replace h43 := slot_on e h43 (by decide); replace h44 := slot_on e h44 (by decide); replace h45 := slot_on e h45 (by decide); replace h46 := slot_on e h46 (by decide); replace h47 := slot_on e h47 (by decide); replace h48 := slot_on e h48 (by decide); replace h49 := slot_on e h49 (by decide); replace h50 := slot_on e h50 (by decide); replace h51 := slot_on e h51 (by decide); replace h52 := slot_on e h52 (by decide); replace h53 := slot_on e h53 (by decide); have h54 := g54; clear g54; clear e
    have Y : (execOp a336.eval o10_13_1).run Try.prog w329 = .ok (.enter 18 #[.agg #[.int .i64 p.1.k, .string (str p.1.nm), .int .i64 p.1.i, .slice p.2.1 p.1.args.length p.2.2]]) w329 := by unfold o10_13_1; go_simp
    have hsz := KR.size
    refine st_call g10_13_1 rfl (wanted_free rfl) Y ((vars_sx (l := p.1.tree.vars) (L := p.1.tree.vars.length) (HP.out.2.on K1) (by rw [vaV, if_pos HP.out.1]) rfl).mono ?_); clear Y
    rintro e9 w338 ⟨gb, ub, uc, rfl, hvr, kk⟩
    replace K1 := keep_onto K1 kk
    replace KR := keep_onto KR kk
    replace B63 := blk_on B63 kk
    replace B80 := blk_on B80 kk
    replace B309 := blk_on B309 kk
    clear kk
    have HUB : Hid (0 < p.1.tree.vars.length → ub = some ⟨gb, 0, none⟩) := Lib.hid fun h => (hvr.1 h).1
    have HGB : Hid (0 < p.1.tree.vars.length → ∀ k, vm.ownBlock = some k → k ≠ gb) := Lib.hid fun h k hk => by have h1 := (HROW.out.lt k hk).2; have h2 := (hvr.1 h).2.1; omega
    have HVC := Lib.hid hvr.2; clear hvr hsz
    refine ⟨_, rfl, fun a339 e => ?_⟩
    have g55 := R.at_ e (by decide); replace R := R.put e; replace h5 := slot_on e h5 (by decide); replace h6 := slot_on e h6 (by decide); replace h7 := slot_on e h7 (by decide); replace h8 := slot_on e h8 (by decide); replace h9 := slot_on e h9 (by decide); replace h10 := slot_on e h10 (by decide); replace h12 := slot_on e h12 (by decide); replace h40 := slot_on e h40 (by decide); replace h41 := slot_on e h41 (by decide); replace h42 := slot_on e h42 (by decide); replace h43 := slot_on e h43 (by decide); replace h44 := slot_on e h44 (by decide); replace h45 := slot_on e h45 (by decide); replace h46 := slot_on e h46 (by decide); replace h47 := slot_on e h47 (by decide); replace h48 := slot_on e h48 (by decide); replace h49 := slot_on e h49 (by decide); replace h50 := slot_on e h50 (by decide); replace h51 := slot_on e h51 (by decide); replace h52 := slot_on e h52 (by decide); replace h53 := slot_on e h53 (by decide); replace h54 := slot_on e h54 (by decide); have h55 := g55; clear g55; clear e
    have Y : (execOp a339.eval o10_13_2).run Try.prog w338 = .ok (.value (.int .i64 p.1.tree.vars.length)) w338 := by unfold o10_13_2; go_simp
    refine st_val g10_13_2 rfl (wanted_free rfl) Y fun a341 e => ?_; clear Y
    have g56 := R.at_ e (by decide); replace R := R.put e; replace h5 := slot_on e h5 (by decide); replace h6 := slot_on e h6 (by decide); replace h7 := slot_on e h7 (by decide); replace h8 := slot_on e h8 (by decide); replace h9 := slot_on e h9 (by decide); replace h10 := slot_on e h10 (by decide); replace h12 := slot_on e h12 (by decide); replace h40 := slot_on e h40 (by decide); replace h41 := slot_on e h41 (by decide); replace h42 := slot_on e h42 (by decide); replace h43 := slot_on e h43 (by decide); replace h44 := slot_on e h44 (by decide); replace h45 := slot_on e h45 (by decide); replace h46 := slot_on e h46 (by decide); replace h47 := slot_on e h47 (by decide); replace h48 := slot_on e h48 (by decide); replace h49 := slot_on e h49 (by decide); replace h50 := slot_on e h50 (by decide); replace h51 := slot_on e h51 (by decide); replace h52 := slot_on e h52 (by decide); replace h53 := slot_on e h53 (by decide); replace h54 := slot_on e h54 (by decide); replace h55 := slot_on e h55 (by decide); have h56 := g56; clear g56; clear e
    have Y : (execOp a341.eval o10_13_3).run Try.prog w338 = .ok (.value (.int .i64 0)) w338 := by unfold o10_13_3; go_simp
    refine st_val g10_13_3 rfl (wanted_free rfl) Y fun a343 e => ?_; clear Y
    have g57 := R.at_ e (by decide); replace R := R.put e; replace h5 := slot_on e h5 (by decide); replace h6 := slot_on e h6 (by decide); replace h7 := slot_on e h7 (by decide); replace h8 := slot_on e h8 (by decide); replace h9 := slot_on e h9 (by decide); replace h10 := slot_on e h10 (by decide); replace h12 := slot_on e h12 (by decide); replace h40 := slot_on e h40 (by decide); replace h41 := slot_on e h41 (by decide); replace h42 := slot_on e h42 (by decide); replace h43 := slot_on e h43 (by decide); replace h44 := slot_on e h44 (by decide); replace h45 := slot_on e h45 (by decide); replace h46 := slot_on e h46 (by decide); replace h47 := slot_on e h47 (by decide); replace h48 := slot_on e h48 (by decide); replace h49 := slot_on e h49 (by decide); replace h50 := slot_on e h50 (by decide); replace h51 := slot_on e h51 (by decide); replace h52 := slot_on e h52 (by decide); replace h53 := slot_on e h53 (by decide); replace h54 := slot_on e h54 (by decide); replace h55 := slot_on e h55 (by decide); replace h56 := slot_on e h56 (by decide); have h57 := g57; clear g57; clear e
    refine st_end ?_
    change (c10_45).wp _ _ _ _
    refine wp_block (id := 2) (c := c10_46) ?_
    have HROW3 := Lib.hid (row_kept HROW.out KR)
    have hlq3 : b96 ≤ w338.heap.size := Nat.le_trans hlq KR.size
    have HVC3 : Hid (∀ (k : Nat) (z : Int), p.1.tree.vars[k]? = some z → w338.cell? ⟨gb, k, none⟩ = some (.int .i64 z)) := HVC
    clear KR; have KR := Keep.refl (fun g => g < w338.heap.size) w338
    clear B309
    refine wp_loop_ghost (c := c10_47) (fun n f9 w9 => ∃ i : Nat, ∃ wr : World, ∃ vm : Value, n = p.1.tree.vars.length - i ∧ FrS 128 f9 ∧ f9.tmps[5]? = some (.pointer (some ⟨b63, 0, none⟩)) ∧ f9.tmps[6]? = some (.bool false) ∧ f9.tmps[7]? = some (.pointer (some ⟨b80, 0, none⟩)) ∧ f9.tmps[8]? = some (.int .i64 (szA (ps.map (·.1)) (j + 1) : Int)) ∧ f9.tmps[9]? = some (.int .i64 (dpA (ps.map (·.1)) (j + 1) : Int)) ∧ f9.tmps[10]? = some (vm) ∧ f9.tmps[12]? = some (.pointer (some ⟨b309, 0, none⟩)) ∧ f9.tmps[40]? = some (.slice sa ps.length sc) ∧ f9.tmps[41]? = some (.int .i64 ps.length) ∧ f9.tmps[42]? = some (.int .i64 (j : Int)) ∧ f9.tmps[43]? = some (.bool true) ∧ f9.tmps[44]? = some (.pointer (some ⟨bA, oA + j * 4, none⟩)) ∧ f9.tmps[45]? = some (.agg #[.int .i64 p.1.k, .string (str p.1.nm), .int .i64 p.1.i, .slice p.2.1 p.1.args.length p.2.2]) ∧ f9.tmps[46]? = some (.int .i64 (szA (ps.map (·.1)) j : Int)) ∧ f9.tmps[47]? = some (.agg #[.int .i64 p.1.k, .string (str p.1.nm), .int .i64 p.1.i, .slice p.2.1 p.1.args.length p.2.2]) ∧ f9.tmps[48]? = some (.int .i64 (p.1.ns : Int)) ∧ f9.tmps[49]? = some (.int .i64 (szA (ps.map (·.1)) (j + 1) : Int)) ∧ f9.tmps[50]? = some (.int .i64 (dpA (ps.map (·.1)) j : Int)) ∧ f9.tmps[51]? = some (.agg #[.int .i64 p.1.k, .string (str p.1.nm), .int .i64 p.1.i, .slice p.2.1 p.1.args.length p.2.2]) ∧ f9.tmps[52]? = some (.int .i64 (p.1.nd : Int)) ∧ f9.tmps[53]? = some (.int .i64 (dpA (ps.map (·.1)) (j + 1) : Int)) ∧ f9.tmps[54]? = some (.agg #[.int .i64 p.1.k, .string (str p.1.nm), .int .i64 p.1.i, .slice p.2.1 p.1.args.length p.2.2]) ∧ f9.tmps[55]? = some (.slice ub p.1.tree.vars.length uc) ∧ f9.tmps[56]? = some (.int .i64 p.1.tree.vars.length) ∧ f9.tmps[57]? = some (.int .i64 (i : Int)) ∧ Keep (fun g => g < W.heap.size) W w9 ∧ Keep (fun g => g < wr.heap.size) wr w9 ∧ Blk w9 b63 24 #[.int .i64 v.k, .string (str v.nm), .int .i64 v.i, .slice va v.args.length vc] ∧ Blk w9 b80 24 #[.int .i64 4, .string (str nm), .int .i64 0, .slice sa ps.length sc] ∧ i ≤ p.1.tree.vars.length ∧ Hid (wr.ownsRow b96 2 1 vm (addAll (vaA (ps.map (·.1)) j) (p.1.tree.vars.take i)).length ((addAll (vaA (ps.map (·.1)) j) (p.1.tree.vars.take i)).map (Value.int .i64))) ∧ b96 ≤ wr.heap.size ∧ Hid (∀ (k : Nat) (z : Int), p.1.tree.vars[k]? = some z → wr.cell? ⟨gb, k, none⟩ = some (.int .i64 z)) ∧ Hid (0 < p.1.tree.vars.length → ∀ k, vm.ownBlock = some k → k ≠ gb)) (p.1.tree.vars.length - 0) ⟨0, w338, vm, rfl, R, h5, h6, h7, h8, h9, h10, h12, h40, h41, h42, h43, h44, h45, h46, h47, h48, h49, h50, h51, h52, h53, h54, h55, h56, h57, K1, KR, B63, B80, Nat.zero_le _, HROW3, hlq3, HVC3, HGB⟩ ?_
    clear R h5 h6 h7 h8 h9 h10 h12 h40 h41 h42 h43 h44 h45 h46 h47 h48 h49 h50 h51 h52 h53 h54 h55 h56 h57 K1 KR B63 B80
    rintro n347 a345 w346 ⟨i, wr, vm, rfl, R, h5, h6, h7, h8, h9, h10, h12, h40, h41, h42, h43, h44, h45, h46, h47, h48, h49, h50, h51, h52, h53, h54, h55, h56, h57, K1, KR, B63, B80, hi, HROW, hlq, HVC, HGB⟩
    have hi2 : i ≤ 2000 := Nat.le_trans hi HPV.out
    have hwi : IntKind.i64.wrap ((i : Int) + 1) = (i : Int) + 1 := by rw [IntKind.wrap_i64]; omega
    refine wp_seq (x := c10_48) (y := c10_49) ?_
    change (Code.region 14 O10_14 false).wp _ _ _ _
    refine reg_in (l := [0]) rfl ?_
    obtain ⟨b348, hb348⟩ : ∃ x, (decide ((i : Int) < (p.1.tree.vars.length : Int))) = x := ⟨_, rfl⟩
    have Y : (execOp a345.eval o10_14_0).run Try.prog w346 = .ok (.value (.bool b348)) w346 := by rw [← hb348]; unfold o10_14_0; go_simp
    refine st_val g10_14_0 rfl (wanted_free rfl) Y fun a349 e => ?_; clear Y
    have g58 := R.at_ e (by decide); replace R := R.put e; replace h5 := slot_on e h5 (by decide); replace h6 := slot_on e h6 (by decide); replace h7 := slot_on e h7 (by decide); replace h8 := slot_on e h8 (by decide); replace h9 := slot_on e h9 (by decide); replace h10 := slot_on e h10 (by decide); replace h12 := slot_on e h12 (by decide); replace h40 := slot_on e h40 (by decide); replace h41 := slot_on e h41 (by decide); replace h42 := slot_on e h42 (by decide); replace h43 := slot_on e h43 (by decide); replace h44 := slot_on e h44 (by decide); replace h45 := slot_on e h45 (by decide); replace h46 := slot_on e h46 (by decide); replace h47 := slot_on e h47 (by decide); replace h48 := slot_on e h48 (by decide); replace h49 := slot_on e h49 (by decide); replace h50 := slot_on e h50 (by decide); replace h51 := slot_on e h51 (by decide); replace h52 := slot_on e h52 (by decide); replace h53 := slot_on e h53 (by decide); replace h54 := slot_on e h54 (by decide); replace h55 := slot_on e h55 (by decide); replace h56 := slot_on e h56 (by decide); replace h57 := slot_on e h57 (by decide); have h58 := g58; clear g58; clear e
    refine st_end ?_
    change (c10_49).wp _ _ _ _
    refine wp_seq (x := c10_50) (y := c10_53) ?_
    cases b348 with
    | false =>
      have fb348 := hb348; clear hb348
      simp only [decide_eq_true_eq, decide_eq_false_iff_not, bne_iff_ne, bne_eq_false_iff_eq, beq_iff_eq, beq_eq_false_iff_ne, ne_eq, Bool.not_eq_true', Bool.not_eq_false', Bool.not_eq_eq_eq_not, Bool.not_true, Bool.not_false] at fb348
      refine wp_cond_false (x := Code.skip) (y := c10_52) (eval_slot h58) ?_
      refine wp_exit ?_
      change (c10_63).wp _ _ _ _
      change (Code.region 19 O10_19 false).wp _ _ _ _
      refine reg_in (l := [0, 1]) rfl ?_
      have Y : (execOp a349.eval o10_19_0).run Try.prog w346 = .ok (.value (.int .i64 ((j : Int) + 1))) w346 := by unfold o10_19_0; go_simp
      refine st_val g10_19_0 rfl (wanted_free rfl) Y fun a351 e => ?_; clear Y
      have g70 := R.at_ e (by decide); replace R := R.put e; replace h5 := slot_on e h5 (by decide); replace h6 := slot_on e h6 (by decide); replace h7 := slot_on e h7 (by decide); replace h8 := slot_on e h8 (by decide); replace h9 := slot_on e h9 (by decide); replace h10 := slot_on e h10 (by decide); replace h12 := slot_on e h12 (by decide); replace h40 := slot_on e h40 (by decide); replace h41 := slot_on e h41 (by decide); replace h42 := slot_on e h42 (by decide); replace h43 := slot_on e h43 (by decide); replace h44 := slot_on e h44 (by decide); replace h45 := slot_on e h45 (by decide); replace h46 := slot_on e h46 (by decide); replace h47 := slot_on e h47 (by decide); replace h48 := slot_on e h48 (by decide); replace h49 := slot_on e h49 (by decide); replace h50 := slot_on e h50 (by decide); replace h51 := slot_on e h51 (by decide); replace h52 := slot_on e h52 (by decide); replace h53 := slot_on e h53 (by decide); replace h54 := slot_on e h54 (by decide); replace h55 := slot_on e h55 (by decide); replace h56 := slot_on e h56 (by decide); replace h57 := slot_on e h57 (by decide); replace h58 := slot_on e h58 (by decide); have h70 := g70; clear g70; clear e
      have Y : (execOp a351.eval o10_19_1).run Try.prog w346 = .ok (.value (.int .i64 ((j : Int) + 1))) w346 := by unfold o10_19_1; go_simp
      refine st_val g10_19_1 rfl (wanted_free rfl) Y fun a353 e => ?_; clear Y
      have g42 := R.at_ e (by decide); replace R := R.put e; replace h5 := slot_on e h5 (by decide); replace h6 := slot_on e h6 (by decide); replace h7 := slot_on e h7 (by decide); replace h8 := slot_on e h8 (by decide); replace h9 := slot_on e h9 (by decide); replace h10 := slot_on e h10 (by decide); replace h12 := slot_on e h12 (by decide); replace h40 := slot_on e h40 (by decide); replace h41 := slot_on e h41 (by decide); replace h43 := slot_on e h43 (by decide); replace h44 := slot_on e h44 (by decide); replace h45 := slot_on e h45 (by decide); replace h46 := slot_on e h46 (by decide); replace h47 := slot_on e h47 (by decide); replace h48 := slot_on e h48 (by decide); replace h49 := slot_on e h49 (by decide); replace h50 := slot_on e h50 (by decide); replace h51 := slot_on e h51 (by decide); replace h52 := slot_on e h52 (by decide); replace h53 := slot_on e h53 (by decide); replace h54 := slot_on e h54 (by decide); replace h55 := slot_on e h55 (by decide); replace h56 := slot_on e h56 (by decide); replace h57 := slot_on e h57 (by decide); replace h58 := slot_on e h58 (by decide); replace h70 := slot_on e h70 (by decide); clear h42; have h42 := g42; clear g42; clear e
      refine st_end ?_
      exact ⟨_, by omega, j + 1, wr, vm, rfl, R, h5, h6, h7, h8, h9, h10, h40, h41, h42, K1, KR, B63, B80, (by omega), (Lib.hid (by have h := HROW.out; rw [show i = p.1.tree.vars.length from by omega, List.take_length, ← vaA_succ HTP.out] at h; exact h)), hlq⟩
    | true =>
      have fb348 := hb348; clear hb348
      simp only [decide_eq_true_eq, decide_eq_false_iff_not, bne_iff_ne, bne_eq_false_iff_eq, beq_iff_eq, beq_eq_false_iff_ne, ne_eq, Bool.not_eq_true', Bool.not_eq_false', Bool.not_eq_eq_eq_not, Bool.not_true, Bool.not_false] at fb348
      refine wp_cond_true (x := Code.skip) (y := c10_52) (eval_slot h58) ?_
      refine wp_skip ?_
      change (c10_53).wp _ _ _ _
      refine wp_seq (x := c10_54) (y := c10_62) ?_
      refine wp_block (id := 3) (c := c10_55) ?_
      refine wp_seq (x := c10_56) (y := c10_57) ?_
      change (Code.region 15 O10_15 false).wp _ _ _ _
      refine reg_in (l := [0, 1, 2]) rfl ?_
      have hub := HUB.out (by omega)
      have hltB : (i : Int) < (p.1.tree.vars.length : Int) := by omega
      have Y : (execOp a349.eval o10_15_0).run Try.prog w346 = .ok (.value (.pointer (some ⟨gb, i, none⟩))) w346 := by unfold o10_15_0; go_simp
      refine st_val g10_15_0 rfl (wanted_free rfl) Y fun a355 e => ?_; clear Y
      have g59 := R.at_ e (by decide); replace R := R.put e; replace h5 := slot_on e h5 (by decide); replace h6 := slot_on e h6 (by decide); replace h7 := slot_on e h7 (by decide); replace h8 := slot_on e h8 (by decide); replace h9 := slot_on e h9 (by decide); replace h10 := slot_on e h10 (by decide); replace h12 := slot_on e h12 (by decide); replace h40 := slot_on e h40 (by decide); replace h41 := slot_on e h41 (by decide); replace h42 := slot_on e h42 (by decide); replace h43 := slot_on e h43 (by decide); replace h44 := slot_on e h44 (by decide); replace h45 := slot_on e h45 (by decide); replace h46 := slot_on e h46 (by decide); replace h47 := slot_on e h47 (by decide); replace h48 := slot_on e h48 (by decide); replace h49 := slot_on e h49 (by decide); replace h50 := slot_on e h50 (by decide); replace h51 := slot_on e h51 (by decide); replace h52 := slot_on e h52 (by decide); replace h53 := slot_on e h53 (by decide); replace h54 := slot_on e h54 (by decide); replace h55 := slot_on e h55 (by decide); replace h56 := slot_on e h56 (by decide); replace h57 := slot_on e h57 (by decide); replace h58 := slot_on e h58 (by decide); have h59 := g59; clear g59; clear e
      obtain ⟨z, hz⟩ : ∃ q, p.1.tree.vars[i]? = some q := ⟨_, List.getElem?_eq_getElem (by omega)⟩
      have hzn : z = p.1.tree.vars[i]'(by omega) := by have h := hz; rw [List.getElem?_eq_getElem (by omega)] at h; injection h with h; exact h.symm
      have Y : (execOp a355.eval o10_15_1).run Try.prog w346 = .ok (.value (.int .i64 z)) w346 := by clear hzn; have hc9 := cell_on (HVC.out i _ hz) KR; unfold o10_15_1; go_simp
      refine st_val g10_15_1 rfl (wanted_free rfl) Y fun a357 e => ?_; clear Y
      have g60 := R.at_ e (by decide); replace R := R.put e; replace h5 := slot_on e h5 (by decide); replace h6 := slot_on e h6 (by decide); replace h7 := slot_on e h7 (by decide); replace h8 := slot_on e h8 (by decide); replace h9 := slot_on e h9 (by decide); replace h10 := slot_on e h10 (by decide); replace h12 := slot_on e h12 (by decide); replace h40 := slot_on e h40 (by decide); replace h41 := slot_on e h41 (by decide); replace h42 := slot_on e h42 (by decide); replace h43 := slot_on e h43 (by decide); replace h44 := slot_on e h44 (by decide); replace h45 := slot_on e h45 (by decide); replace h46 := slot_on e h46 (by decide); replace h47 := slot_on e h47 (by decide); replace h48 := slot_on e h48 (by decide); replace h49 := slot_on e h49 (by decide); replace h50 := slot_on e h50 (by decide); replace h51 := slot_on e h51 (by decide); replace h52 := slot_on e h52 (by decide); replace h53 := slot_on e h53 (by decide); replace h54 := slot_on e h54 (by decide); replace h55 := slot_on e h55 (by decide); replace h56 := slot_on e h56 (by decide); replace h57 := slot_on e h57 (by decide); replace h58 := slot_on e h58 (by decide); replace h59 := slot_on e h59 (by decide); have h60 := g60; clear g60; clear e
      have Y : (execOp a357.eval o10_15_2).run Try.prog w346 = .ok (.value (.int .i64 z)) w346 := by unfold o10_15_2; go_simp
      refine st_val g10_15_2 rfl (wanted_free rfl) Y fun a359 e => ?_; clear Y
      have g14 := R.at_ e (by decide); replace R := R.put e; replace h5 := slot_on e h5 (by decide); replace h6 := slot_on e h6 (by decide); replace h7 := slot_on e h7 (by decide); replace h8 := slot_on e h8 (by decide); replace h9 := slot_on e h9 (by decide); replace h10 := slot_on e h10 (by decide); replace h12 := slot_on e h12 (by decide); replace h40 := slot_on e h40 (by decide); replace h41 := slot_on e h41 (by decide); replace h42 := slot_on e h42 (by decide); replace h43 := slot_on e h43 (by decide); replace h44 := slot_on e h44 (by decide); replace h45 := slot_on e h45 (by decide); replace h46 := slot_on e h46 (by decide); replace h47 := slot_on e h47 (by decide); replace h48 := slot_on e h48 (by decide); replace h49 := slot_on e h49 (by decide); replace h50 := slot_on e h50 (by decide); replace h51 := slot_on e h51 (by decide); replace h52 := slot_on e h52 (by decide); replace h53 := slot_on e h53 (by decide); replace h54 := slot_on e h54 (by decide); replace h55 := slot_on e h55 (by decide); replace h56 := slot_on e h56 (by decide); replace h57 := slot_on e h57 (by decide); replace h58 := slot_on e h58 (by decide); replace h59 := slot_on e h59 (by decide); replace h60 := slot_on e h60 (by decide); have h14 := g14; clear g14; clear e
      refine st_end ?_
      change (c10_57).wp _ _ _ _
      refine wp_seq (x := c10_58) (y := c10_59) ?_
      change (Code.region 16 O10_16 false).wp _ _ _ _
      refine reg_in (l := [0, 1, 2, 3]) rfl ?_
      have Y : (execOp a359.eval o10_16_0).run Try.prog w346 = .ok (.value (vm)) w346 := by unfold o10_16_0; go_simp
      refine st_val g10_16_0 rfl (wanted_free rfl) Y fun a361 e => ?_; clear Y
      have g61 := R.at_ e (by decide); replace R := R.put e; replace h5 := slot_on e h5 (by decide); replace h6 := slot_on e h6 (by decide); replace h7 := slot_on e h7 (by decide); replace h8 := slot_on e h8 (by decide); replace h9 := slot_on e h9 (by decide); replace h10 := slot_on e h10 (by decide); replace h12 := slot_on e h12 (by decide); replace h14 := slot_on e h14 (by decide); replace h40 := slot_on e h40 (by decide); replace h41 := slot_on e h41 (by decide); replace h42 := slot_on e h42 (by decide); replace h43 := slot_on e h43 (by decide); replace h44 := slot_on e h44 (by decide); replace h45 := slot_on e h45 (by decide); replace h46 := slot_on e h46 (by decide); replace h47 := slot_on e h47 (by decide); replace h48 := slot_on e h48 (by decide); replace h49 := slot_on e h49 (by decide); replace h50 := slot_on e h50 (by decide); replace h51 := slot_on e h51 (by decide); replace h52 := slot_on e h52 (by decide); replace h53 := slot_on e h53 (by decide); replace h54 := slot_on e h54 (by decide); replace h55 := slot_on e h55 (by decide); replace h56 := slot_on e h56 (by decide); replace h57 := slot_on e h57 (by decide); replace h58 := slot_on e h58 (by decide); replace h59 := slot_on e h59 (by decide); replace h60 := slot_on e h60 (by decide); have h61 := g61; clear g61; clear e
      have Y : (execOp a361.eval o10_16_1).run Try.prog w346 = .ok (.value (.int .i64 z)) w346 := by unfold o10_16_1; go_simp
      refine st_val g10_16_1 rfl (wanted_free rfl) Y fun a363 e => ?_; clear Y
      have g62 := R.at_ e (by decide); replace R := R.put e; replace h5 := slot_on e h5 (by decide); replace h6 := slot_on e h6 (by decide); replace h7 := slot_on e h7 (by decide); replace h8 := slot_on e h8 (by decide); replace h9 := slot_on e h9 (by decide); replace h10 := slot_on e h10 (by decide); replace h12 := slot_on e h12 (by decide); replace h14 := slot_on e h14 (by decide); replace h40 := slot_on e h40 (by decide); replace h41 := slot_on e h41 (by decide); replace h42 := slot_on e h42 (by decide); replace h43 := slot_on e h43 (by decide); replace h44 := slot_on e h44 (by decide); replace h45 := slot_on e h45 (by decide); replace h46 := slot_on e h46 (by decide); replace h47 := slot_on e h47 (by decide); replace h48 := slot_on e h48 (by decide); replace h49 := slot_on e h49 (by decide); replace h50 := slot_on e h50 (by decide); replace h51 := slot_on e h51 (by decide); replace h52 := slot_on e h52 (by decide); replace h53 := slot_on e h53 (by decide); replace h54 := slot_on e h54 (by decide); replace h55 := slot_on e h55 (by decide); replace h56 := slot_on e h56 (by decide); replace h57 := slot_on e h57 (by decide); replace h58 := slot_on e h58 (by decide); replace h59 := slot_on e h59 (by decide); replace h60 := slot_on e h60 (by decide); replace h61 := slot_on e h61 (by decide); have h62 := g62; clear g62; clear e
      have Y : (execOp a363.eval o10_16_2).run Try.prog w346 = .ok (.enter 31 #[vm, .int .i64 z]) w346 := by unfold o10_16_2; go_simp
      obtain ⟨bm, hbm⟩ : ∃ y, among (addAll (vaA (ps.map (·.1)) j) (p.1.tree.vars.take i)) z = y := ⟨_, rfl⟩
      have HADL : Hid ((addAll (vaA (ps.map (·.1)) j) (p.1.tree.vars.take i)).length ≤ 4000) := Lib.hid (by have h1 := addAll_len (p.1.tree.vars.take i) (vaA (ps.map (·.1)) j); have h2 := HVB.out j (by omega); have h3 := HPV.out; rw [List.length_take] at h1; omega)
      have hlg := haslong_row (z := z) (row_kept HROW.out KR) (Nat.le_trans HADL.out (by decide))
      rw [hbm] at hlg; have HBM := Lib.hid hbm; clear hbm
      refine st_call g10_16_2 rfl (wanted_free rfl) Y ((hlg).mono ?_); clear Y
      rintro e9 w365 ⟨rfl, kk⟩
      replace K1 := keep_onto K1 kk
      replace KR := keep_onto KR kk
      replace B63 := blk_on B63 kk
      replace B80 := blk_on B80 kk
      clear kk
      clear hlg
      refine ⟨_, rfl, fun a366 e => ?_⟩
      have g63 := R.at_ e (by decide); replace R := R.put e; replace h5 := slot_on e h5 (by decide); replace h6 := slot_on e h6 (by decide); replace h7 := slot_on e h7 (by decide); replace h8 := slot_on e h8 (by decide); replace h9 := slot_on e h9 (by decide); replace h10 := slot_on e h10 (by decide); replace h12 := slot_on e h12 (by decide); replace h14 := slot_on e h14 (by decide); replace h40 := slot_on e h40 (by decide); replace h41 := slot_on e h41 (by decide); replace h42 := slot_on e h42 (by decide); replace h43 := slot_on e h43 (by decide); replace h44 := slot_on e h44 (by decide); replace h45 := slot_on e h45 (by decide); replace h46 := slot_on e h46 (by decide); replace h47 := slot_on e h47 (by decide); replace h48 := slot_on e h48 (by decide); replace h49 := slot_on e h49 (by decide); replace h50 := slot_on e h50 (by decide); replace h51 := slot_on e h51 (by decide); replace h52 := slot_on e h52 (by decide); replace h53 := slot_on e h53 (by decide); replace h54 := slot_on e h54 (by decide); replace h55 := slot_on e h55 (by decide); replace h56 := slot_on e h56 (by decide); replace h57 := slot_on e h57 (by decide); replace h58 := slot_on e h58 (by decide); replace h59 := slot_on e h59 (by decide); replace h60 := slot_on e h60 (by decide); replace h61 := slot_on e h61 (by decide); replace h62 := slot_on e h62 (by decide); have h63 := g63; clear g63; clear e
      cases bm with
      | false =>
        have Y : (execOp a366.eval o10_16_3).run Try.prog w365 = .ok (.value (.bool true)) w365 := by unfold o10_16_3; go_simp
        refine st_val g10_16_3 rfl (wanted_free rfl) Y fun a368 e => ?_; clear Y
        have g64 := R.at_ e (by decide); replace R := R.put e; replace h5 := slot_on e h5 (by decide); replace h6 := slot_on e h6 (by decide); replace h7 := slot_on e h7 (by decide); replace h8 := slot_on e h8 (by decide); replace h9 := slot_on e h9 (by decide); replace h10 := slot_on e h10 (by decide); replace h12 := slot_on e h12 (by decide); replace h14 := slot_on e h14 (by decide); replace h40 := slot_on e h40 (by decide); replace h41 := slot_on e h41 (by decide); replace h42 := slot_on e h42 (by decide); replace h43 := slot_on e h43 (by decide); replace h44 := slot_on e h44 (by decide); replace h45 := slot_on e h45 (by decide); replace h46 := slot_on e h46 (by decide); replace h47 := slot_on e h47 (by decide); replace h48 := slot_on e h48 (by decide); replace h49 := slot_on e h49 (by decide); replace h50 := slot_on e h50 (by decide); replace h51 := slot_on e h51 (by decide); replace h52 := slot_on e h52 (by decide); replace h53 := slot_on e h53 (by decide); replace h54 := slot_on e h54 (by decide); replace h55 := slot_on e h55 (by decide); replace h56 := slot_on e h56 (by decide); replace h57 := slot_on e h57 (by decide); replace h58 := slot_on e h58 (by decide); replace h59 := slot_on e h59 (by decide); replace h60 := slot_on e h60 (by decide); replace h61 := slot_on e h61 (by decide); replace h62 := slot_on e h62 (by decide); replace h63 := slot_on e h63 (by decide); have h64 := g64; clear g64; clear e
        refine st_end ?_
        change (c10_59).wp _ _ _ _
        refine wp_cond_true (x := c10_60) (y := Code.skip) (eval_slot h64) ?_
        change (Code.region 17 O10_17 false).wp _ _ _ _
        refine reg_in (l := [0, 1, 2, 3, 4]) rfl ?_
        have Y : (execOp a368.eval o10_17_0).run Try.prog w365 = .ok (.value (vm)) w365 := by unfold o10_17_0; go_simp
        refine st_val g10_17_0 rfl (wanted_free rfl) Y fun a370 e => ?_; clear Y
        have g65 := R.at_ e (by decide); replace R := R.put e; replace h5 := slot_on e h5 (by decide); replace h6 := slot_on e h6 (by decide); replace h7 := slot_on e h7 (by decide); replace h8 := slot_on e h8 (by decide); replace h9 := slot_on e h9 (by decide); replace h10 := slot_on e h10 (by decide); replace h12 := slot_on e h12 (by decide); replace h14 := slot_on e h14 (by decide); replace h40 := slot_on e h40 (by decide); replace h41 := slot_on e h41 (by decide); replace h42 := slot_on e h42 (by decide); replace h43 := slot_on e h43 (by decide); replace h44 := slot_on e h44 (by decide); replace h45 := slot_on e h45 (by decide); replace h46 := slot_on e h46 (by decide); replace h47 := slot_on e h47 (by decide); replace h48 := slot_on e h48 (by decide); replace h49 := slot_on e h49 (by decide); replace h50 := slot_on e h50 (by decide); replace h51 := slot_on e h51 (by decide); replace h52 := slot_on e h52 (by decide); replace h53 := slot_on e h53 (by decide); replace h54 := slot_on e h54 (by decide); replace h55 := slot_on e h55 (by decide); replace h56 := slot_on e h56 (by decide); replace h57 := slot_on e h57 (by decide); replace h58 := slot_on e h58 (by decide); replace h59 := slot_on e h59 (by decide); replace h60 := slot_on e h60 (by decide); replace h61 := slot_on e h61 (by decide); replace h62 := slot_on e h62 (by decide); replace h63 := slot_on e h63 (by decide); replace h64 := slot_on e h64 (by decide); have h65 := g65; clear g65; clear e
        have Y : (execOp a370.eval o10_17_1).run Try.prog w365 = .ok (.value (.int .i64 z)) w365 := by unfold o10_17_1; go_simp
        refine st_val g10_17_1 rfl (wanted_free rfl) Y fun a372 e => ?_; clear Y
        have g66 := R.at_ e (by decide); replace R := R.put e; replace h5 := slot_on e h5 (by decide); replace h6 := slot_on e h6 (by decide); replace h7 := slot_on e h7 (by decide); replace h8 := slot_on e h8 (by decide); replace h9 := slot_on e h9 (by decide); replace h10 := slot_on e h10 (by decide); replace h12 := slot_on e h12 (by decide); replace h14 := slot_on e h14 (by decide); replace h40 := slot_on e h40 (by decide); replace h41 := slot_on e h41 (by decide); replace h42 := slot_on e h42 (by decide); replace h43 := slot_on e h43 (by decide); replace h44 := slot_on e h44 (by decide); replace h45 := slot_on e h45 (by decide); replace h46 := slot_on e h46 (by decide); replace h47 := slot_on e h47 (by decide); replace h48 := slot_on e h48 (by decide); replace h49 := slot_on e h49 (by decide); replace h50 := slot_on e h50 (by decide); replace h51 := slot_on e h51 (by decide); replace h52 := slot_on e h52 (by decide); replace h53 := slot_on e h53 (by decide); replace h54 := slot_on e h54 (by decide); replace h55 := slot_on e h55 (by decide); replace h56 := slot_on e h56 (by decide); replace h57 := slot_on e h57 (by decide); replace h58 := slot_on e h58 (by decide); replace h59 := slot_on e h59 (by decide); replace h60 := slot_on e h60 (by decide); replace h61 := slot_on e h61 (by decide); replace h62 := slot_on e h62 (by decide); replace h63 := slot_on e h63 (by decide); replace h64 := slot_on e h64 (by decide); replace h65 := slot_on e h65 (by decide); have h66 := g66; clear g66; clear e
        have MK1 := K1
        have MKR := KR
        have Y : (execOp a372.eval o10_17_2).run Try.prog w365 = .ok (.value (.slice (some ⟨w365.heap.size, 0, none⟩) 1 1)) (w365.alloc (.cells #[.int .i64 z] 2)) := by unfold o10_17_2; go_simp
        have B374 := Blk.new w365 2 #[.int .i64 z]
        replace K1 := K1.alloc (.cells #[.int .i64 z] 2)
        replace KR := KR.alloc (.cells #[.int .i64 z] 2)
        have Nb63_b374 := Nat.ne_of_lt B63.lt; replace B63 := B63.alloc (.cells #[.int .i64 z] 2)
        have Nb80_b374 := Nat.ne_of_lt B80.lt; replace B80 := B80.alloc (.cells #[.int .i64 z] 2)
        obtain ⟨w375, hw375⟩ : ∃ x, x = w365.alloc (.cells #[.int .i64 z] 2) := ⟨_, rfl⟩
        rw [← hw375] at Y B374 K1 KR B63 B80
        obtain ⟨b374, hb374⟩ : ∃ x, x = w365.heap.size := ⟨_, rfl⟩
        rw [← hb374] at Y B374 Nb63_b374 Nb80_b374
        have LK1_b374 : W.heap.size ≤ b374 := by rw [hb374]; first | exact Nat.le_refl _ | exact MK1.size
        have LKR_b374 : wr.heap.size ≤ b374 := by rw [hb374]; first | exact Nat.le_refl _ | exact MKR.size
        clear hw375 hb374 MK1 MKR
        refine st_val g10_17_2 rfl (wanted_free rfl) Y fun a376 e => ?_; clear Y
        have g67 := R.at_ e (by decide); replace R := R.put e; replace h5 := slot_on e h5 (by decide); replace h6 := slot_on e h6 (by decide); replace h7 := slot_on e h7 (by decide); replace h8 := slot_on e h8 (by decide); replace h9 := slot_on e h9 (by decide); replace h10 := slot_on e h10 (by decide); replace h12 := slot_on e h12 (by decide); replace h14 := slot_on e h14 (by decide); replace h40 := slot_on e h40 (by decide); replace h41 := slot_on e h41 (by decide); replace h42 := slot_on e h42 (by decide); replace h43 := slot_on e h43 (by decide); replace h44 := slot_on e h44 (by decide); replace h45 := slot_on e h45 (by decide); replace h46 := slot_on e h46 (by decide); replace h47 := slot_on e h47 (by decide); replace h48 := slot_on e h48 (by decide); replace h49 := slot_on e h49 (by decide); replace h50 := slot_on e h50 (by decide); replace h51 := slot_on e h51 (by decide); replace h52 := slot_on e h52 (by decide); replace h53 := slot_on e h53 (by decide); replace h54 := slot_on e h54 (by decide); replace h55 := slot_on e h55 (by decide); replace h56 := slot_on e h56 (by decide); replace h57 := slot_on e h57 (by decide); replace h58 := slot_on e h58 (by decide); replace h59 := slot_on e h59 (by decide); replace h60 := slot_on e h60 (by decide); replace h61 := slot_on e h61 (by decide); replace h62 := slot_on e h62 (by decide); replace h63 := slot_on e h63 (by decide); replace h64 := slot_on e h64 (by decide); replace h65 := slot_on e h65 (by decide); replace h66 := slot_on e h66 (by decide); have h67 := g67; clear g67; clear e
        obtain ⟨v8, w8, hap, hrow, kap, kgn, hob⟩ := append_long (z := z) (ty := o10_17_3.type) (b2 := b374) (c2 := 1) (row_kept HROW.out KR) B374 (by have := HADL.out; omega) (Nat.le_trans hlq KR.size)
        have Y : (execOp a376.eval o10_17_3).run Try.prog w375 = .ok (.value v8) w8 := by
          unfold o10_17_3 at hap ⊢; unfold execOp; simp only [resolve, invoke, builtin, Sem.run_bind, Sem.run_pure, Result.andThen_ok, List.map_toArray, List.map_cons, List.map_nil, eval_slot h65, eval_slot h67]; rw [hap]; rfl
        clear B374
        replace K1 := K1.trans (kap.less fun g hg => Nat.lt_of_lt_of_le hg hbW)
        replace B63 := B63.keep kap Ab63
        replace B80 := B80.keep kap Ab80
        have hlq2 : b96 ≤ w8.heap.size := Nat.le_trans hlq (Nat.le_trans KR.size kap.size)
        have HVC2 : Hid (∀ (k : Nat) (z : Int), p.1.tree.vars[k]? = some z → w8.cell? ⟨gb, k, none⟩ = some (.int .i64 z)) := Lib.hid fun k z h => cell_keep (cell_on (HVC.out k z h) KR) kgn (fun hx => HGB.out (by omega) _ hx rfl)
        have hgb9 := World.block_lt_of_cell? _ _ (cell_on (HVC.out i _ hz) KR)
        have hgb8 : gb < w375.heap.size := hgb9
        have HGB2 : Hid (0 < p.1.tree.vars.length → ∀ k, v8.ownBlock = some k → k ≠ gb) := Lib.hid fun h k hk => hob.elim (fun e => HGB.out h k (e.symm.trans hk)) (fun e => by rw [e] at hk; injection hk with hk; intro e2; omega)
        clear KR hap kgn hob hgb9 hgb8
        have KR := Keep.refl (fun g => g < w8.heap.size) w8
        have HROW2 : Hid (w8.ownsRow b96 2 1 v8 (addAll (vaA (ps.map (·.1)) j) (p.1.tree.vars.take (i + 1))).length ((addAll (vaA (ps.map (·.1)) j) (p.1.tree.vars.take (i + 1))).map (Value.int .i64))) := Lib.hid (by rw [List.take_succ_eq_append_getElem (show i < p.1.tree.vars.length by omega), addAll_snoc, if_neg (by rw [← hzn]; intro hm; have := (among_iff _ _).2 hm; rw [HBM.out] at this; cases this), ← hzn]; exact hrow)
        clear hrow
        refine st_val g10_17_3 rfl (wanted_free rfl) Y fun a378 e => ?_; clear Y
        have g68 := R.at_ e (by decide); replace R := R.put e; replace h5 := slot_on e h5 (by decide); replace h6 := slot_on e h6 (by decide); replace h7 := slot_on e h7 (by decide); replace h8 := slot_on e h8 (by decide); replace h9 := slot_on e h9 (by decide); replace h10 := slot_on e h10 (by decide); replace h12 := slot_on e h12 (by decide); replace h14 := slot_on e h14 (by decide); replace h40 := slot_on e h40 (by decide); replace h41 := slot_on e h41 (by decide); replace h42 := slot_on e h42 (by decide); replace h43 := slot_on e h43 (by decide); replace h44 := slot_on e h44 (by decide); replace h45 := slot_on e h45 (by decide); replace h46 := slot_on e h46 (by decide); replace h47 := slot_on e h47 (by decide); replace h48 := slot_on e h48 (by decide); replace h49 := slot_on e h49 (by decide); replace h50 := slot_on e h50 (by decide); replace h51 := slot_on e h51 (by decide); replace h52 := slot_on e h52 (by decide); replace h53 := slot_on e h53 (by decide); replace h54 := slot_on e h54 (by decide); replace h55 := slot_on e h55 (by decide); replace h56 := slot_on e h56 (by decide); replace h57 := slot_on e h57 (by decide); replace h58 := slot_on e h58 (by decide); replace h59 := slot_on e h59 (by decide); replace h60 := slot_on e h60 (by decide); replace h61 := slot_on e h61 (by decide); replace h62 := slot_on e h62 (by decide); replace h63 := slot_on e h63 (by decide); replace h64 := slot_on e h64 (by decide); replace h65 := slot_on e h65 (by decide); replace h66 := slot_on e h66 (by decide); replace h67 := slot_on e h67 (by decide); have h68 := g68; clear g68; clear e
        have Y : (execOp a378.eval o10_17_4).run Try.prog w8 = .ok (.value (v8)) w8 := by unfold o10_17_4; go_simp
        refine st_val g10_17_4 rfl (wanted_free rfl) Y fun a380 e => ?_; clear Y
        have g10 := R.at_ e (by decide); replace R := R.put e; replace h5 := slot_on e h5 (by decide); replace h6 := slot_on e h6 (by decide); replace h7 := slot_on e h7 (by decide); replace h8 := slot_on e h8 (by decide); replace h9 := slot_on e h9 (by decide); replace h12 := slot_on e h12 (by decide); replace h14 := slot_on e h14 (by decide); replace h40 := slot_on e h40 (by decide); replace h41 := slot_on e h41 (by decide); replace h42 := slot_on e h42 (by decide); replace h43 := slot_on e h43 (by decide); replace h44 := slot_on e h44 (by decide); replace h45 := slot_on e h45 (by decide); replace h46 := slot_on e h46 (by decide); replace h47 := slot_on e h47 (by decide); replace h48 := slot_on e h48 (by decide); replace h49 := slot_on e h49 (by decide); replace h50 := slot_on e h50 (by decide); replace h51 := slot_on e h51 (by decide); replace h52 := slot_on e h52 (by decide); replace h53 := slot_on e h53 (by decide); replace h54 := slot_on e h54 (by decide); replace h55 := slot_on e h55 (by decide); replace h56 := slot_on e h56 (by decide); replace h57 := slot_on e h57 (by decide); replace h58 := slot_on e h58 (by decide); replace h59 := slot_on e h59 (by decide); replace h60 := slot_on e h60 (by decide); replace h61 := slot_on e h61 (by decide); replace h62 := slot_on e h62 (by decide); replace h63 := slot_on e h63 (by decide); replace h64 := slot_on e h64 (by decide); replace h65 := slot_on e h65 (by decide); replace h66 := slot_on e h66 (by decide); replace h67 := slot_on e h67 (by decide); replace h68 := slot_on e h68 (by decide); clear h10; have h10 := g10; clear g10; clear e
        refine st_end ?_
        change (c10_62).wp _ _ _ _
        change (Code.region 18 O10_18 false).wp _ _ _ _
        refine reg_in (l := [0, 1]) rfl ?_
        have Y : (execOp a380.eval o10_18_0).run Try.prog w8 = .ok (.value (.int .i64 ((i : Int) + 1))) w8 := by unfold o10_18_0; go_simp
        refine st_val g10_18_0 rfl (wanted_free rfl) Y fun a382 e => ?_; clear Y
        have g69 := R.at_ e (by decide); replace R := R.put e; replace h5 := slot_on e h5 (by decide); replace h6 := slot_on e h6 (by decide); replace h7 := slot_on e h7 (by decide); replace h8 := slot_on e h8 (by decide); replace h9 := slot_on e h9 (by decide); replace h10 := slot_on e h10 (by decide); replace h12 := slot_on e h12 (by decide); replace h14 := slot_on e h14 (by decide); replace h40 := slot_on e h40 (by decide); replace h41 := slot_on e h41 (by decide); replace h42 := slot_on e h42 (by decide); replace h43 := slot_on e h43 (by decide); replace h44 := slot_on e h44 (by decide); replace h45 := slot_on e h45 (by decide); replace h46 := slot_on e h46 (by decide); replace h47 := slot_on e h47 (by decide); replace h48 := slot_on e h48 (by decide); replace h49 := slot_on e h49 (by decide); replace h50 := slot_on e h50 (by decide); replace h51 := slot_on e h51 (by decide); replace h52 := slot_on e h52 (by decide); replace h53 := slot_on e h53 (by decide); replace h54 := slot_on e h54 (by decide); replace h55 := slot_on e h55 (by decide); replace h56 := slot_on e h56 (by decide); replace h57 := slot_on e h57 (by decide); replace h58 := slot_on e h58 (by decide); replace h59 := slot_on e h59 (by decide); replace h60 := slot_on e h60 (by decide); replace h61 := slot_on e h61 (by decide); replace h62 := slot_on e h62 (by decide); replace h63 := slot_on e h63 (by decide); replace h64 := slot_on e h64 (by decide); replace h65 := slot_on e h65 (by decide); replace h66 := slot_on e h66 (by decide); replace h67 := slot_on e h67 (by decide); replace h68 := slot_on e h68 (by decide); have h69 := g69; clear g69; clear e
        have Y : (execOp a382.eval o10_18_1).run Try.prog w8 = .ok (.value (.int .i64 ((i : Int) + 1))) w8 := by unfold o10_18_1; go_simp
        refine st_val g10_18_1 rfl (wanted_free rfl) Y fun a384 e => ?_; clear Y
        have g57 := R.at_ e (by decide); replace R := R.put e; replace h5 := slot_on e h5 (by decide); replace h6 := slot_on e h6 (by decide); replace h7 := slot_on e h7 (by decide); replace h8 := slot_on e h8 (by decide); replace h9 := slot_on e h9 (by decide); replace h10 := slot_on e h10 (by decide); replace h12 := slot_on e h12 (by decide); replace h14 := slot_on e h14 (by decide); replace h40 := slot_on e h40 (by decide); replace h41 := slot_on e h41 (by decide); replace h42 := slot_on e h42 (by decide); replace h43 := slot_on e h43 (by decide); replace h44 := slot_on e h44 (by decide); replace h45 := slot_on e h45 (by decide); replace h46 := slot_on e h46 (by decide); replace h47 := slot_on e h47 (by decide); replace h48 := slot_on e h48 (by decide); replace h49 := slot_on e h49 (by decide); replace h50 := slot_on e h50 (by decide); replace h51 := slot_on e h51 (by decide); replace h52 := slot_on e h52 (by decide); replace h53 := slot_on e h53 (by decide); replace h54 := slot_on e h54 (by decide); replace h55 := slot_on e h55 (by decide); replace h56 := slot_on e h56 (by decide); replace h58 := slot_on e h58 (by decide); replace h59 := slot_on e h59 (by decide); replace h60 := slot_on e h60 (by decide); replace h61 := slot_on e h61 (by decide); replace h62 := slot_on e h62 (by decide); replace h63 := slot_on e h63 (by decide); replace h64 := slot_on e h64 (by decide); replace h65 := slot_on e h65 (by decide); replace h66 := slot_on e h66 (by decide); replace h67 := slot_on e h67 (by decide); replace h68 := slot_on e h68 (by decide); replace h69 := slot_on e h69 (by decide); clear h57; have h57 := g57; clear g57; clear e
        refine st_end ?_
        exact ⟨_, by omega, i + 1, w8, v8, rfl, R, h5, h6, h7, h8, h9, h10, h12, h40, h41, h42, h43, h44, h45, h46, h47, h48, h49, h50, h51, h52, h53, h54, h55, h56, h57, K1, KR, B63, B80, (by omega), HROW2, hlq2, HVC2, HGB2⟩
      | true =>
        have Y : (execOp a366.eval o10_16_3).run Try.prog w365 = .ok (.value (.bool false)) w365 := by unfold o10_16_3; go_simp
        refine st_val g10_16_3 rfl (wanted_free rfl) Y fun a386 e => ?_; clear Y
        have g64 := R.at_ e (by decide); replace R := R.put e; replace h5 := slot_on e h5 (by decide); replace h6 := slot_on e h6 (by decide); replace h7 := slot_on e h7 (by decide); replace h8 := slot_on e h8 (by decide); replace h9 := slot_on e h9 (by decide); replace h10 := slot_on e h10 (by decide); replace h12 := slot_on e h12 (by decide); replace h14 := slot_on e h14 (by decide); replace h40 := slot_on e h40 (by decide); replace h41 := slot_on e h41 (by decide); replace h42 := slot_on e h42 (by decide); replace h43 := slot_on e h43 (by decide); replace h44 := slot_on e h44 (by decide); replace h45 := slot_on e h45 (by decide); replace h46 := slot_on e h46 (by decide); replace h47 := slot_on e h47 (by decide); replace h48 := slot_on e h48 (by decide); replace h49 := slot_on e h49 (by decide); replace h50 := slot_on e h50 (by decide); replace h51 := slot_on e h51 (by decide); replace h52 := slot_on e h52 (by decide); replace h53 := slot_on e h53 (by decide); replace h54 := slot_on e h54 (by decide); replace h55 := slot_on e h55 (by decide); replace h56 := slot_on e h56 (by decide); replace h57 := slot_on e h57 (by decide); replace h58 := slot_on e h58 (by decide); replace h59 := slot_on e h59 (by decide); replace h60 := slot_on e h60 (by decide); replace h61 := slot_on e h61 (by decide); replace h62 := slot_on e h62 (by decide); replace h63 := slot_on e h63 (by decide); have h64 := g64; clear g64; clear e
        refine st_end ?_
        change (c10_59).wp _ _ _ _
        refine wp_cond_false (x := c10_60) (y := Code.skip) (eval_slot h64) ?_
        refine wp_skip ?_
        change (c10_62).wp _ _ _ _
        change (Code.region 18 O10_18 false).wp _ _ _ _
        refine reg_in (l := [0, 1]) rfl ?_
        have Y : (execOp a386.eval o10_18_0).run Try.prog w365 = .ok (.value (.int .i64 ((i : Int) + 1))) w365 := by unfold o10_18_0; go_simp
        refine st_val g10_18_0 rfl (wanted_free rfl) Y fun a388 e => ?_; clear Y
        have g69 := R.at_ e (by decide); replace R := R.put e; replace h5 := slot_on e h5 (by decide); replace h6 := slot_on e h6 (by decide); replace h7 := slot_on e h7 (by decide); replace h8 := slot_on e h8 (by decide); replace h9 := slot_on e h9 (by decide); replace h10 := slot_on e h10 (by decide); replace h12 := slot_on e h12 (by decide); replace h14 := slot_on e h14 (by decide); replace h40 := slot_on e h40 (by decide); replace h41 := slot_on e h41 (by decide); replace h42 := slot_on e h42 (by decide); replace h43 := slot_on e h43 (by decide); replace h44 := slot_on e h44 (by decide); replace h45 := slot_on e h45 (by decide); replace h46 := slot_on e h46 (by decide); replace h47 := slot_on e h47 (by decide); replace h48 := slot_on e h48 (by decide); replace h49 := slot_on e h49 (by decide); replace h50 := slot_on e h50 (by decide); replace h51 := slot_on e h51 (by decide); replace h52 := slot_on e h52 (by decide); replace h53 := slot_on e h53 (by decide); replace h54 := slot_on e h54 (by decide); replace h55 := slot_on e h55 (by decide); replace h56 := slot_on e h56 (by decide); replace h57 := slot_on e h57 (by decide); replace h58 := slot_on e h58 (by decide); replace h59 := slot_on e h59 (by decide); replace h60 := slot_on e h60 (by decide); replace h61 := slot_on e h61 (by decide); replace h62 := slot_on e h62 (by decide); replace h63 := slot_on e h63 (by decide); replace h64 := slot_on e h64 (by decide); have h69 := g69; clear g69; clear e
        have Y : (execOp a388.eval o10_18_1).run Try.prog w365 = .ok (.value (.int .i64 ((i : Int) + 1))) w365 := by unfold o10_18_1; go_simp
        refine st_val g10_18_1 rfl (wanted_free rfl) Y fun a390 e => ?_; clear Y
        have g57 := R.at_ e (by decide); replace R := R.put e; replace h5 := slot_on e h5 (by decide); replace h6 := slot_on e h6 (by decide); replace h7 := slot_on e h7 (by decide); replace h8 := slot_on e h8 (by decide); replace h9 := slot_on e h9 (by decide); replace h10 := slot_on e h10 (by decide); replace h12 := slot_on e h12 (by decide); replace h14 := slot_on e h14 (by decide); replace h40 := slot_on e h40 (by decide); replace h41 := slot_on e h41 (by decide); replace h42 := slot_on e h42 (by decide); replace h43 := slot_on e h43 (by decide); replace h44 := slot_on e h44 (by decide); replace h45 := slot_on e h45 (by decide); replace h46 := slot_on e h46 (by decide); replace h47 := slot_on e h47 (by decide); replace h48 := slot_on e h48 (by decide); replace h49 := slot_on e h49 (by decide); replace h50 := slot_on e h50 (by decide); replace h51 := slot_on e h51 (by decide); replace h52 := slot_on e h52 (by decide); replace h53 := slot_on e h53 (by decide); replace h54 := slot_on e h54 (by decide); replace h55 := slot_on e h55 (by decide); replace h56 := slot_on e h56 (by decide); replace h58 := slot_on e h58 (by decide); replace h59 := slot_on e h59 (by decide); replace h60 := slot_on e h60 (by decide); replace h61 := slot_on e h61 (by decide); replace h62 := slot_on e h62 (by decide); replace h63 := slot_on e h63 (by decide); replace h64 := slot_on e h64 (by decide); replace h69 := slot_on e h69 (by decide); clear h57; have h57 := g57; clear g57; clear e
        refine st_end ?_
        exact ⟨_, by omega, i + 1, wr, vm, rfl, R, h5, h6, h7, h8, h9, h10, h12, h40, h41, h42, h43, h44, h45, h46, h47, h48, h49, h50, h51, h52, h53, h54, h55, h56, h57, K1, KR, B63, B80, (by omega), (Lib.hid (by have h := HROW.out; rw [List.take_succ_eq_append_getElem (show i < p.1.tree.vars.length by omega), addAll_snoc, if_pos (by rw [← hzn]; exact (among_iff _ _).1 HBM.out)]; exact h)), hlq, HVC, HGB⟩


theorem counts_walk {W : World} {nm : List UInt8} {ps : List TP} {sa va : Option Addr} {sc vc : Nat} {v : Tm} (hn : nm.length ≤ maxLen) (hS : TmSl W.heap.size W sa ps) (hl : ps.length ≤ 2305843009213693951) (hV : TmAt W.heap.size W v va vc) :
    Calls Try.prog 10 #[.string (str nm), .slice sa ps.length sc, tv v va vc] W fun e w' => e = .returned (.bool true) ∧ Keep (fun g => g < W.heap.size) W w' := by
  refine enter_sx Try.func10 body10 rfl (by show (3 : Nat) ≤ 128; decide) fun f0 R hs => ?_
  have h0 := hs 0 _ rfl
  have h1 := hs 1 _ rfl
  have h2 := hs 2 _ rfl
  have K1 := Keep.refl (fun g => g < W.heap.size) W
  have hT : TmAt W.heap.size W (.node 4 nm 0 (ps.map (·.1))) sa sc := tm_row hS hn (by unfold maxLen; omega)
  cases hr : (Tm.node 4 nm 0 (ps.map (·.1))).right with
  | false => exact cw_f R h0 h1 h2 K1 (Lib.hid hV) (Lib.hid hS) (Lib.hid hT) (Lib.hid hr)
  | true =>
  have hC := counts_facts hr
  refine cw_t R h0 h1 h2 K1 (Lib.hid hV) (Lib.hid hS) (Lib.hid hT) (Lib.hid hr) (Lib.hid hC) (Lib.hid fun j hj h0 => ?_)
  have hm : (vaA (ps.map (·.1)) j).getD 0 0 ∈ vaA (ps.map (·.1)) j := by
    rw [List.getD_eq_getElem?_getD, List.getElem?_eq_getElem h0]; exact List.getElem_mem h0
  obtain ⟨t, ht, hx⟩ := mem_vaA hm
  exact var_wf (hat hS ht) (hC.2.2.2.1 t ht) hx
end Go.Proofs.Ytaaodgkbopficaa
