/-
  The law of least solutions: walked with letter frames. No condition but where the terms lie.
-/
import Derived.Test.YthbofkffklejoaaTo9
namespace Go.Proofs.Ythbofkffklejoaa
open Go.RowKit Go.Maps
set_option linter.unusedVariables false
set_option linter.unusedSimpArgs false

set_option maxRecDepth 100000 in
set_option maxHeartbeats 4000000 in
theorem lsw {W : World} {t u : Tm} {ta ua sa : Option Addr} {tc uc sc : Nat} {sm : List BP} {f0 : Act} {w0 : World} (R : FrS 141 f0) (h0 : f0.tmps[0]? = some (.agg #[.int .i64 t.k, .string (str t.nm), .int .i64 t.i, .slice ta t.args.length tc])) (h1 : f0.tmps[1]? = some (.agg #[.int .i64 u.k, .string (str u.nm), .int .i64 u.i, .slice ua u.args.length uc])) (h2 : f0.tmps[2]? = some (.slice sa sm.length sc)) (K1 : Keep (fun g => g < W.heap.size) W w0)  (HT : Hid (TmAt W.heap.size W t ta tc)) (HU : Hid (TmAt W.heap.size W u ua uc)) (HS : Hid (BSl W.heap.size W sa sm)) (HLN : Hid (sm.length ≤ 2305843009213693951)) (HSA : Hid (∀ g off, sa = Option.some ⟨g, off, none⟩ → g < W.heap.size)) (HVL : Hid ((vaV t).length ≤ 2000 ∧ (vaV u).length ≤ 2000 ∧ ∀ q : Tm, (vaV q).length ≤ 2000)) : c5_0.wp Try.prog (bodyPost Try.prog Try.f5 (fun e w' => e = .returned (.bool true) ∧ Keep (fun g => g < W.heap.size) W w')) f0 w0 := by
  refine wp_seq (x := c5_1) (y := c5_2) ?_
  change (Code.region 0 O5_0 false).wp _ _ _ _
  refine reg_in (l := [0, 1, 2]) rfl ?_
  have MK1 := K1
  have Y : (execOp f0.eval o5_0_0).run Try.prog w0 = .ok (.value (.pointer (some ⟨w0.heap.size, 0, none⟩))) (w0.alloc (.cells #[.int .i64 t.k, .string (str t.nm), .int .i64 t.i, .slice ta t.args.length tc] 24)) := by unfold o5_0_0; go_simp
  have B1 := Blk.new w0 24 #[.int .i64 t.k, .string (str t.nm), .int .i64 t.i, .slice ta t.args.length tc]
  replace K1 := K1.alloc (.cells #[.int .i64 t.k, .string (str t.nm), .int .i64 t.i, .slice ta t.args.length tc] 24)
  obtain ⟨w2, hw2⟩ : ∃ x, x = w0.alloc (.cells #[.int .i64 t.k, .string (str t.nm), .int .i64 t.i, .slice ta t.args.length tc] 24) := ⟨_, rfl⟩
  rw [← hw2] at Y B1 K1
  obtain ⟨b1, hb1⟩ : ∃ x, x = w0.heap.size := ⟨_, rfl⟩
  rw [← hb1] at Y B1
  have LK1_b1 : W.heap.size ≤ b1 := by rw [hb1]; first | exact Nat.le_refl _ | exact MK1.size
  clear hw2 hb1 MK1
  refine st_val g5_0_0 rfl (wanted_free rfl) Y fun a3 e => ?_; clear Y
  have g3 := R.at_ e (by decide); replace R := R.put e; replace h1 := so e h1; replace h2 := so e h2; clear h0; have h3 := g3; clear g3; clear e
  have MK1 := K1
  have Y : (execOp a3.eval o5_0_1).run Try.prog w2 = .ok (.value (.pointer (some ⟨w2.heap.size, 0, none⟩))) (w2.alloc (.cells #[.int .i64 u.k, .string (str u.nm), .int .i64 u.i, .slice ua u.args.length uc] 24)) := by unfold o5_0_1; go_simp
  have B5 := Blk.new w2 24 #[.int .i64 u.k, .string (str u.nm), .int .i64 u.i, .slice ua u.args.length uc]
  replace K1 := K1.alloc (.cells #[.int .i64 u.k, .string (str u.nm), .int .i64 u.i, .slice ua u.args.length uc] 24)
  have Nb1_b5 := Nat.ne_of_lt B1.lt; replace B1 := B1.alloc (.cells #[.int .i64 u.k, .string (str u.nm), .int .i64 u.i, .slice ua u.args.length uc] 24)
  obtain ⟨w6, hw6⟩ : ∃ x, x = w2.alloc (.cells #[.int .i64 u.k, .string (str u.nm), .int .i64 u.i, .slice ua u.args.length uc] 24) := ⟨_, rfl⟩
  rw [← hw6] at Y B5 K1 B1
  obtain ⟨b5, hb5⟩ : ∃ x, x = w2.heap.size := ⟨_, rfl⟩
  rw [← hb5] at Y B5 Nb1_b5
  have LK1_b5 : W.heap.size ≤ b5 := by rw [hb5]; first | exact Nat.le_refl _ | exact MK1.size
  clear hw6 hb5 MK1
  refine st_val g5_0_1 rfl (wanted_free rfl) Y fun a7 e => ?_; clear Y
  have g4 := R.at_ e (by decide); replace R := R.put e; replace h2 := so e h2; replace h3 := so e h3; clear h1; have h4 := g4; clear g4; clear e
  have Y : (execOp a7.eval o5_0_2).run Try.prog w6 = .ok (.value (.bool false)) w6 := by unfold o5_0_2; go_simp
  refine st_val g5_0_2 rfl (wanted_free rfl) Y fun a9 e => ?_; clear Y
  have g6 := R.at_ e (by decide); replace R := R.put e; replace h2 := so e h2; replace h3 := so e h3; replace h4 := so e h4; have h6 := g6; clear g6; clear e
  refine st_end ?_
  change (c5_2).wp _ _ _ _
  refine wp_seq (x := c5_3) (y := c5_10) ?_
  refine wp_seq (x := c5_4) (y := c5_5) ?_
  change (Code.region 1 O5_1 false).wp _ _ _ _
  refine reg_in (l := [0, 1]) rfl ?_
  have Y : (execOp a9.eval o5_1_0).run Try.prog w6 = .ok (.enter 13 #[]) w6 := by unfold o5_1_0; go_simp
  refine st_call g5_1_0 rfl (wanted_free rfl) Y ((alive_any (w := w6)).mono ?_); clear Y
  rintro e9 w11 ⟨rfl, kk⟩
  replace K1 := keep_onto K1 kk
  replace B1 := blk_on B1 kk
  replace B5 := blk_on B5 kk
  clear kk
  refine ⟨_, rfl, fun a12 e => ?_⟩
  have g29 := R.at_ e (by decide); replace R := R.put e; replace h2 := so e h2; replace h3 := so e h3; replace h4 := so e h4; replace h6 := so e h6; have h29 := g29; clear g29; clear e
  have Y : (execOp a12.eval o5_1_1).run Try.prog w11 = .ok (.value (.bool false)) w11 := by unfold o5_1_1; go_simp
  refine st_val g5_1_1 rfl (wanted_free rfl) Y fun a14 e => ?_; clear Y
  have g30 := R.at_ e (by decide); replace R := R.put e; replace h2 := so e h2; replace h3 := so e h3; replace h4 := so e h4; replace h6 := so e h6; clear h29; have h30 := g30; clear g30; clear e
  refine st_end ?_
  change (c5_5).wp _ _ _ _
  refine wp_cond_false (x := c5_6) (y := Code.skip) (eval_slot h30) ?_
  refine wp_skip ?_
  change (c5_10).wp _ _ _ _
  refine wp_seq (x := c5_11) (y := c5_12) ?_
  change (Code.region 3 O5_3 false).wp _ _ _ _
  refine reg_in (l := [0, 1, 2, 3, 4, 5, 6, 7, 8]) rfl ?_
  have Y : (execOp a14.eval o5_3_0).run Try.prog w11 = .ok (.value (.agg #[.int .i64 t.k, .string (str t.nm), .int .i64 t.i, .slice ta t.args.length tc])) w11 := by have qq0 : w11.cell? ⟨b1, 0, none⟩ = some (.int .i64 t.k) := B1.cell 0; have qq1 : w11.cell? ⟨b1, 1, none⟩ = some (.string (str t.nm)) := B1.cell 1; have qq2 : w11.cell? ⟨b1, 2, none⟩ = some (.int .i64 t.i) := B1.cell 2; have qq3 : w11.cell? ⟨b1, 3, none⟩ = some (.slice ta t.args.length tc) := B1.cell 3; unfold o5_3_0; go_simp
  refine st_val g5_3_0 rfl (wanted_free rfl) Y fun a16 e => ?_; clear Y
  have g32 := R.at_ e (by decide); replace R := R.put e; replace h2 := so e h2; replace h3 := so e h3; replace h4 := so e h4; replace h6 := so e h6; clear h30; have h32 := g32; clear g32; clear e
  have Y : (execOp a16.eval o5_3_1).run Try.prog w11 = .ok (.value (.slice sa sm.length sc)) w11 := by unfold o5_3_1; go_simp
  refine st_val g5_3_1 rfl (wanted_free rfl) Y fun a18 e => ?_; clear Y
  have g33 := R.at_ e (by decide); replace R := R.put e; replace h2 := so e h2; replace h3 := so e h3; replace h4 := so e h4; replace h6 := so e h6; replace h32 := so e h32; have h33 := g33; clear g33; clear e
  have Y : (execOp a18.eval o5_3_2).run Try.prog w11 = .ok (.enter 30 #[.agg #[.int .i64 t.k, .string (str t.nm), .int .i64 t.i, .slice ta t.args.length tc], .slice sa sm.length sc]) w11 := by unfold o5_3_2; go_simp
  obtain ⟨xr, e1, hap⟩ : ∃ q e, apV t sm = (q, e) := ⟨_, _, rfl⟩
  have hca := apply_sx (cap := sc) (bsl_on HS.out K1) (HT.out.on K1) HLN.out (fun g off h => Nat.lt_of_lt_of_le (HSA.out g off h) K1.size) hap
  have HA1 := Lib.hid hap; clear hap
  refine st_call g5_3_2 rfl (wanted_free rfl) Y ((hca).mono ?_); clear Y
  rintro e9 w20 ⟨ax, cx, rfl, hx, kk⟩
  replace K1 := keep_onto K1 kk
  replace B1 := blk_on B1 kk
  replace B5 := blk_on B5 kk
  clear kk
  clear hca
  have HX := Lib.hid hx; clear hx
  have K2 := Keep.refl (fun g => g < w20.heap.size) w20
  refine ⟨_, rfl, fun a21 e => ?_⟩
  have g34 := R.at_ e (by decide); replace R := R.put e; replace h2 := so e h2; replace h3 := so e h3; replace h4 := so e h4; replace h6 := so e h6; clear h32 h33; have h34 := g34; clear g34; clear e
  have Y : (execOp a21.eval o5_3_3).run Try.prog w20 = .ok (.value (.tuple #[.agg #[.int .i64 xr.k, .string (str xr.nm), .int .i64 xr.i, .slice ax xr.args.length cx], .int .i64 e1])) w20 := by unfold o5_3_3; go_simp
  refine st_val g5_3_3 rfl (wanted_free rfl) Y fun a23 e => ?_; clear Y
  have g31 := R.at_ e (by decide); replace R := R.put e; replace h2 := so e h2; replace h3 := so e h3; replace h4 := so e h4; replace h6 := so e h6; clear h34; have h31 := g31; clear g31; clear e
  have Y : (execOp a23.eval o5_3_4).run Try.prog w20 = .ok (.value (.agg #[.int .i64 xr.k, .string (str xr.nm), .int .i64 xr.i, .slice ax xr.args.length cx])) w20 := by unfold o5_3_4; go_simp
  refine st_val g5_3_4 rfl (wanted_free rfl) Y fun a25 e => ?_; clear Y
  have g35 := R.at_ e (by decide); replace R := R.put e; replace h2 := so e h2; replace h3 := so e h3; replace h4 := so e h4; replace h6 := so e h6; replace h31 := so e h31; have h35 := g35; clear g35; clear e
  have Y : (execOp a25.eval o5_3_5).run Try.prog w20 = .ok (.value (.int .i64 e1)) w20 := by unfold o5_3_5; go_simp
  refine st_val g5_3_5 rfl (wanted_free rfl) Y fun a27 e => ?_; clear Y
  have g36 := R.at_ e (by decide); replace R := R.put e; replace h2 := so e h2; replace h3 := so e h3; replace h4 := so e h4; replace h6 := so e h6; replace h35 := so e h35; clear h31; have h36 := g36; clear g36; clear e
  have MK1 := K1
  have MK2 := K2
  have Y : (execOp a27.eval o5_3_6).run Try.prog w20 = .ok (.value (.pointer (some ⟨w20.heap.size, 0, none⟩))) (w20.alloc (.cells #[.int .i64 0, .string (⟨#[]⟩), .int .i64 0, .slice none 0 0] 24)) := by unfold o5_3_6; go_simp
  have B29 := Blk.new w20 24 #[.int .i64 0, .string (⟨#[]⟩), .int .i64 0, .slice none 0 0]
  replace K1 := K1.alloc (.cells #[.int .i64 0, .string (⟨#[]⟩), .int .i64 0, .slice none 0 0] 24)
  replace K2 := K2.alloc (.cells #[.int .i64 0, .string (⟨#[]⟩), .int .i64 0, .slice none 0 0] 24)
  have Nb1_b29 := Nat.ne_of_lt B1.lt; replace B1 := B1.alloc (.cells #[.int .i64 0, .string (⟨#[]⟩), .int .i64 0, .slice none 0 0] 24)
  have Nb5_b29 := Nat.ne_of_lt B5.lt; replace B5 := B5.alloc (.cells #[.int .i64 0, .string (⟨#[]⟩), .int .i64 0, .slice none 0 0] 24)
  obtain ⟨w30, hw30⟩ : ∃ x, x = w20.alloc (.cells #[.int .i64 0, .string (⟨#[]⟩), .int .i64 0, .slice none 0 0] 24) := ⟨_, rfl⟩
  rw [← hw30] at Y B29 K1 K2 B1 B5
  obtain ⟨b29, hb29⟩ : ∃ x, x = w20.heap.size := ⟨_, rfl⟩
  rw [← hb29] at Y B29 Nb1_b29 Nb5_b29
  have LK1_b29 : W.heap.size ≤ b29 := by rw [hb29]; first | exact Nat.le_refl _ | exact MK1.size
  have LK2_b29 : w20.heap.size ≤ b29 := by rw [hb29]; first | exact Nat.le_refl _ | exact MK2.size
  clear hw30 hb29 MK1 MK2
  refine st_val g5_3_6 rfl (wanted_free rfl) Y fun a31 e => ?_; clear Y
  have g7 := R.at_ e (by decide); replace R := R.put e; replace h2 := so e h2; replace h3 := so e h3; replace h4 := so e h4; replace h6 := so e h6; replace h35 := so e h35; replace h36 := so e h36; have h7 := g7; clear g7; clear e
  have Y : (execOp a31.eval o5_3_7).run Try.prog w30 = .ok .skip ((((w30.setCell ⟨b29, 0, none⟩ (.int .i64 xr.k)).setCell ⟨b29, 1, none⟩ (.string (str xr.nm))).setCell ⟨b29, 2, none⟩ (.int .i64 xr.i)).setCell ⟨b29, 3, none⟩ (.slice ax xr.args.length cx)) := by have qq0 : w30.cell? ⟨b29, 0, none⟩ = some (.int .i64 0) := B29.cell 0; have qq1 : w30.cell? ⟨b29, 1, none⟩ = some (.string (⟨#[]⟩)) := B29.cell 1; have qq2 : w30.cell? ⟨b29, 2, none⟩ = some (.int .i64 0) := B29.cell 2; have qq3 : w30.cell? ⟨b29, 3, none⟩ = some (.slice none 0 0) := B29.cell 3; have z0 := B29.frozen 0; have z1 := B29.frozen 1; have z2 := B29.frozen 2; have z3 := B29.frozen 3; unfold o5_3_7; go_simp
  replace K1 := ((((K1.setCell (p := ⟨b29, 0, none⟩) (Nat.not_lt.2 LK1_b29) (.int .i64 xr.k)).setCell (p := ⟨b29, 1, none⟩) (Nat.not_lt.2 LK1_b29) (.string (str xr.nm))).setCell (p := ⟨b29, 2, none⟩) (Nat.not_lt.2 LK1_b29) (.int .i64 xr.i)).setCell (p := ⟨b29, 3, none⟩) (Nat.not_lt.2 LK1_b29) (.slice ax xr.args.length cx))
  replace K2 := ((((K2.setCell (p := ⟨b29, 0, none⟩) (Nat.not_lt.2 LK2_b29) (.int .i64 xr.k)).setCell (p := ⟨b29, 1, none⟩) (Nat.not_lt.2 LK2_b29) (.string (str xr.nm))).setCell (p := ⟨b29, 2, none⟩) (Nat.not_lt.2 LK2_b29) (.int .i64 xr.i)).setCell (p := ⟨b29, 3, none⟩) (Nat.not_lt.2 LK2_b29) (.slice ax xr.args.length cx))
  replace B1 := ((((B1.far (p := ⟨b29, 0, none⟩) Nb1_b29 (.int .i64 xr.k)).far (p := ⟨b29, 1, none⟩) Nb1_b29 (.string (str xr.nm))).far (p := ⟨b29, 2, none⟩) Nb1_b29 (.int .i64 xr.i)).far (p := ⟨b29, 3, none⟩) Nb1_b29 (.slice ax xr.args.length cx))
  replace B5 := ((((B5.far (p := ⟨b29, 0, none⟩) Nb5_b29 (.int .i64 xr.k)).far (p := ⟨b29, 1, none⟩) Nb5_b29 (.string (str xr.nm))).far (p := ⟨b29, 2, none⟩) Nb5_b29 (.int .i64 xr.i)).far (p := ⟨b29, 3, none⟩) Nb5_b29 (.slice ax xr.args.length cx))
  replace B29 : Blk ((((w30.setCell ⟨b29, 0, none⟩ (.int .i64 xr.k)).setCell ⟨b29, 1, none⟩ (.string (str xr.nm))).setCell ⟨b29, 2, none⟩ (.int .i64 xr.i)).setCell ⟨b29, 3, none⟩ (.slice ax xr.args.length cx)) b29 24 #[.int .i64 xr.k, .string (str xr.nm), .int .i64 xr.i, .slice ax xr.args.length cx] := ((((B29.set_ 0 (.int .i64 xr.k)).set_ 1 (.string (str xr.nm))).set_ 2 (.int .i64 xr.i)).set_ 3 (.slice ax xr.args.length cx))
  generalize ((((w30.setCell ⟨b29, 0, none⟩ (.int .i64 xr.k)).setCell ⟨b29, 1, none⟩ (.string (str xr.nm))).setCell ⟨b29, 2, none⟩ (.int .i64 xr.i)).setCell ⟨b29, 3, none⟩ (.slice ax xr.args.length cx)) = w33 at Y K1 K2 B1 B5 B29
  refine st_skip g5_3_7 rfl (wanted_free rfl) Y ?_; clear Y
  have Y : (execOp a31.eval o5_3_8).run Try.prog w33 = .ok (.value (.int .i64 e1)) w33 := by unfold o5_3_8; go_simp
  refine st_val g5_3_8 rfl (wanted_free rfl) Y fun a34 e => ?_; clear Y
  have g8 := R.at_ e (by decide); replace R := R.put e; replace h2 := so e h2; replace h3 := so e h3; replace h4 := so e h4; replace h6 := so e h6; replace h7 := so e h7; clear h35 h36; have h8 := g8; clear g8; clear e
  refine st_end ?_
  change (c5_12).wp _ _ _ _
  refine wp_seq (x := c5_13) (y := c5_14) ?_
  change (Code.region 4 O5_4 false).wp _ _ _ _
  refine reg_in (l := [0, 1, 2, 3, 4, 5, 6, 7, 8]) rfl ?_
  have Y : (execOp a34.eval o5_4_0).run Try.prog w33 = .ok (.value (.agg #[.int .i64 u.k, .string (str u.nm), .int .i64 u.i, .slice ua u.args.length uc])) w33 := by have qq0 : w33.cell? ⟨b5, 0, none⟩ = some (.int .i64 u.k) := B5.cell 0; have qq1 : w33.cell? ⟨b5, 1, none⟩ = some (.string (str u.nm)) := B5.cell 1; have qq2 : w33.cell? ⟨b5, 2, none⟩ = some (.int .i64 u.i) := B5.cell 2; have qq3 : w33.cell? ⟨b5, 3, none⟩ = some (.slice ua u.args.length uc) := B5.cell 3; unfold o5_4_0; go_simp
  refine st_val g5_4_0 rfl (wanted_free rfl) Y fun a36 e => ?_; clear Y
  have g38 := R.at_ e (by decide); replace R := R.put e; replace h2 := so e h2; replace h3 := so e h3; replace h4 := so e h4; replace h6 := so e h6; replace h7 := so e h7; replace h8 := so e h8; have h38 := g38; clear g38; clear e
  have Y : (execOp a36.eval o5_4_1).run Try.prog w33 = .ok (.value (.slice sa sm.length sc)) w33 := by unfold o5_4_1; go_simp
  refine st_val g5_4_1 rfl (wanted_free rfl) Y fun a38 e => ?_; clear Y
  have g39 := R.at_ e (by decide); replace R := R.put e; replace h2 := so e h2; replace h3 := so e h3; replace h4 := so e h4; replace h6 := so e h6; replace h7 := so e h7; replace h8 := so e h8; replace h38 := so e h38; have h39 := g39; clear g39; clear e
  have Y : (execOp a38.eval o5_4_2).run Try.prog w33 = .ok (.enter 30 #[.agg #[.int .i64 u.k, .string (str u.nm), .int .i64 u.i, .slice ua u.args.length uc], .slice sa sm.length sc]) w33 := by unfold o5_4_2; go_simp
  obtain ⟨yr, e2, hap⟩ : ∃ q e, apV u sm = (q, e) := ⟨_, _, rfl⟩
  have hca := apply_sx (cap := sc) (bsl_on HS.out K1) (HU.out.on K1) HLN.out (fun g off h => Nat.lt_of_lt_of_le (HSA.out g off h) K1.size) hap
  have HA2 := Lib.hid hap; clear hap
  refine st_call g5_4_2 rfl (wanted_free rfl) Y ((hca).mono ?_); clear Y
  rintro e9 w40 ⟨ay, cy, rfl, hx, kk⟩
  replace K1 := keep_onto K1 kk
  replace K2 := keep_onto K2 kk
  replace B1 := blk_on B1 kk
  replace B5 := blk_on B5 kk
  replace B29 := blk_on B29 kk
  clear kk
  clear hca
  have HY := Lib.hid hx; clear hx
  have K3 := Keep.refl (fun g => g < w40.heap.size) w40
  refine ⟨_, rfl, fun a41 e => ?_⟩
  have g40 := R.at_ e (by decide); replace R := R.put e; replace h2 := so e h2; replace h3 := so e h3; replace h4 := so e h4; replace h6 := so e h6; replace h7 := so e h7; replace h8 := so e h8; clear h38 h39; have h40 := g40; clear g40; clear e
  have Y : (execOp a41.eval o5_4_3).run Try.prog w40 = .ok (.value (.tuple #[.agg #[.int .i64 yr.k, .string (str yr.nm), .int .i64 yr.i, .slice ay yr.args.length cy], .int .i64 e2])) w40 := by unfold o5_4_3; go_simp
  refine st_val g5_4_3 rfl (wanted_free rfl) Y fun a43 e => ?_; clear Y
  have g37 := R.at_ e (by decide); replace R := R.put e; replace h2 := so e h2; replace h3 := so e h3; replace h4 := so e h4; replace h6 := so e h6; replace h7 := so e h7; replace h8 := so e h8; clear h40; have h37 := g37; clear g37; clear e
  have Y : (execOp a43.eval o5_4_4).run Try.prog w40 = .ok (.value (.agg #[.int .i64 yr.k, .string (str yr.nm), .int .i64 yr.i, .slice ay yr.args.length cy])) w40 := by unfold o5_4_4; go_simp
  refine st_val g5_4_4 rfl (wanted_free rfl) Y fun a45 e => ?_; clear Y
  have g41 := R.at_ e (by decide); replace R := R.put e; replace h2 := so e h2; replace h3 := so e h3; replace h4 := so e h4; replace h6 := so e h6; replace h7 := so e h7; replace h8 := so e h8; replace h37 := so e h37; have h41 := g41; clear g41; clear e
  have Y : (execOp a45.eval o5_4_5).run Try.prog w40 = .ok (.value (.int .i64 e2)) w40 := by unfold o5_4_5; go_simp
  refine st_val g5_4_5 rfl (wanted_free rfl) Y fun a47 e => ?_; clear Y
  have g42 := R.at_ e (by decide); replace R := R.put e; replace h2 := so e h2; replace h3 := so e h3; replace h4 := so e h4; replace h6 := so e h6; replace h7 := so e h7; replace h8 := so e h8; replace h41 := so e h41; clear h37; have h42 := g42; clear g42; clear e
  have MK1 := K1
  have MK2 := K2
  have MK3 := K3
  have Y : (execOp a47.eval o5_4_6).run Try.prog w40 = .ok (.value (.pointer (some ⟨w40.heap.size, 0, none⟩))) (w40.alloc (.cells #[.int .i64 0, .string (⟨#[]⟩), .int .i64 0, .slice none 0 0] 24)) := by unfold o5_4_6; go_simp
  have B49 := Blk.new w40 24 #[.int .i64 0, .string (⟨#[]⟩), .int .i64 0, .slice none 0 0]
  replace K1 := K1.alloc (.cells #[.int .i64 0, .string (⟨#[]⟩), .int .i64 0, .slice none 0 0] 24)
  replace K2 := K2.alloc (.cells #[.int .i64 0, .string (⟨#[]⟩), .int .i64 0, .slice none 0 0] 24)
  replace K3 := K3.alloc (.cells #[.int .i64 0, .string (⟨#[]⟩), .int .i64 0, .slice none 0 0] 24)
  have Nb1_b49 := Nat.ne_of_lt B1.lt; replace B1 := B1.alloc (.cells #[.int .i64 0, .string (⟨#[]⟩), .int .i64 0, .slice none 0 0] 24)
  have Nb5_b49 := Nat.ne_of_lt B5.lt; replace B5 := B5.alloc (.cells #[.int .i64 0, .string (⟨#[]⟩), .int .i64 0, .slice none 0 0] 24)
  have Nb29_b49 := Nat.ne_of_lt B29.lt; replace B29 := B29.alloc (.cells #[.int .i64 0, .string (⟨#[]⟩), .int .i64 0, .slice none 0 0] 24)
  obtain ⟨w50, hw50⟩ : ∃ x, x = w40.alloc (.cells #[.int .i64 0, .string (⟨#[]⟩), .int .i64 0, .slice none 0 0] 24) := ⟨_, rfl⟩
  rw [← hw50] at Y B49 K1 K2 K3 B1 B5 B29
  obtain ⟨b49, hb49⟩ : ∃ x, x = w40.heap.size := ⟨_, rfl⟩
  rw [← hb49] at Y B49 Nb1_b49 Nb5_b49 Nb29_b49
  have LK1_b49 : W.heap.size ≤ b49 := by rw [hb49]; first | exact Nat.le_refl _ | exact MK1.size
  have LK2_b49 : w20.heap.size ≤ b49 := by rw [hb49]; first | exact Nat.le_refl _ | exact MK2.size
  have LK3_b49 : w40.heap.size ≤ b49 := by rw [hb49]; first | exact Nat.le_refl _ | exact MK3.size
  clear hw50 hb49 MK1 MK2 MK3
  refine st_val g5_4_6 rfl (wanted_free rfl) Y fun a51 e => ?_; clear Y
  have g9 := R.at_ e (by decide); replace R := R.put e; replace h2 := so e h2; replace h3 := so e h3; replace h4 := so e h4; replace h6 := so e h6; replace h7 := so e h7; replace h8 := so e h8; replace h41 := so e h41; replace h42 := so e h42; have h9 := g9; clear g9; clear e
  have Y : (execOp a51.eval o5_4_7).run Try.prog w50 = .ok .skip ((((w50.setCell ⟨b49, 0, none⟩ (.int .i64 yr.k)).setCell ⟨b49, 1, none⟩ (.string (str yr.nm))).setCell ⟨b49, 2, none⟩ (.int .i64 yr.i)).setCell ⟨b49, 3, none⟩ (.slice ay yr.args.length cy)) := by have qq0 : w50.cell? ⟨b49, 0, none⟩ = some (.int .i64 0) := B49.cell 0; have qq1 : w50.cell? ⟨b49, 1, none⟩ = some (.string (⟨#[]⟩)) := B49.cell 1; have qq2 : w50.cell? ⟨b49, 2, none⟩ = some (.int .i64 0) := B49.cell 2; have qq3 : w50.cell? ⟨b49, 3, none⟩ = some (.slice none 0 0) := B49.cell 3; have z0 := B49.frozen 0; have z1 := B49.frozen 1; have z2 := B49.frozen 2; have z3 := B49.frozen 3; unfold o5_4_7; go_simp
  replace K1 := ((((K1.setCell (p := ⟨b49, 0, none⟩) (Nat.not_lt.2 LK1_b49) (.int .i64 yr.k)).setCell (p := ⟨b49, 1, none⟩) (Nat.not_lt.2 LK1_b49) (.string (str yr.nm))).setCell (p := ⟨b49, 2, none⟩) (Nat.not_lt.2 LK1_b49) (.int .i64 yr.i)).setCell (p := ⟨b49, 3, none⟩) (Nat.not_lt.2 LK1_b49) (.slice ay yr.args.length cy))
  replace K2 := ((((K2.setCell (p := ⟨b49, 0, none⟩) (Nat.not_lt.2 LK2_b49) (.int .i64 yr.k)).setCell (p := ⟨b49, 1, none⟩) (Nat.not_lt.2 LK2_b49) (.string (str yr.nm))).setCell (p := ⟨b49, 2, none⟩) (Nat.not_lt.2 LK2_b49) (.int .i64 yr.i)).setCell (p := ⟨b49, 3, none⟩) (Nat.not_lt.2 LK2_b49) (.slice ay yr.args.length cy))
  replace K3 := ((((K3.setCell (p := ⟨b49, 0, none⟩) (Nat.not_lt.2 LK3_b49) (.int .i64 yr.k)).setCell (p := ⟨b49, 1, none⟩) (Nat.not_lt.2 LK3_b49) (.string (str yr.nm))).setCell (p := ⟨b49, 2, none⟩) (Nat.not_lt.2 LK3_b49) (.int .i64 yr.i)).setCell (p := ⟨b49, 3, none⟩) (Nat.not_lt.2 LK3_b49) (.slice ay yr.args.length cy))
  replace B1 := ((((B1.far (p := ⟨b49, 0, none⟩) Nb1_b49 (.int .i64 yr.k)).far (p := ⟨b49, 1, none⟩) Nb1_b49 (.string (str yr.nm))).far (p := ⟨b49, 2, none⟩) Nb1_b49 (.int .i64 yr.i)).far (p := ⟨b49, 3, none⟩) Nb1_b49 (.slice ay yr.args.length cy))
  replace B5 := ((((B5.far (p := ⟨b49, 0, none⟩) Nb5_b49 (.int .i64 yr.k)).far (p := ⟨b49, 1, none⟩) Nb5_b49 (.string (str yr.nm))).far (p := ⟨b49, 2, none⟩) Nb5_b49 (.int .i64 yr.i)).far (p := ⟨b49, 3, none⟩) Nb5_b49 (.slice ay yr.args.length cy))
  replace B29 := ((((B29.far (p := ⟨b49, 0, none⟩) Nb29_b49 (.int .i64 yr.k)).far (p := ⟨b49, 1, none⟩) Nb29_b49 (.string (str yr.nm))).far (p := ⟨b49, 2, none⟩) Nb29_b49 (.int .i64 yr.i)).far (p := ⟨b49, 3, none⟩) Nb29_b49 (.slice ay yr.args.length cy))
  replace B49 : Blk ((((w50.setCell ⟨b49, 0, none⟩ (.int .i64 yr.k)).setCell ⟨b49, 1, none⟩ (.string (str yr.nm))).setCell ⟨b49, 2, none⟩ (.int .i64 yr.i)).setCell ⟨b49, 3, none⟩ (.slice ay yr.args.length cy)) b49 24 #[.int .i64 yr.k, .string (str yr.nm), .int .i64 yr.i, .slice ay yr.args.length cy] := ((((B49.set_ 0 (.int .i64 yr.k)).set_ 1 (.string (str yr.nm))).set_ 2 (.int .i64 yr.i)).set_ 3 (.slice ay yr.args.length cy))
  generalize ((((w50.setCell ⟨b49, 0, none⟩ (.int .i64 yr.k)).setCell ⟨b49, 1, none⟩ (.string (str yr.nm))).setCell ⟨b49, 2, none⟩ (.int .i64 yr.i)).setCell ⟨b49, 3, none⟩ (.slice ay yr.args.length cy)) = w53 at Y K1 K2 K3 B1 B5 B29 B49
  refine st_skip g5_4_7 rfl (wanted_free rfl) Y ?_; clear Y
  have Y : (execOp a51.eval o5_4_8).run Try.prog w53 = .ok (.value (.int .i64 e2)) w53 := by unfold o5_4_8; go_simp
  refine st_val g5_4_8 rfl (wanted_free rfl) Y fun a54 e => ?_; clear Y
  have g10 := R.at_ e (by decide); replace R := R.put e; replace h2 := so e h2; replace h3 := so e h3; replace h4 := so e h4; replace h6 := so e h6; replace h7 := so e h7; replace h8 := so e h8; replace h9 := so e h9; clear h41 h42; have h10 := g10; clear g10; clear e
  refine st_end ?_
  change (c5_14).wp _ _ _ _
  refine wp_seq (x := c5_15) (y := c5_22) ?_
  refine wp_seq (x := c5_16) (y := c5_17) ?_
  change (Code.region 5 O5_5 false).wp _ _ _ _
  refine reg_in (l := [0, 1, 2, 3, 4, 5, 6, 7, 8, 9, 10, 11]) rfl ?_
  have Y : (execOp a54.eval o5_5_0).run Try.prog w53 = .ok (.value (.int .i64 e1)) w53 := by unfold o5_5_0; go_simp
  refine st_val g5_5_0 rfl (wanted_free rfl) Y fun a56 e => ?_; clear Y
  have g43 := R.at_ e (by decide); replace R := R.put e; replace h2 := so e h2; replace h3 := so e h3; replace h4 := so e h4; replace h6 := so e h6; replace h7 := so e h7; replace h9 := so e h9; replace h10 := so e h10; clear h8; have h43 := g43; clear g43; clear e
  obtain ⟨b58, hb58⟩ : ∃ x, (((e1 : Int) != (0 : Int))) = x := ⟨_, rfl⟩
  have Y : (execOp a56.eval o5_5_1).run Try.prog w53 = .ok (.value (.bool b58)) w53 := by rw [← hb58]; unfold o5_5_1; go_simp
  refine st_val g5_5_1 rfl (wanted_free rfl) Y fun a59 e => ?_; clear Y
  have g44 := R.at_ e (by decide); replace R := R.put e; replace h2 := so e h2; replace h3 := so e h3; replace h4 := so e h4; replace h6 := so e h6; replace h7 := so e h7; replace h9 := so e h9; replace h10 := so e h10; clear h43; have h44 := g44; clear g44; clear e
  have Y : (execOp a59.eval o5_5_2).run Try.prog w53 = .ok (.value (.bool b58)) w53 := by unfold o5_5_2; go_simp
  refine st_val g5_5_2 rfl (wanted_free rfl) Y fun a61 e => ?_; clear Y
  have g45 := R.at_ e (by decide); replace R := R.put e; replace h2 := so e h2; replace h3 := so e h3; replace h4 := so e h4; replace h6 := so e h6; replace h7 := so e h7; replace h9 := so e h9; replace h10 := so e h10; clear h44; have h45 := g45; clear g45; clear e
  cases b58 with
  | false =>
    have fb58 := hb58; clear hb58
    simp only [decide_eq_true_eq, decide_eq_false_iff_not, bne_iff_ne, bne_eq_false_iff_eq, beq_iff_eq, beq_eq_false_iff_ne, ne_eq, Bool.not_eq_true', Bool.not_eq_false', Bool.not_eq_eq_eq_not, Bool.not_true, Bool.not_false] at fb58
    have Y : (execOp a61.eval o5_5_3).run Try.prog w53 = .ok (.value (.int .i64 e2)) w53 := by unfold o5_5_3; go_simp
    refine st_val g5_5_3 rfl (wanted_is (j := 2) (d := 45) rfl rfl h45 rfl) Y fun a63 e => ?_; clear Y
    have g46 := R.at_ e (by decide); replace R := R.put e; replace h2 := so e h2; replace h3 := so e h3; replace h4 := so e h4; replace h6 := so e h6; replace h7 := so e h7; replace h9 := so e h9; replace h45 := so e h45; clear h10; have h46 := g46; clear g46; clear e
    obtain ⟨b65, hb65⟩ : ∃ x, (((e2 : Int) != (0 : Int))) = x := ⟨_, rfl⟩
    have Y : (execOp a63.eval o5_5_4).run Try.prog w53 = .ok (.value (.bool b65)) w53 := by rw [← hb65]; unfold o5_5_4; go_simp
    refine st_val g5_5_4 rfl (wanted_is (j := 2) (d := 45) rfl rfl h45 rfl) Y fun a66 e => ?_; clear Y
    have g47 := R.at_ e (by decide); replace R := R.put e; replace h2 := so e h2; replace h3 := so e h3; replace h4 := so e h4; replace h6 := so e h6; replace h7 := so e h7; replace h9 := so e h9; replace h45 := so e h45; clear h46; have h47 := g47; clear g47; clear e
    have Y : (execOp a66.eval o5_5_5).run Try.prog w53 = .ok (.value (.bool b65)) w53 := by unfold o5_5_5; go_simp
    refine st_val g5_5_5 rfl (wanted_free rfl) Y fun a68 e => ?_; clear Y
    have g48 := R.at_ e (by decide); replace R := R.put e; replace h2 := so e h2; replace h3 := so e h3; replace h4 := so e h4; replace h6 := so e h6; replace h7 := so e h7; replace h9 := so e h9; clear h45 h47; have h48 := g48; clear g48; clear e
    have Y : (execOp a68.eval o5_5_6).run Try.prog w53 = .ok (.value (.bool b65)) w53 := by unfold o5_5_6; go_simp
    refine st_val g5_5_6 rfl (wanted_free rfl) Y fun a70 e => ?_; clear Y
    have g49 := R.at_ e (by decide); replace R := R.put e; replace h2 := so e h2; replace h3 := so e h3; replace h4 := so e h4; replace h6 := so e h6; replace h7 := so e h7; replace h9 := so e h9; clear h48; have h49 := g49; clear g49; clear e
    cases b65 with
    | false =>
      have fb65 := hb65; clear hb65
      simp only [decide_eq_true_eq, decide_eq_false_iff_not, bne_iff_ne, bne_eq_false_iff_eq, beq_iff_eq, beq_eq_false_iff_ne, ne_eq, Bool.not_eq_true', Bool.not_eq_false', Bool.not_eq_eq_eq_not, Bool.not_true, Bool.not_false] at fb65
      have Y : (execOp a70.eval o5_5_7).run Try.prog w53 = .ok (.value (.agg #[.int .i64 xr.k, .string (str xr.nm), .int .i64 xr.i, .slice ax xr.args.length cx])) w53 := by have qq0 : w53.cell? ⟨b29, 0, none⟩ = some (.int .i64 xr.k) := B29.cell 0; have qq1 : w53.cell? ⟨b29, 1, none⟩ = some (.string (str xr.nm)) := B29.cell 1; have qq2 : w53.cell? ⟨b29, 2, none⟩ = some (.int .i64 xr.i) := B29.cell 2; have qq3 : w53.cell? ⟨b29, 3, none⟩ = some (.slice ax xr.args.length cx) := B29.cell 3; unfold o5_5_7; go_simp
      refine st_val g5_5_7 rfl (wanted_is (j := 6) (d := 49) rfl rfl h49 rfl) Y fun a72 e => ?_; clear Y
      have g50 := R.at_ e (by decide); replace R := R.put e; replace h2 := so e h2; replace h3 := so e h3; replace h4 := so e h4; replace h6 := so e h6; replace h7 := so e h7; replace h9 := so e h9; replace h49 := so e h49; have h50 := g50; clear g50; clear e
      have Y : (execOp a72.eval o5_5_8).run Try.prog w53 = .ok (.value (.agg #[.int .i64 yr.k, .string (str yr.nm), .int .i64 yr.i, .slice ay yr.args.length cy])) w53 := by have qq0 : w53.cell? ⟨b49, 0, none⟩ = some (.int .i64 yr.k) := B49.cell 0; have qq1 : w53.cell? ⟨b49, 1, none⟩ = some (.string (str yr.nm)) := B49.cell 1; have qq2 : w53.cell? ⟨b49, 2, none⟩ = some (.int .i64 yr.i) := B49.cell 2; have qq3 : w53.cell? ⟨b49, 3, none⟩ = some (.slice ay yr.args.length cy) := B49.cell 3; unfold o5_5_8; go_simp
      refine st_val g5_5_8 rfl (wanted_is (j := 6) (d := 49) rfl rfl h49 rfl) Y fun a74 e => ?_; clear Y
      have g51 := R.at_ e (by decide); replace R := R.put e; replace h2 := so e h2; replace h3 := so e h3; replace h4 := so e h4; replace h6 := so e h6; replace h7 := so e h7; replace h49 := so e h49; replace h50 := so e h50; clear h9; have h51 := g51; clear g51; clear e
      have Y : (execOp a74.eval o5_5_9).run Try.prog w53 = .ok (.enter 19 #[.agg #[.int .i64 xr.k, .string (str xr.nm), .int .i64 xr.i, .slice ax xr.args.length cx], .agg #[.int .i64 yr.k, .string (str yr.nm), .int .i64 yr.i, .slice ay yr.args.length cy]]) w53 := by unfold o5_5_9; go_simp
      obtain ⟨zs, hzs⟩ : ∃ z, sameV xr yr = z := ⟨_, rfl⟩
      have HZS := Lib.hid hzs; clear hzs
      refine st_call g5_5_9 rfl (wanted_is (j := 6) (d := 49) rfl rfl h49 rfl) Y ((same_sx (z := zs) (HX.out.on K2) (HY.out.on K3) HZS.out).mono ?_); clear Y
      rintro e9 w76 ⟨rfl, kk⟩
      replace K1 := keep_onto K1 kk
      replace K2 := keep_onto K2 kk
      replace K3 := keep_onto K3 kk
      replace B1 := blk_on B1 kk
      replace B5 := blk_on B5 kk
      replace B29 := blk_on B29 kk
      replace B49 := blk_on B49 kk
      clear kk
      refine ⟨_, rfl, fun a77 e => ?_⟩
      have g52 := R.at_ e (by decide); replace R := R.put e; replace h2 := so e h2; replace h3 := so e h3; replace h4 := so e h4; replace h6 := so e h6; replace h7 := so e h7; replace h49 := so e h49; clear h50 h51; have h52 := g52; clear g52; clear e
      cases zs with
      | false =>
        have Y : (execOp a77.eval o5_5_10).run Try.prog w76 = .ok (.value (.bool true)) w76 := by unfold o5_5_10; go_simp
        refine st_val g5_5_10 rfl (wanted_is (j := 6) (d := 49) rfl rfl h49 rfl) Y fun a79 e => ?_; clear Y
        have g53 := R.at_ e (by decide); replace R := R.put e; replace h2 := so e h2; replace h3 := so e h3; replace h4 := so e h4; replace h6 := so e h6; replace h7 := so e h7; replace h49 := so e h49; clear h52; have h53 := g53; clear g53; clear e
        have Y : (execOp a79.eval o5_5_11).run Try.prog w76 = .ok (.value (.bool true)) w76 := by unfold o5_5_11; go_simp
        refine st_val g5_5_11 rfl (wanted_free rfl) Y fun a81 e => ?_; clear Y
        have g54 := R.at_ e (by decide); replace R := R.put e; replace h2 := so e h2; replace h3 := so e h3; replace h4 := so e h4; replace h6 := so e h6; replace h7 := so e h7; clear h49 h53; have h54 := g54; clear g54; clear e
        refine st_end ?_
        change (c5_17).wp _ _ _ _
        refine wp_cond_true (x := c5_18) (y := Code.skip) (eval_slot h54) ?_
        refine wp_seq (x := c5_19) (y := Code.ret) ?_
        change (Code.region 6 O5_6 false).wp _ _ _ _
        refine reg_in (l := [0]) rfl ?_
        have Y : (execOp a81.eval o5_6_0).run Try.prog w76 = .ok (.value (.bool true)) w76 := by unfold o5_6_0; go_simp
        refine st_val g5_6_0 rfl (wanted_free rfl) Y fun a83 e => ?_; clear Y
        have g6 := R.at_ e (by decide); replace R := R.put e; replace h2 := so e h2; replace h3 := so e h3; replace h4 := so e h4; replace h7 := so e h7; clear h6 h54; have h6 := g6; clear g6; clear e
        refine st_end ?_
        change (Code.ret).wp _ _ _ _
        refine wp_ret ?_
        change bodyPost Try.prog Try.f5 (fun e w' => e = .returned (.bool true) ∧ Keep (fun g => g < W.heap.size) W w') .ret a83 w76
        refine ret_one rfl R h6 ?_
        exact ⟨rfl, K1⟩
      | true =>
        have Y : (execOp a77.eval o5_5_10).run Try.prog w76 = .ok (.value (.bool false)) w76 := by unfold o5_5_10; go_simp
        refine st_val g5_5_10 rfl (wanted_is (j := 6) (d := 49) rfl rfl h49 rfl) Y fun a85 e => ?_; clear Y
        have g53 := R.at_ e (by decide); replace R := R.put e; replace h2 := so e h2; replace h3 := so e h3; replace h4 := so e h4; replace h6 := so e h6; replace h7 := so e h7; replace h49 := so e h49; clear h52; have h53 := g53; clear g53; clear e
        have Y : (execOp a85.eval o5_5_11).run Try.prog w76 = .ok (.value (.bool false)) w76 := by unfold o5_5_11; go_simp
        refine st_val g5_5_11 rfl (wanted_free rfl) Y fun a87 e => ?_; clear Y
        have g54 := R.at_ e (by decide); replace R := R.put e; replace h2 := so e h2; replace h3 := so e h3; replace h4 := so e h4; replace h6 := so e h6; replace h7 := so e h7; clear h49 h53; have h54 := g54; clear g54; clear e
        refine st_end ?_
        change (c5_17).wp _ _ _ _
        refine wp_cond_false (x := c5_18) (y := Code.skip) (eval_slot h54) ?_
        refine wp_skip ?_
        change (c5_22).wp _ _ _ _
        refine wp_seq (x := c5_23) (y := c5_24) ?_
        change (Code.region 7 O5_7 true).wp _ _ _ _
        have D91 := B1
        have D92 := B5
        have D93 := B29
        have D94 := B49
        have K89 := (Keep.refl (fun g => g < w76.heap.size) w76).drew
        have EK1 := K1
        have EK2 := K2
        have EK3 := K3
        refine dr_in (S := (fun W => Keep (fun g => g < w76.heap.size) w76 W)) (n := 6) (l := #[false, false, false, false, false, false]) (by kernel_rfl) K89 rfl rfl ?_
        replace K1 := K1.drew
        replace K2 := K2.drew
        replace K3 := K3.drew
        replace B1 := B1.drew
        replace B5 := B5.drew
        replace B29 := B29.drew
        replace B49 := B49.drew
        generalize w76.drew = w90 at K89 K1 K2 K3 B1 B5 B29 B49 ⊢
        have Y : ∀ W, Keep (fun g => g < w76.heap.size) w76 W → (execOp a87.eval o5_7_0).run Try.prog W = .ok (.value (.agg #[.int .i64 t.k, .string (str t.nm), .int .i64 t.i, .slice ta t.args.length tc])) W := by intro W7 hS; have D := D91.keep hS D91.lt; have qq0 : W7.cell? ⟨b1, 0, none⟩ = some (.int .i64 t.k) := D.cell 0; have qq1 : W7.cell? ⟨b1, 1, none⟩ = some (.string (str t.nm)) := D.cell 1; have qq2 : W7.cell? ⟨b1, 2, none⟩ = some (.int .i64 t.i) := D.cell 2; have qq3 : W7.cell? ⟨b1, 3, none⟩ = some (.slice ta t.args.length tc) := D.cell 3; unfold o5_7_0; go_simp
        refine dr_take (i := 0) (fuel := 5) (l' := #[true, false, false, false, false, false]) g5_7_0 rfl ns5_7 (by kernel_rfl) (by kernel_rfl) rfl (wanted_free rfl) K89 Y fun a95 e => ?_; clear Y
        have g55 := R.at_ e (by decide); replace R := R.put e; replace h2 := so e h2; replace h3 := so e h3; replace h4 := so e h4; replace h6 := so e h6; replace h7 := so e h7; clear h54; have h55 := g55; clear g55; clear e
        have Y : ∀ W, Keep (fun g => g < w76.heap.size) w76 W → (execOp a95.eval o5_7_2).run Try.prog W = .ok (.value (.agg #[.int .i64 u.k, .string (str u.nm), .int .i64 u.i, .slice ua u.args.length uc])) W := by intro W7 hS; have D := D92.keep hS D92.lt; have qq0 : W7.cell? ⟨b5, 0, none⟩ = some (.int .i64 u.k) := D.cell 0; have qq1 : W7.cell? ⟨b5, 1, none⟩ = some (.string (str u.nm)) := D.cell 1; have qq2 : W7.cell? ⟨b5, 2, none⟩ = some (.int .i64 u.i) := D.cell 2; have qq3 : W7.cell? ⟨b5, 3, none⟩ = some (.slice ua u.args.length uc) := D.cell 3; unfold o5_7_2; go_simp
        refine dr_take (i := 2) (fuel := 4) (l' := #[true, false, true, false, false, false]) g5_7_2 rfl ns5_7 (by kernel_rfl) (by kernel_rfl) rfl (wanted_free rfl) K89 Y fun a97 e => ?_; clear Y
        have g57 := R.at_ e (by decide); replace R := R.put e; replace h2 := so e h2; replace h3 := so e h3; replace h4 := so e h4; replace h6 := so e h6; replace h7 := so e h7; replace h55 := so e h55; have h57 := g57; clear g57; clear e
        refine dr_only (i := 1) (fuel := 3) (by kernel_rfl) ?_
        have Y : (execOp a97.eval o5_7_1).run Try.prog w90 = .ok (.enter 18 #[.agg #[.int .i64 t.k, .string (str t.nm), .int .i64 t.i, .slice ta t.args.length tc]]) w90 := by unfold o5_7_1; go_simp
        have GaK1 : W.heap.size ≤ w90.heap.size := K1.size
        have GaK2 : w20.heap.size ≤ w90.heap.size := K2.size
        have GaK3 : w40.heap.size ≤ w90.heap.size := K3.size
        have GaK89 : w76.heap.size ≤ w90.heap.size := K89.size
        have Aab1 : b1 < w90.heap.size := B1.lt
        have Aab5 : b5 < w90.heap.size := B5.lt
        have Aab29 : b29 < w90.heap.size := B29.lt
        have Aab49 : b49 < w90.heap.size := B49.lt
        refine dr_call (l' := #[true, true, true, false, false, false]) g5_7_1 rfl rfl (wanted_free rfl) Y ((vars_row (HT.out.on K1) (l := vaV t) rfl).mono ?_); clear Y
        rintro e9 w99 ⟨va1, vc1, rfl, hr, kk⟩
        replace K1 := keep_onto K1 kk
        replace K2 := keep_onto K2 kk
        replace K3 := keep_onto K3 kk
        replace K89 := keep_onto K89 kk
        replace B1 := blk_on B1 kk
        replace B5 := blk_on B5 kk
        replace B29 := blk_on B29 kk
        replace B49 := blk_on B49 kk
        have hba := kk.size
        clear kk
        have HR1 := Lib.hid hr.1; clear hr
        have KA := Keep.refl (fun g => g < w99.heap.size) w99
        refine ⟨_, rfl, K89, fun a100 e => ?_⟩
        have g56 := R.at_ e (by decide); replace R := R.put e; replace h2 := so e h2; replace h3 := so e h3; replace h4 := so e h4; replace h6 := so e h6; replace h7 := so e h7; replace h57 := so e h57; clear h55; have h56 := g56; clear g56; clear e
        refine dr_only (i := 3) (fuel := 2) (by kernel_rfl) ?_
        have Y : (execOp a100.eval o5_7_3).run Try.prog w99 = .ok (.enter 18 #[.agg #[.int .i64 u.k, .string (str u.nm), .int .i64 u.i, .slice ua u.args.length uc]]) w99 := by unfold o5_7_3; go_simp
        refine dr_call (l' := #[true, true, true, true, false, false]) g5_7_3 rfl rfl (wanted_free rfl) Y ((vars_row (HU.out.on K1) (l := vaV u) rfl).mono ?_); clear Y
        rintro e9 w102 ⟨va2, vc2, rfl, hr, kk⟩
        replace K1 := keep_onto K1 kk
        replace K2 := keep_onto K2 kk
        replace K3 := keep_onto K3 kk
        replace K89 := keep_onto K89 kk
        replace KA := keep_onto KA kk
        replace B1 := blk_on B1 kk
        replace B5 := blk_on B5 kk
        replace B29 := blk_on B29 kk
        replace B49 := blk_on B49 kk
        clear kk
        have HL2 := Lib.hid hr.2; clear hr
        have KB := Keep.refl (fun g => g < w102.heap.size) w102
        refine ⟨_, rfl, K89, fun a103 e => ?_⟩
        have g58 := R.at_ e (by decide); replace R := R.put e; replace h2 := so e h2; replace h3 := so e h3; replace h4 := so e h4; replace h6 := so e h6; replace h7 := so e h7; replace h56 := so e h56; clear h57; have h58 := g58; clear g58; clear e
        refine dr_only (i := 4) (fuel := 1) (by kernel_rfl) ?_
        obtain ⟨v8, w8, hap, hrow, kap⟩ := append_longs (ty := o5_7_4.type) (row_kept HR1.out KA) (longs_on HL2.out.1 KB) HL2.out.2 (by have h1 := HVL.out.1; have h2 := HVL.out.2.1; omega) (Nat.le_trans hba KA.size)
        have Y : (execOp a103.eval o5_7_4).run Try.prog w102 = .ok (.value v8) w8 := by
          unfold o5_7_4 at hap ⊢; unfold execOp; simp only [resolve, invoke, builtin, Sem.run_bind, Sem.run_pure, Result.andThen_ok, List.map_toArray, List.map_cons, List.map_nil, eval_slot h56, eval_slot h58]; rw [hap]; rfl
        obtain ⟨ra, rc, rfl, hlg⟩ := row_slice hrow
        obtain ⟨l2, hl2⟩ : ∃ q, q = (vaV t ++ vaV u) := ⟨_, rfl⟩
        rw [← hl2] at Y hlg
        have HEl2 := Lib.hid hl2
        have HNl2 : Hid (l2.length ≤ 6000) := Lib.hid (by rw [hl2, List.length_append]; have h1 := HVL.out.1; have h2 := HVL.out.2.1; have h3 := HVL.out.2.2 xr; omega)
        have HML2 : Hid (l2.length ≤ 4000) := Lib.hid (by rw [hl2, List.length_append]; have h1 := HVL.out.1; have h2 := HVL.out.2.1; omega)
        clear hl2
        have HVS := Lib.hid hlg; clear hlg hrow hap
        replace K1 := K1.trans (kap.less fun g hg => Nat.lt_of_lt_of_le hg GaK1)
        replace K2 := K2.trans (kap.less fun g hg => Nat.lt_of_lt_of_le hg GaK2)
        replace K3 := K3.trans (kap.less fun g hg => Nat.lt_of_lt_of_le hg GaK3)
        replace K89 := K89.trans (kap.less fun g hg => Nat.lt_of_lt_of_le hg GaK89)
        clear KA
        clear KB
        replace B1 := B1.keep kap Aab1
        replace B5 := B5.keep kap Aab5
        replace B29 := B29.keep kap Aab29
        replace B49 := B49.keep kap Aab49
        clear kap
        have KV := Keep.refl (fun g => g < w8.heap.size) w8
        refine dr_val (l' := #[true, true, true, true, true, false]) g5_7_4 rfl rfl (wanted_free rfl) Y K89 fun a105 e => ?_; clear Y
        have g59 := R.at_ e (by decide); replace R := R.put e; replace h2 := so e h2; replace h3 := so e h3; replace h4 := so e h4; replace h6 := so e h6; replace h7 := so e h7; clear h56 h58; have h59 := g59; clear g59; clear e
        have Y : ∀ W, Keep (fun g => g < w76.heap.size) w76 W → (execOp a105.eval o5_7_5).run Try.prog W = .ok (.value (.slice ra l2.length rc)) W := by intro W7 hS; unfold o5_7_5; go_simp
        refine dr_take (i := 5) (fuel := 0) (l' := #[true, true, true, true, true, true]) g5_7_5 rfl ns5_7 (by kernel_rfl) (by kernel_rfl) rfl (wanted_free rfl) K89 Y fun a107 e => ?_; clear Y
        have g11 := R.at_ e (by decide); replace R := R.put e; replace h2 := so e h2; replace h3 := so e h3; replace h4 := so e h4; replace h6 := so e h6; replace h7 := so e h7; clear h59; have h11 := g11; clear g11; clear e
        refine dr_end (by kernel_rfl) ?_
        clear K89 EK1 EK2 EK3 D91 D92 D93 D94
        change (c5_24).wp _ _ _ _
        refine wp_seq (x := c5_25) (y := c5_47) ?_
        refine wp_seq (x := c5_26) (y := c5_27) ?_
        change (Code.region 8 O5_8 false).wp _ _ _ _
        refine reg_in (l := [0, 1, 2, 3, 4, 5]) rfl ?_
        have Y : (execOp a107.eval o5_8_0).run Try.prog w8 = .ok (.value (.agg #[.int .i64 xr.k, .string (str xr.nm), .int .i64 xr.i, .slice ax xr.args.length cx])) w8 := by have qq0 : w8.cell? ⟨b29, 0, none⟩ = some (.int .i64 xr.k) := B29.cell 0; have qq1 : w8.cell? ⟨b29, 1, none⟩ = some (.string (str xr.nm)) := B29.cell 1; have qq2 : w8.cell? ⟨b29, 2, none⟩ = some (.int .i64 xr.i) := B29.cell 2; have qq3 : w8.cell? ⟨b29, 3, none⟩ = some (.slice ax xr.args.length cx) := B29.cell 3; unfold o5_8_0; go_simp
        refine st_val g5_8_0 rfl (wanted_free rfl) Y fun a109 e => ?_; clear Y
        have g60 := R.at_ e (by decide); replace R := R.put e; replace h2 := so e h2; replace h3 := so e h3; replace h4 := so e h4; replace h6 := so e h6; replace h7 := so e h7; replace h11 := so e h11; have h60 := g60; clear g60; clear e
        have Y : (execOp a109.eval o5_8_1).run Try.prog w8 = .ok (.enter 18 #[.agg #[.int .i64 xr.k, .string (str xr.nm), .int .i64 xr.i, .slice ax xr.args.length cx]]) w8 := by unfold o5_8_1; go_simp
        have GcK1 : W.heap.size ≤ w8.heap.size := K1.size
        have GcK2 : w20.heap.size ≤ w8.heap.size := K2.size
        have GcK3 : w40.heap.size ≤ w8.heap.size := K3.size
        have GcKV : w8.heap.size ≤ w8.heap.size := KV.size
        have Acb1 : b1 < w8.heap.size := B1.lt
        have Acb5 : b5 < w8.heap.size := B5.lt
        have Acb29 : b29 < w8.heap.size := B29.lt
        have Acb49 : b49 < w8.heap.size := B49.lt
        refine st_call g5_8_1 rfl (wanted_free rfl) Y ((vars_row (HX.out.on K2) (l := vaV xr) rfl).mono ?_); clear Y
        rintro e9 w111 ⟨va3, vc3, rfl, hr, kk⟩
        replace K1 := keep_onto K1 kk
        replace K2 := keep_onto K2 kk
        replace K3 := keep_onto K3 kk
        replace KV := keep_onto KV kk
        replace B1 := blk_on B1 kk
        replace B5 := blk_on B5 kk
        replace B29 := blk_on B29 kk
        replace B49 := blk_on B49 kk
        have hbc := kk.size
        clear kk
        have HR3 := Lib.hid hr.1; clear hr
        have KC := Keep.refl (fun g => g < w111.heap.size) w111
        refine ⟨_, rfl, fun a112 e => ?_⟩
        have g61 := R.at_ e (by decide); replace R := R.put e; replace h2 := so e h2; replace h3 := so e h3; replace h4 := so e h4; replace h6 := so e h6; replace h7 := so e h7; replace h11 := so e h11; clear h60; have h61 := g61; clear g61; clear e
        have Y : (execOp a112.eval o5_8_2).run Try.prog w111 = .ok (.value (.slice ra l2.length rc)) w111 := by unfold o5_8_2; go_simp
        refine st_val g5_8_2 rfl (wanted_free rfl) Y fun a114 e => ?_; clear Y
        have g62 := R.at_ e (by decide); replace R := R.put e; replace h2 := so e h2; replace h3 := so e h3; replace h4 := so e h4; replace h6 := so e h6; replace h7 := so e h7; replace h11 := so e h11; replace h61 := so e h61; have h62 := g62; clear g62; clear e
        obtain ⟨v99, w99, hap, hrow, kap⟩ := append_longs (ty := o5_8_3.type) (row_kept HR3.out KC) (longs_on HVS.out.1 KV) HVS.out.2 (by have h1 := HML2.out; have h3 := HVL.out.2.2 xr; omega) (Nat.le_trans hbc KC.size)
        have Y : (execOp a114.eval o5_8_3).run Try.prog w111 = .ok (.value v99) w99 := by
          unfold o5_8_3 at hap ⊢; unfold execOp; simp only [resolve, invoke, builtin, Sem.run_bind, Sem.run_pure, Result.andThen_ok, List.map_toArray, List.map_cons, List.map_nil, eval_slot h61, eval_slot h62]; rw [hap]; rfl
        obtain ⟨rb, rd, rfl, hlg⟩ := row_slice hrow
        obtain ⟨l3, hl3⟩ : ∃ q, q = (vaV xr ++ l2) := ⟨_, rfl⟩
        rw [← hl3] at Y hlg
        have HEl3 := Lib.hid hl3
        have HNl3 : Hid (l3.length ≤ 6000) := Lib.hid (by rw [hl3, List.length_append]; have h1 := HVL.out.1; have h2 := HVL.out.2.1; have h3 := HVL.out.2.2 xr; have h4 := HML2.out; omega)
        clear hl3
        have HV3 := Lib.hid hlg; clear hlg hrow hap
        replace K1 := K1.trans (kap.less fun g hg => Nat.lt_of_lt_of_le hg GcK1)
        replace K2 := K2.trans (kap.less fun g hg => Nat.lt_of_lt_of_le hg GcK2)
        replace K3 := K3.trans (kap.less fun g hg => Nat.lt_of_lt_of_le hg GcK3)
        replace KV := KV.trans (kap.less fun g hg => Nat.lt_of_lt_of_le hg GcKV)
        clear KC
        replace B1 := B1.keep kap Acb1
        replace B5 := B5.keep kap Acb5
        replace B29 := B29.keep kap Acb29
        replace B49 := B49.keep kap Acb49
        clear kap
        have KD := Keep.refl (fun g => g < w99.heap.size) w99
        refine st_val g5_8_3 rfl (wanted_free rfl) Y fun a116 e => ?_; clear Y
        have g63 := R.at_ e (by decide); replace R := R.put e; replace h2 := so e h2; replace h3 := so e h3; replace h4 := so e h4; replace h6 := so e h6; replace h7 := so e h7; replace h11 := so e h11; clear h61 h62; have h63 := g63; clear g63; clear e
        have Y : (execOp a116.eval o5_8_4).run Try.prog w99 = .ok (.value (.int .i64 l3.length)) w99 := by unfold o5_8_4; go_simp
        refine st_val g5_8_4 rfl (wanted_free rfl) Y fun a118 e => ?_; clear Y
        have g64 := R.at_ e (by decide); replace R := R.put e; replace h2 := so e h2; replace h3 := so e h3; replace h4 := so e h4; replace h6 := so e h6; replace h7 := so e h7; replace h11 := so e h11; replace h63 := so e h63; have h64 := g64; clear g64; clear e
        have Y : (execOp a118.eval o5_8_5).run Try.prog w99 = .ok (.value (.int .i64 0)) w99 := by unfold o5_8_5; go_simp
        refine st_val g5_8_5 rfl (wanted_free rfl) Y fun a120 e => ?_; clear Y
        have g65 := R.at_ e (by decide); replace R := R.put e; replace h2 := so e h2; replace h3 := so e h3; replace h4 := so e h4; replace h6 := so e h6; replace h7 := so e h7; replace h11 := so e h11; replace h63 := so e h63; replace h64 := so e h64; have h65 := g65; clear g65; clear e
        refine st_end ?_
        change (c5_27).wp _ _ _ _
        refine wp_block (id := 0) (c := c5_28) ?_
        refine wp_loop_ghost (c := c5_29) (fun n f9 w9 => ∃ i : Nat, n = l3.length - i ∧ FrS 141 f9 ∧ f9.tmps[2]? = some (.slice sa sm.length sc) ∧ f9.tmps[3]? = some (.pointer (some ⟨b1, 0, none⟩)) ∧ f9.tmps[4]? = some (.pointer (some ⟨b5, 0, none⟩)) ∧ f9.tmps[6]? = some (.bool false) ∧ f9.tmps[7]? = some (.pointer (some ⟨b29, 0, none⟩)) ∧ f9.tmps[11]? = some (.slice ra l2.length rc) ∧ f9.tmps[63]? = some (.slice rb l3.length rd) ∧ f9.tmps[64]? = some (.int .i64 l3.length) ∧ f9.tmps[65]? = some (.int .i64 (i : Int)) ∧ Keep (fun g => g < W.heap.size) W w9 ∧ Keep (fun g => g < w20.heap.size) w20 w9 ∧ Keep (fun g => g < w40.heap.size) w40 w9 ∧ Keep (fun g => g < w8.heap.size) w8 w9 ∧ Keep (fun g => g < w99.heap.size) w99 w9 ∧ Blk w9 b1 24 #[.int .i64 t.k, .string (str t.nm), .int .i64 t.i, .slice ta t.args.length tc] ∧ Blk w9 b5 24 #[.int .i64 u.k, .string (str u.nm), .int .i64 u.i, .slice ua u.args.length uc] ∧ Blk w9 b29 24 #[.int .i64 xr.k, .string (str xr.nm), .int .i64 xr.i, .slice ax xr.args.length cx] ∧ Blk w9 b49 24 #[.int .i64 yr.k, .string (str yr.nm), .int .i64 yr.i, .slice ay yr.args.length cy] ∧ i ≤ l3.length ∧ Hid (∀ k, k < i → l3.getD k 0 < 1099511627776)) (l3.length - 0) ⟨0, rfl, R, h2, h3, h4, h6, h7, h11, h63, h64, h65, K1, K2, K3, KV, KD, B1, B5, B29, B49, Nat.zero_le _, (Lib.hid fun k hk => absurd hk (Nat.not_lt_zero _))⟩ ?_
        clear R h2 h3 h4 h6 h7 h11 h63 h64 h65 K1 K2 K3 KV KD B1 B5 B29 B49
        rintro n124 a122 w123 ⟨i, rfl, R, h2, h3, h4, h6, h7, h11, h63, h64, h65, K1, K2, K3, KV, KD, B1, B5, B29, B49, hi, HBN⟩
        have hbi := HNl3.out
        have hwi : IntKind.i64.wrap ((i : Int) + 1) = (i : Int) + 1 := by rw [IntKind.wrap_i64]; omega
        refine wp_seq (x := c5_30) (y := c5_31) ?_
        change (Code.region 9 O5_9 false).wp _ _ _ _
        refine reg_in (l := [0]) rfl ?_
        obtain ⟨b125, hb125⟩ : ∃ x, (decide ((i : Int) < (l3.length : Int))) = x := ⟨_, rfl⟩
        have Y : (execOp a122.eval o5_9_0).run Try.prog w123 = .ok (.value (.bool b125)) w123 := by rw [← hb125]; unfold o5_9_0; go_simp
        refine st_val g5_9_0 rfl (wanted_free rfl) Y fun a126 e => ?_; clear Y
        have g66 := R.at_ e (by decide); replace R := R.put e; replace h2 := so e h2; replace h3 := so e h3; replace h4 := so e h4; replace h6 := so e h6; replace h7 := so e h7; replace h11 := so e h11; replace h63 := so e h63; replace h64 := so e h64; replace h65 := so e h65; have h66 := g66; clear g66; clear e
        refine st_end ?_
        change (c5_31).wp _ _ _ _
        refine wp_seq (x := c5_32) (y := c5_35) ?_
        cases b125 with
        | false =>
          have fb125 := hb125; clear hb125
          simp only [decide_eq_true_eq, decide_eq_false_iff_not, bne_iff_ne, bne_eq_false_iff_eq, beq_iff_eq, beq_eq_false_iff_ne, ne_eq, Bool.not_eq_true', Bool.not_eq_false', Bool.not_eq_eq_eq_not, Bool.not_true, Bool.not_false] at fb125
          refine wp_cond_false (x := Code.skip) (y := c5_34) (eval_slot h66) ?_
          refine wp_exit ?_
          change (c5_47).wp _ _ _ _
          refine wp_seq (x := c5_48) (y := c5_91) ?_
          refine wp_seq (x := c5_49) (y := c5_50) ?_
          change (Code.region 14 O5_14 false).wp _ _ _ _
          refine reg_in (l := [0, 1, 2]) rfl ?_
          have Y : (execOp a126.eval o5_14_0).run Try.prog w123 = .ok (.value (.slice sa sm.length sc)) w123 := by unfold o5_14_0; go_simp
          refine st_val g5_14_0 rfl (wanted_free rfl) Y fun a128 e => ?_; clear Y
          have g72 := R.at_ e (by decide); replace R := R.put e; replace h3 := so e h3; replace h4 := so e h4; replace h6 := so e h6; replace h7 := so e h7; replace h11 := so e h11; replace h63 := so e h63; replace h64 := so e h64; replace h65 := so e h65; replace h66 := so e h66; clear h2; have h72 := g72; clear g72; clear e
          have Y : (execOp a128.eval o5_14_1).run Try.prog w123 = .ok (.value (.int .i64 sm.length)) w123 := by unfold o5_14_1; go_simp
          refine st_val g5_14_1 rfl (wanted_free rfl) Y fun a130 e => ?_; clear Y
          have g73 := R.at_ e (by decide); replace R := R.put e; replace h3 := so e h3; replace h4 := so e h4; replace h6 := so e h6; replace h7 := so e h7; replace h11 := so e h11; replace h63 := so e h63; replace h64 := so e h64; replace h65 := so e h65; replace h66 := so e h66; replace h72 := so e h72; have h73 := g73; clear g73; clear e
          have Y : (execOp a130.eval o5_14_2).run Try.prog w123 = .ok (.value (.int .i64 0)) w123 := by unfold o5_14_2; go_simp
          refine st_val g5_14_2 rfl (wanted_free rfl) Y fun a132 e => ?_; clear Y
          have g74 := R.at_ e (by decide); replace R := R.put e; replace h3 := so e h3; replace h4 := so e h4; replace h6 := so e h6; replace h7 := so e h7; replace h11 := so e h11; replace h63 := so e h63; replace h64 := so e h64; replace h65 := so e h65; replace h66 := so e h66; replace h72 := so e h72; replace h73 := so e h73; have h74 := g74; clear g74; clear e
          refine st_end ?_
          change (c5_50).wp _ _ _ _
          refine wp_block (id := 2) (c := c5_51) ?_
          have HBX : Hid (∀ v ∈ vaV xr, v < 1099511627776) := Lib.hid (bnd_of (m := l2) (i := i) (by rw [← HEl3.out]; exact HBN.out) (by have h := congrArg List.length HEl3.out; rw [List.length_append] at h; omega))
          refine wp_loop_ghost (c := c5_52) (fun n f9 w9 => ∃ j : Nat, n = sm.length - j ∧ FrS 141 f9 ∧ f9.tmps[3]? = some (.pointer (some ⟨b1, 0, none⟩)) ∧ f9.tmps[4]? = some (.pointer (some ⟨b5, 0, none⟩)) ∧ f9.tmps[6]? = some (.bool false) ∧ f9.tmps[7]? = some (.pointer (some ⟨b29, 0, none⟩)) ∧ f9.tmps[11]? = some (.slice ra l2.length rc) ∧ f9.tmps[63]? = some (.slice rb l3.length rd) ∧ f9.tmps[64]? = some (.int .i64 l3.length) ∧ f9.tmps[65]? = some (.int .i64 (i : Int)) ∧ f9.tmps[66]? = some (.bool false) ∧ f9.tmps[72]? = some (.slice sa sm.length sc) ∧ f9.tmps[73]? = some (.int .i64 sm.length) ∧ f9.tmps[74]? = some (.int .i64 (j : Int)) ∧ Keep (fun g => g < W.heap.size) W w9 ∧ Keep (fun g => g < w20.heap.size) w20 w9 ∧ Keep (fun g => g < w40.heap.size) w40 w9 ∧ Keep (fun g => g < w8.heap.size) w8 w9 ∧ Keep (fun g => g < w99.heap.size) w99 w9 ∧ Blk w9 b1 24 #[.int .i64 t.k, .string (str t.nm), .int .i64 t.i, .slice ta t.args.length tc] ∧ Blk w9 b5 24 #[.int .i64 u.k, .string (str u.nm), .int .i64 u.i, .slice ua u.args.length uc] ∧ Blk w9 b29 24 #[.int .i64 xr.k, .string (str xr.nm), .int .i64 xr.i, .slice ax xr.args.length cx] ∧ Blk w9 b49 24 #[.int .i64 yr.k, .string (str yr.nm), .int .i64 yr.i, .slice ay yr.args.length cy] ∧ j ≤ sm.length) (sm.length - 0) ⟨0, rfl, R, h3, h4, h6, h7, h11, h63, h64, h65, h66, h72, h73, h74, K1, K2, K3, KV, KD, B1, B5, B29, B49, Nat.zero_le _⟩ ?_
          clear R h3 h4 h6 h7 h11 h63 h64 h65 h66 h72 h73 h74 K1 K2 K3 KV KD B1 B5 B29 B49
          rintro n136 a134 w135 ⟨j, rfl, R, h3, h4, h6, h7, h11, h63, h64, h65, h66, h72, h73, h74, K1, K2, K3, KV, KD, B1, B5, B29, B49, hj⟩
          have hbj := HLN.out
          have hwj : IntKind.i64.wrap ((j : Int) + 1) = (j : Int) + 1 := by rw [IntKind.wrap_i64]; omega
          refine wp_seq (x := c5_53) (y := c5_54) ?_
          change (Code.region 15 O5_15 false).wp _ _ _ _
          refine reg_in (l := [0]) rfl ?_
          obtain ⟨b137, hb137⟩ : ∃ x, (decide ((j : Int) < (sm.length : Int))) = x := ⟨_, rfl⟩
          have Y : (execOp a134.eval o5_15_0).run Try.prog w135 = .ok (.value (.bool b137)) w135 := by rw [← hb137]; unfold o5_15_0; go_simp
          refine st_val g5_15_0 rfl (wanted_free rfl) Y fun a138 e => ?_; clear Y
          have g75 := R.at_ e (by decide); replace R := R.put e; replace h3 := so e h3; replace h4 := so e h4; replace h6 := so e h6; replace h7 := so e h7; replace h11 := so e h11; replace h63 := so e h63; replace h64 := so e h64; replace h65 := so e h65; replace h66 := so e h66; replace h72 := so e h72; replace h73 := so e h73; replace h74 := so e h74; have h75 := g75; clear g75; clear e
          refine st_end ?_
          change (c5_54).wp _ _ _ _
          refine wp_seq (x := c5_55) (y := c5_58) ?_
          cases b137 with
          | false =>
            have fb137 := hb137; clear hb137
            simp only [decide_eq_true_eq, decide_eq_false_iff_not, bne_iff_ne, bne_eq_false_iff_eq, beq_iff_eq, beq_eq_false_iff_ne, ne_eq, Bool.not_eq_true', Bool.not_eq_false', Bool.not_eq_eq_eq_not, Bool.not_true, Bool.not_false] at fb137
            refine wp_cond_false (x := Code.skip) (y := c5_57) (eval_slot h75) ?_
            refine wp_exit ?_
            change (c5_91).wp _ _ _ _
            refine wp_seq (x := c5_92) (y := c5_93) ?_
            change (Code.region 25 O5_25 false).wp _ _ _ _
            refine reg_in (l := [0, 1, 2, 3, 4, 5, 6, 7, 8, 9]) rfl ?_
            have Y : (execOp a138.eval o5_25_0).run Try.prog w135 = .ok (.value (.agg #[.int .i64 t.k, .string (str t.nm), .int .i64 t.i, .slice ta t.args.length tc])) w135 := by have qq0 : w135.cell? ⟨b1, 0, none⟩ = some (.int .i64 t.k) := B1.cell 0; have qq1 : w135.cell? ⟨b1, 1, none⟩ = some (.string (str t.nm)) := B1.cell 1; have qq2 : w135.cell? ⟨b1, 2, none⟩ = some (.int .i64 t.i) := B1.cell 2; have qq3 : w135.cell? ⟨b1, 3, none⟩ = some (.slice ta t.args.length tc) := B1.cell 3; unfold o5_25_0; go_simp
            refine st_val g5_25_0 rfl (wanted_free rfl) Y fun a140 e => ?_; clear Y
            have g97 := R.at_ e (by decide); replace R := R.put e; replace h3 := so e h3; replace h4 := so e h4; replace h6 := so e h6; replace h7 := so e h7; replace h11 := so e h11; replace h63 := so e h63; replace h64 := so e h64; replace h65 := so e h65; replace h66 := so e h66; replace h72 := so e h72; replace h73 := so e h73; replace h74 := so e h74; replace h75 := so e h75; have h97 := g97; clear g97; clear e
            have Y : (execOp a140.eval o5_25_1).run Try.prog w135 = .ok (.value (.agg #[.int .i64 u.k, .string (str u.nm), .int .i64 u.i, .slice ua u.args.length uc])) w135 := by have qq0 : w135.cell? ⟨b5, 0, none⟩ = some (.int .i64 u.k) := B5.cell 0; have qq1 : w135.cell? ⟨b5, 1, none⟩ = some (.string (str u.nm)) := B5.cell 1; have qq2 : w135.cell? ⟨b5, 2, none⟩ = some (.int .i64 u.i) := B5.cell 2; have qq3 : w135.cell? ⟨b5, 3, none⟩ = some (.slice ua u.args.length uc) := B5.cell 3; unfold o5_25_1; go_simp
            refine st_val g5_25_1 rfl (wanted_free rfl) Y fun a142 e => ?_; clear Y
            have g98 := R.at_ e (by decide); replace R := R.put e; replace h3 := so e h3; replace h6 := so e h6; replace h7 := so e h7; replace h11 := so e h11; replace h63 := so e h63; replace h64 := so e h64; replace h65 := so e h65; replace h66 := so e h66; replace h72 := so e h72; replace h73 := so e h73; replace h74 := so e h74; replace h75 := so e h75; replace h97 := so e h97; clear h4; have h98 := g98; clear g98; clear e
            have Y : (execOp a142.eval o5_25_2).run Try.prog w135 = .ok (.enter 28 #[.agg #[.int .i64 t.k, .string (str t.nm), .int .i64 t.i, .slice ta t.args.length tc], .agg #[.int .i64 u.k, .string (str u.nm), .int .i64 u.i, .slice ua u.args.length uc]]) w135 := by unfold o5_25_2; go_simp
            refine st_call g5_25_2 rfl (wanted_free rfl) Y ((solve_sx (HT.out.on K1) (HU.out.on K1)).mono ?_); clear Y
            rintro e9 w144 ⟨va5, vc5, bs, ok, er, rfl, hs, kk⟩
            replace K1 := keep_onto K1 kk
            replace K2 := keep_onto K2 kk
            replace K3 := keep_onto K3 kk
            replace KV := keep_onto KV kk
            replace KD := keep_onto KD kk
            replace B1 := blk_on B1 kk
            replace B5 := blk_on B5 kk
            replace B29 := blk_on B29 kk
            replace B49 := blk_on B49 kk
            clear kk
            have HS5 := Lib.hid hs; clear hs
            have he1 : e1 = 0 := by omega
            have he2 : e2 = 0 := by omega
            have HLS := Lib.hid (least_sol (by rw [← he1]; exact HA1.out) (by rw [← he2]; exact HA2.out) HZS.out HS5.out.1); clear he1 he2
            have K5 := Keep.refl (fun g => g < w144.heap.size) w144
            refine ⟨_, rfl, fun a145 e => ?_⟩
            have g99 := R.at_ e (by decide); replace R := R.put e; replace h3 := so e h3; replace h6 := so e h6; replace h7 := so e h7; replace h11 := so e h11; replace h63 := so e h63; replace h64 := so e h64; replace h65 := so e h65; replace h66 := so e h66; replace h72 := so e h72; replace h73 := so e h73; replace h74 := so e h74; replace h75 := so e h75; clear h97 h98; have h99 := g99; clear g99; clear e
            have Y : (execOp a145.eval o5_25_3).run Try.prog w144 = .ok (.value (.tuple #[.slice va5 bs.length vc5, .bool ok, .int .i64 er])) w144 := by unfold o5_25_3; go_simp
            refine st_val g5_25_3 rfl (wanted_free rfl) Y fun a147 e => ?_; clear Y
            have g96 := R.at_ e (by decide); replace R := R.put e; replace h3 := so e h3; replace h6 := so e h6; replace h7 := so e h7; replace h11 := so e h11; replace h63 := so e h63; replace h64 := so e h64; replace h65 := so e h65; replace h66 := so e h66; replace h72 := so e h72; replace h73 := so e h73; replace h74 := so e h74; replace h75 := so e h75; clear h99; have h96 := g96; clear g96; clear e
            have Y : (execOp a147.eval o5_25_4).run Try.prog w144 = .ok (.value (.slice va5 bs.length vc5)) w144 := by unfold o5_25_4; go_simp
            refine st_val g5_25_4 rfl (wanted_free rfl) Y fun a149 e => ?_; clear Y
            have g100 := R.at_ e (by decide); replace R := R.put e; replace h3 := so e h3; replace h6 := so e h6; replace h7 := so e h7; replace h11 := so e h11; replace h63 := so e h63; replace h64 := so e h64; replace h65 := so e h65; replace h66 := so e h66; replace h72 := so e h72; replace h73 := so e h73; replace h74 := so e h74; replace h75 := so e h75; replace h96 := so e h96; have h100 := g100; clear g100; clear e
            have Y : (execOp a149.eval o5_25_5).run Try.prog w144 = .ok (.value (.bool ok)) w144 := by unfold o5_25_5; go_simp
            refine st_val g5_25_5 rfl (wanted_free rfl) Y fun a151 e => ?_; clear Y
            have g101 := R.at_ e (by decide); replace R := R.put e; replace h3 := so e h3; replace h6 := so e h6; replace h7 := so e h7; replace h11 := so e h11; replace h63 := so e h63; replace h64 := so e h64; replace h65 := so e h65; replace h66 := so e h66; replace h72 := so e h72; replace h73 := so e h73; replace h74 := so e h74; replace h75 := so e h75; replace h96 := so e h96; replace h100 := so e h100; have h101 := g101; clear g101; clear e
            have Y : (execOp a151.eval o5_25_6).run Try.prog w144 = .ok (.value (.int .i64 er)) w144 := by unfold o5_25_6; go_simp
            refine st_val g5_25_6 rfl (wanted_free rfl) Y fun a153 e => ?_; clear Y
            have g102 := R.at_ e (by decide); replace R := R.put e; replace h3 := so e h3; replace h6 := so e h6; replace h7 := so e h7; replace h11 := so e h11; replace h63 := so e h63; replace h64 := so e h64; replace h65 := so e h65; replace h66 := so e h66; replace h72 := so e h72; replace h73 := so e h73; replace h74 := so e h74; replace h75 := so e h75; replace h100 := so e h100; replace h101 := so e h101; clear h96; have h102 := g102; clear g102; clear e
            have Y : (execOp a153.eval o5_25_7).run Try.prog w144 = .ok (.value (.slice va5 bs.length vc5)) w144 := by unfold o5_25_7; go_simp
            refine st_val g5_25_7 rfl (wanted_free rfl) Y fun a155 e => ?_; clear Y
            have g18 := R.at_ e (by decide); replace R := R.put e; replace h3 := so e h3; replace h6 := so e h6; replace h7 := so e h7; replace h11 := so e h11; replace h63 := so e h63; replace h64 := so e h64; replace h65 := so e h65; replace h66 := so e h66; replace h72 := so e h72; replace h73 := so e h73; replace h74 := so e h74; replace h75 := so e h75; replace h101 := so e h101; replace h102 := so e h102; clear h100; have h18 := g18; clear g18; clear e
            have Y : (execOp a155.eval o5_25_8).run Try.prog w144 = .ok (.value (.bool ok)) w144 := by unfold o5_25_8; go_simp
            refine st_val g5_25_8 rfl (wanted_free rfl) Y fun a157 e => ?_; clear Y
            have g19 := R.at_ e (by decide); replace R := R.put e; replace h3 := so e h3; replace h6 := so e h6; replace h7 := so e h7; replace h11 := so e h11; replace h18 := so e h18; replace h63 := so e h63; replace h64 := so e h64; replace h65 := so e h65; replace h66 := so e h66; replace h72 := so e h72; replace h73 := so e h73; replace h74 := so e h74; replace h75 := so e h75; replace h102 := so e h102; clear h101; have h19 := g19; clear g19; clear e
            have Y : (execOp a157.eval o5_25_9).run Try.prog w144 = .ok (.value (.int .i64 er)) w144 := by unfold o5_25_9; go_simp
            refine st_val g5_25_9 rfl (wanted_free rfl) Y fun a159 e => ?_; clear Y
            have g20 := R.at_ e (by decide); replace R := R.put e; replace h3 := so e h3; replace h6 := so e h6; replace h7 := so e h7; replace h11 := so e h11; replace h18 := so e h18; replace h19 := so e h19; replace h63 := so e h63; replace h64 := so e h64; replace h65 := so e h65; replace h66 := so e h66; replace h72 := so e h72; replace h73 := so e h73; replace h74 := so e h74; replace h75 := so e h75; clear h102; have h20 := g20; clear g20; clear e
            refine st_end ?_
            change (c5_93).wp _ _ _ _
            refine wp_seq (x := c5_94) (y := c5_101) ?_
            refine wp_seq (x := c5_95) (y := c5_96) ?_
            change (Code.region 26 O5_26 false).wp _ _ _ _
            refine reg_in (l := [0, 1]) rfl ?_
            have Y : (execOp a159.eval o5_26_0).run Try.prog w144 = .ok (.value (.int .i64 er)) w144 := by unfold o5_26_0; go_simp
            refine st_val g5_26_0 rfl (wanted_free rfl) Y fun a161 e => ?_; clear Y
            have g103 := R.at_ e (by decide); replace R := R.put e; replace h3 := so e h3; replace h6 := so e h6; replace h7 := so e h7; replace h11 := so e h11; replace h18 := so e h18; replace h19 := so e h19; replace h20 := so e h20; replace h63 := so e h63; replace h64 := so e h64; replace h65 := so e h65; replace h66 := so e h66; replace h72 := so e h72; replace h73 := so e h73; replace h74 := so e h74; replace h75 := so e h75; have h103 := g103; clear g103; clear e
            obtain ⟨b163, hb163⟩ : ∃ x, (((er : Int) == (2 : Int))) = x := ⟨_, rfl⟩
            have Y : (execOp a161.eval o5_26_1).run Try.prog w144 = .ok (.value (.bool b163)) w144 := by rw [← hb163]; unfold o5_26_1; go_simp
            refine st_val g5_26_1 rfl (wanted_free rfl) Y fun a164 e => ?_; clear Y
            have g104 := R.at_ e (by decide); replace R := R.put e; replace h3 := so e h3; replace h6 := so e h6; replace h7 := so e h7; replace h11 := so e h11; replace h18 := so e h18; replace h19 := so e h19; replace h20 := so e h20; replace h63 := so e h63; replace h64 := so e h64; replace h65 := so e h65; replace h66 := so e h66; replace h72 := so e h72; replace h73 := so e h73; replace h74 := so e h74; replace h75 := so e h75; clear h103; have h104 := g104; clear g104; clear e
            refine st_end ?_
            change (c5_96).wp _ _ _ _
            cases b163 with
            | false =>
              have fb163 := hb163; clear hb163
              simp only [decide_eq_true_eq, decide_eq_false_iff_not, bne_iff_ne, bne_eq_false_iff_eq, beq_iff_eq, beq_eq_false_iff_ne, ne_eq, Bool.not_eq_true', Bool.not_eq_false', Bool.not_eq_eq_eq_not, Bool.not_true, Bool.not_false] at fb163
              refine wp_cond_false (x := c5_97) (y := Code.skip) (eval_slot h104) ?_
              refine wp_skip ?_
              change (c5_101).wp _ _ _ _
              refine wp_seq (x := c5_102) (y := c5_109) ?_
              refine wp_seq (x := c5_103) (y := c5_104) ?_
              change (Code.region 28 O5_28 false).wp _ _ _ _
              refine reg_in (l := [0, 1, 2, 3, 4, 5]) rfl ?_
              have Y : (execOp a164.eval o5_28_0).run Try.prog w144 = .ok (.value (.bool ok)) w144 := by unfold o5_28_0; go_simp
              refine st_val g5_28_0 rfl (wanted_free rfl) Y fun a166 e => ?_; clear Y
              have g105 := R.at_ e (by decide); replace R := R.put e; replace h3 := so e h3; replace h6 := so e h6; replace h7 := so e h7; replace h11 := so e h11; replace h18 := so e h18; replace h20 := so e h20; replace h63 := so e h63; replace h64 := so e h64; replace h65 := so e h65; replace h66 := so e h66; replace h72 := so e h72; replace h73 := so e h73; replace h74 := so e h74; replace h75 := so e h75; clear h19 h104; have h105 := g105; clear g105; clear e
              cases ok with
              | false =>
                have Y : (execOp a166.eval o5_28_1).run Try.prog w144 = .ok (.value (.bool true)) w144 := by unfold o5_28_1; go_simp
                refine st_val g5_28_1 rfl (wanted_free rfl) Y fun a168 e => ?_; clear Y
                have g106 := R.at_ e (by decide); replace R := R.put e; replace h3 := so e h3; replace h6 := so e h6; replace h7 := so e h7; replace h11 := so e h11; replace h18 := so e h18; replace h20 := so e h20; replace h63 := so e h63; replace h64 := so e h64; replace h65 := so e h65; replace h66 := so e h66; replace h72 := so e h72; replace h73 := so e h73; replace h74 := so e h74; replace h75 := so e h75; clear h105; have h106 := g106; clear g106; clear e
                have Y : (execOp a168.eval o5_28_2).run Try.prog w144 = .ok (.value (.bool true)) w144 := by unfold o5_28_2; go_simp
                refine st_val g5_28_2 rfl (wanted_free rfl) Y fun a170 e => ?_; clear Y
                have g107 := R.at_ e (by decide); replace R := R.put e; replace h3 := so e h3; replace h6 := so e h6; replace h7 := so e h7; replace h11 := so e h11; replace h18 := so e h18; replace h20 := so e h20; replace h63 := so e h63; replace h64 := so e h64; replace h65 := so e h65; replace h66 := so e h66; replace h72 := so e h72; replace h73 := so e h73; replace h74 := so e h74; replace h75 := so e h75; clear h106; have h107 := g107; clear g107; clear e
                refine st_not g5_28_3 rfl (wanted_is (j := 2) (d := 107) rfl rfl h107 rfl) fun a172 e => ?_
                have g108 := R.at_ e (by decide); replace R := R.put e; replace h3 := so e h3; replace h6 := so e h6; replace h7 := so e h7; replace h11 := so e h11; replace h18 := so e h18; replace h63 := so e h63; replace h64 := so e h64; replace h65 := so e h65; replace h66 := so e h66; replace h72 := so e h72; replace h73 := so e h73; replace h74 := so e h74; replace h75 := so e h75; replace h107 := so e h107; clear h20; have h108 := g108; clear g108; clear e
                refine st_not g5_28_4 rfl (wanted_is (j := 2) (d := 107) rfl rfl h107 rfl) fun a174 e => ?_
                have g109 := R.at_ e (by decide); replace R := R.put e; replace h3 := so e h3; replace h6 := so e h6; replace h7 := so e h7; replace h11 := so e h11; replace h18 := so e h18; replace h63 := so e h63; replace h64 := so e h64; replace h65 := so e h65; replace h66 := so e h66; replace h72 := so e h72; replace h73 := so e h73; replace h74 := so e h74; replace h75 := so e h75; replace h107 := so e h107; clear h108; have h109 := g109; clear g109; clear e
                have Y : (execOp a174.eval o5_28_5).run Try.prog w144 = .ok (.value (.bool true)) w144 := by unfold o5_28_5; go_simp
                refine st_val g5_28_5 rfl (wanted_free rfl) Y fun a176 e => ?_; clear Y
                have g110 := R.at_ e (by decide); replace R := R.put e; replace h3 := so e h3; replace h6 := so e h6; replace h7 := so e h7; replace h11 := so e h11; replace h18 := so e h18; replace h63 := so e h63; replace h64 := so e h64; replace h65 := so e h65; replace h66 := so e h66; replace h72 := so e h72; replace h73 := so e h73; replace h74 := so e h74; replace h75 := so e h75; clear h107 h109; have h110 := g110; clear g110; clear e
                refine st_end ?_
                change (c5_104).wp _ _ _ _
                refine wp_cond_true (x := c5_105) (y := Code.skip) (eval_slot h110) ?_
                refine wp_seq (x := c5_106) (y := Code.ret) ?_
                change (Code.region 29 O5_29 false).wp _ _ _ _
                refine reg_in (l := [0]) rfl ?_
                have Y : (execOp a176.eval o5_29_0).run Try.prog w144 = .ok (.value (.bool false)) w144 := by unfold o5_29_0; go_simp
                refine st_val g5_29_0 rfl (wanted_free rfl) Y fun a178 e => ?_; clear Y
                have g6 := R.at_ e (by decide); replace R := R.put e; replace h3 := so e h3; replace h7 := so e h7; replace h11 := so e h11; replace h18 := so e h18; replace h63 := so e h63; replace h64 := so e h64; replace h65 := so e h65; replace h66 := so e h66; replace h72 := so e h72; replace h73 := so e h73; replace h74 := so e h74; replace h75 := so e h75; clear h6 h110; have h6 := g6; clear g6; clear e
                refine st_end ?_
                change (Code.ret).wp _ _ _ _
                refine wp_ret ?_
                change bodyPost Try.prog Try.f5 (fun e w' => e = .returned (.bool true) ∧ Keep (fun g => g < W.heap.size) W w') .ret a178 w144
                refine ret_one rfl R h6 ?_
                exfalso; rcases HLS.out with h | ⟨h, _⟩ <;> first | omega | exact absurd h (by decide)
              | true =>
                have Y : (execOp a166.eval o5_28_1).run Try.prog w144 = .ok (.value (.bool false)) w144 := by unfold o5_28_1; go_simp
                refine st_val g5_28_1 rfl (wanted_free rfl) Y fun a180 e => ?_; clear Y
                have g106 := R.at_ e (by decide); replace R := R.put e; replace h3 := so e h3; replace h6 := so e h6; replace h7 := so e h7; replace h11 := so e h11; replace h18 := so e h18; replace h20 := so e h20; replace h63 := so e h63; replace h64 := so e h64; replace h65 := so e h65; replace h66 := so e h66; replace h72 := so e h72; replace h73 := so e h73; replace h74 := so e h74; replace h75 := so e h75; clear h105; have h106 := g106; clear g106; clear e
                have Y : (execOp a180.eval o5_28_2).run Try.prog w144 = .ok (.value (.bool false)) w144 := by unfold o5_28_2; go_simp
                refine st_val g5_28_2 rfl (wanted_free rfl) Y fun a182 e => ?_; clear Y
                have g107 := R.at_ e (by decide); replace R := R.put e; replace h3 := so e h3; replace h6 := so e h6; replace h7 := so e h7; replace h11 := so e h11; replace h18 := so e h18; replace h20 := so e h20; replace h63 := so e h63; replace h64 := so e h64; replace h65 := so e h65; replace h66 := so e h66; replace h72 := so e h72; replace h73 := so e h73; replace h74 := so e h74; replace h75 := so e h75; clear h106; have h107 := g107; clear g107; clear e
                have Y : (execOp a182.eval o5_28_3).run Try.prog w144 = .ok (.value (.int .i64 er)) w144 := by unfold o5_28_3; go_simp
                refine st_val g5_28_3 rfl (wanted_is (j := 2) (d := 107) rfl rfl h107 rfl) Y fun a184 e => ?_; clear Y
                have g108 := R.at_ e (by decide); replace R := R.put e; replace h3 := so e h3; replace h6 := so e h6; replace h7 := so e h7; replace h11 := so e h11; replace h18 := so e h18; replace h63 := so e h63; replace h64 := so e h64; replace h65 := so e h65; replace h66 := so e h66; replace h72 := so e h72; replace h73 := so e h73; replace h74 := so e h74; replace h75 := so e h75; replace h107 := so e h107; clear h20; have h108 := g108; clear g108; clear e
                have Y : (execOp a184.eval o5_28_4).run Try.prog w144 = .ok (.value (.bool false)) w144 := by have h0 : er = 0 := (by rcases HLS.out with h | ⟨_, h, _⟩; omega; exact h); unfold o5_28_4; go_simp
                refine st_val g5_28_4 rfl (wanted_is (j := 2) (d := 107) rfl rfl h107 rfl) Y fun a186 e => ?_; clear Y
                have g109 := R.at_ e (by decide); replace R := R.put e; replace h3 := so e h3; replace h6 := so e h6; replace h7 := so e h7; replace h11 := so e h11; replace h18 := so e h18; replace h63 := so e h63; replace h64 := so e h64; replace h65 := so e h65; replace h66 := so e h66; replace h72 := so e h72; replace h73 := so e h73; replace h74 := so e h74; replace h75 := so e h75; replace h107 := so e h107; clear h108; have h109 := g109; clear g109; clear e
                have Y : (execOp a186.eval o5_28_5).run Try.prog w144 = .ok (.value (.bool false)) w144 := by unfold o5_28_5; go_simp
                refine st_val g5_28_5 rfl (wanted_free rfl) Y fun a188 e => ?_; clear Y
                have g110 := R.at_ e (by decide); replace R := R.put e; replace h3 := so e h3; replace h6 := so e h6; replace h7 := so e h7; replace h11 := so e h11; replace h18 := so e h18; replace h63 := so e h63; replace h64 := so e h64; replace h65 := so e h65; replace h66 := so e h66; replace h72 := so e h72; replace h73 := so e h73; replace h74 := so e h74; replace h75 := so e h75; clear h107 h109; have h110 := g110; clear g110; clear e
                refine st_end ?_
                change (c5_104).wp _ _ _ _
                refine wp_cond_false (x := c5_105) (y := Code.skip) (eval_slot h110) ?_
                refine wp_skip ?_
                change (c5_109).wp _ _ _ _
                refine wp_seq (x := c5_110) (y := c5_111) ?_
                change (Code.region 30 O5_30 false).wp _ _ _ _
                refine reg_in (l := [0, 1, 2, 3, 4, 5, 6, 7, 8]) rfl ?_
                have Y : (execOp a188.eval o5_30_0).run Try.prog w144 = .ok (.value (.agg #[.int .i64 t.k, .string (str t.nm), .int .i64 t.i, .slice ta t.args.length tc])) w144 := by have qq0 : w144.cell? ⟨b1, 0, none⟩ = some (.int .i64 t.k) := B1.cell 0; have qq1 : w144.cell? ⟨b1, 1, none⟩ = some (.string (str t.nm)) := B1.cell 1; have qq2 : w144.cell? ⟨b1, 2, none⟩ = some (.int .i64 t.i) := B1.cell 2; have qq3 : w144.cell? ⟨b1, 3, none⟩ = some (.slice ta t.args.length tc) := B1.cell 3; unfold o5_30_0; go_simp
                refine st_val g5_30_0 rfl (wanted_free rfl) Y fun a190 e => ?_; clear Y
                have g112 := R.at_ e (by decide); replace R := R.put e; replace h6 := so e h6; replace h7 := so e h7; replace h11 := so e h11; replace h18 := so e h18; replace h63 := so e h63; replace h64 := so e h64; replace h65 := so e h65; replace h66 := so e h66; replace h72 := so e h72; replace h73 := so e h73; replace h74 := so e h74; replace h75 := so e h75; clear h3 h110; have h112 := g112; clear g112; clear e
                have Y : (execOp a190.eval o5_30_1).run Try.prog w144 = .ok (.value (.slice va5 bs.length vc5)) w144 := by unfold o5_30_1; go_simp
                refine st_val g5_30_1 rfl (wanted_free rfl) Y fun a192 e => ?_; clear Y
                have g113 := R.at_ e (by decide); replace R := R.put e; replace h6 := so e h6; replace h7 := so e h7; replace h11 := so e h11; replace h63 := so e h63; replace h64 := so e h64; replace h65 := so e h65; replace h66 := so e h66; replace h72 := so e h72; replace h73 := so e h73; replace h74 := so e h74; replace h75 := so e h75; replace h112 := so e h112; clear h18; have h113 := g113; clear g113; clear e
                have Y : (execOp a192.eval o5_30_2).run Try.prog w144 = .ok (.enter 30 #[.agg #[.int .i64 t.k, .string (str t.nm), .int .i64 t.i, .slice ta t.args.length tc], .slice va5 bs.length vc5]) w144 := by unfold o5_30_2; go_simp
                obtain ⟨f, hf⟩ : ∃ f, Sols t u bs f := by rcases HLS.out with h | ⟨_, _, h⟩; omega; exact h
                have HF := Lib.hid hf; clear hf
                have HB := Lib.hid (sol_bsl HS5.out.2.1 HS5.out.2.2 HF.out HT.out HU.out)
                have HBA := Lib.hid (bo_lt HS5.out.2.1)
                obtain ⟨zr, e3, hap⟩ : ∃ q e, apV t bs = (q, e) := ⟨_, _, rfl⟩
                have HAP := Lib.hid (HF.out.ap (right_of.2 HF.out.rt) hap)
                have hca := apply_sx (cap := vc5) (bsl_on HB.out K5) (HT.out.on K1) (Nat.le_trans HF.out.len (by decide)) (fun g off h => Nat.lt_of_lt_of_le (HBA.out g off h) K5.size) hap; clear hap
                refine st_call g5_30_2 rfl (wanted_free rfl) Y ((hca).mono ?_); clear Y
                rintro e9 w194 ⟨az, cz, rfl, hx, kk⟩
                replace K1 := keep_onto K1 kk
                replace K2 := keep_onto K2 kk
                replace K3 := keep_onto K3 kk
                replace KV := keep_onto KV kk
                replace KD := keep_onto KD kk
                replace K5 := keep_onto K5 kk
                replace B1 := blk_on B1 kk
                replace B5 := blk_on B5 kk
                replace B29 := blk_on B29 kk
                replace B49 := blk_on B49 kk
                clear kk
                clear hca
                have HZ := Lib.hid hx; clear hx
                have K6 := Keep.refl (fun g => g < w194.heap.size) w194
                refine ⟨_, rfl, fun a195 e => ?_⟩
                have g114 := R.at_ e (by decide); replace R := R.put e; replace h6 := so e h6; replace h7 := so e h7; replace h11 := so e h11; replace h63 := so e h63; replace h64 := so e h64; replace h65 := so e h65; replace h66 := so e h66; replace h72 := so e h72; replace h73 := so e h73; replace h74 := so e h74; replace h75 := so e h75; clear h112 h113; have h114 := g114; clear g114; clear e
                have Y : (execOp a195.eval o5_30_3).run Try.prog w194 = .ok (.value (.tuple #[.agg #[.int .i64 zr.k, .string (str zr.nm), .int .i64 zr.i, .slice az zr.args.length cz], .int .i64 e3])) w194 := by unfold o5_30_3; go_simp
                refine st_val g5_30_3 rfl (wanted_free rfl) Y fun a197 e => ?_; clear Y
                have g111 := R.at_ e (by decide); replace R := R.put e; replace h6 := so e h6; replace h7 := so e h7; replace h11 := so e h11; replace h63 := so e h63; replace h64 := so e h64; replace h65 := so e h65; replace h66 := so e h66; replace h72 := so e h72; replace h73 := so e h73; replace h74 := so e h74; replace h75 := so e h75; clear h114; have h111 := g111; clear g111; clear e
                have Y : (execOp a197.eval o5_30_4).run Try.prog w194 = .ok (.value (.agg #[.int .i64 zr.k, .string (str zr.nm), .int .i64 zr.i, .slice az zr.args.length cz])) w194 := by unfold o5_30_4; go_simp
                refine st_val g5_30_4 rfl (wanted_free rfl) Y fun a199 e => ?_; clear Y
                have g115 := R.at_ e (by decide); replace R := R.put e; replace h6 := so e h6; replace h7 := so e h7; replace h11 := so e h11; replace h63 := so e h63; replace h64 := so e h64; replace h65 := so e h65; replace h66 := so e h66; replace h72 := so e h72; replace h73 := so e h73; replace h74 := so e h74; replace h75 := so e h75; replace h111 := so e h111; have h115 := g115; clear g115; clear e
                have Y : (execOp a199.eval o5_30_5).run Try.prog w194 = .ok (.value (.int .i64 e3)) w194 := by unfold o5_30_5; go_simp
                refine st_val g5_30_5 rfl (wanted_free rfl) Y fun a201 e => ?_; clear Y
                have g116 := R.at_ e (by decide); replace R := R.put e; replace h6 := so e h6; replace h7 := so e h7; replace h11 := so e h11; replace h63 := so e h63; replace h64 := so e h64; replace h65 := so e h65; replace h66 := so e h66; replace h72 := so e h72; replace h73 := so e h73; replace h74 := so e h74; replace h75 := so e h75; replace h115 := so e h115; clear h111; have h116 := g116; clear g116; clear e
                have MK1 := K1
                have MK2 := K2
                have MK3 := K3
                have MKV := KV
                have MKD := KD
                have MK5 := K5
                have MK6 := K6
                have Y : (execOp a201.eval o5_30_6).run Try.prog w194 = .ok (.value (.pointer (some ⟨w194.heap.size, 0, none⟩))) (w194.alloc (.cells #[.int .i64 0, .string (⟨#[]⟩), .int .i64 0, .slice none 0 0] 24)) := by unfold o5_30_6; go_simp
                have B203 := Blk.new w194 24 #[.int .i64 0, .string (⟨#[]⟩), .int .i64 0, .slice none 0 0]
                replace K1 := K1.alloc (.cells #[.int .i64 0, .string (⟨#[]⟩), .int .i64 0, .slice none 0 0] 24)
                replace K2 := K2.alloc (.cells #[.int .i64 0, .string (⟨#[]⟩), .int .i64 0, .slice none 0 0] 24)
                replace K3 := K3.alloc (.cells #[.int .i64 0, .string (⟨#[]⟩), .int .i64 0, .slice none 0 0] 24)
                replace KV := KV.alloc (.cells #[.int .i64 0, .string (⟨#[]⟩), .int .i64 0, .slice none 0 0] 24)
                replace KD := KD.alloc (.cells #[.int .i64 0, .string (⟨#[]⟩), .int .i64 0, .slice none 0 0] 24)
                replace K5 := K5.alloc (.cells #[.int .i64 0, .string (⟨#[]⟩), .int .i64 0, .slice none 0 0] 24)
                replace K6 := K6.alloc (.cells #[.int .i64 0, .string (⟨#[]⟩), .int .i64 0, .slice none 0 0] 24)
                have Nb1_b203 := Nat.ne_of_lt B1.lt; replace B1 := B1.alloc (.cells #[.int .i64 0, .string (⟨#[]⟩), .int .i64 0, .slice none 0 0] 24)
                have Nb5_b203 := Nat.ne_of_lt B5.lt; replace B5 := B5.alloc (.cells #[.int .i64 0, .string (⟨#[]⟩), .int .i64 0, .slice none 0 0] 24)
                have Nb29_b203 := Nat.ne_of_lt B29.lt; replace B29 := B29.alloc (.cells #[.int .i64 0, .string (⟨#[]⟩), .int .i64 0, .slice none 0 0] 24)
                have Nb49_b203 := Nat.ne_of_lt B49.lt; replace B49 := B49.alloc (.cells #[.int .i64 0, .string (⟨#[]⟩), .int .i64 0, .slice none 0 0] 24)
                obtain ⟨w204, hw204⟩ : ∃ x, x = w194.alloc (.cells #[.int .i64 0, .string (⟨#[]⟩), .int .i64 0, .slice none 0 0] 24) := ⟨_, rfl⟩
                rw [← hw204] at Y B203 K1 K2 K3 KV KD K5 K6 B1 B5 B29 B49
                obtain ⟨b203, hb203⟩ : ∃ x, x = w194.heap.size := ⟨_, rfl⟩
                rw [← hb203] at Y B203 Nb1_b203 Nb5_b203 Nb29_b203 Nb49_b203
                have LK1_b203 : W.heap.size ≤ b203 := by rw [hb203]; first | exact Nat.le_refl _ | exact MK1.size
                have LK2_b203 : w20.heap.size ≤ b203 := by rw [hb203]; first | exact Nat.le_refl _ | exact MK2.size
                have LK3_b203 : w40.heap.size ≤ b203 := by rw [hb203]; first | exact Nat.le_refl _ | exact MK3.size
                have LKV_b203 : w8.heap.size ≤ b203 := by rw [hb203]; first | exact Nat.le_refl _ | exact MKV.size
                have LKD_b203 : w99.heap.size ≤ b203 := by rw [hb203]; first | exact Nat.le_refl _ | exact MKD.size
                have LK5_b203 : w144.heap.size ≤ b203 := by rw [hb203]; first | exact Nat.le_refl _ | exact MK5.size
                have LK6_b203 : w194.heap.size ≤ b203 := by rw [hb203]; first | exact Nat.le_refl _ | exact MK6.size
                clear hw204 hb203 MK1 MK2 MK3 MKV MKD MK5 MK6
                refine st_val g5_30_6 rfl (wanted_free rfl) Y fun a205 e => ?_; clear Y
                have g21 := R.at_ e (by decide); replace R := R.put e; replace h6 := so e h6; replace h7 := so e h7; replace h11 := so e h11; replace h63 := so e h63; replace h64 := so e h64; replace h65 := so e h65; replace h66 := so e h66; replace h72 := so e h72; replace h73 := so e h73; replace h74 := so e h74; replace h75 := so e h75; replace h115 := so e h115; replace h116 := so e h116; have h21 := g21; clear g21; clear e
                have Y : (execOp a205.eval o5_30_7).run Try.prog w204 = .ok .skip ((((w204.setCell ⟨b203, 0, none⟩ (.int .i64 zr.k)).setCell ⟨b203, 1, none⟩ (.string (str zr.nm))).setCell ⟨b203, 2, none⟩ (.int .i64 zr.i)).setCell ⟨b203, 3, none⟩ (.slice az zr.args.length cz)) := by have qq0 : w204.cell? ⟨b203, 0, none⟩ = some (.int .i64 0) := B203.cell 0; have qq1 : w204.cell? ⟨b203, 1, none⟩ = some (.string (⟨#[]⟩)) := B203.cell 1; have qq2 : w204.cell? ⟨b203, 2, none⟩ = some (.int .i64 0) := B203.cell 2; have qq3 : w204.cell? ⟨b203, 3, none⟩ = some (.slice none 0 0) := B203.cell 3; have z0 := B203.frozen 0; have z1 := B203.frozen 1; have z2 := B203.frozen 2; have z3 := B203.frozen 3; unfold o5_30_7; go_simp
                replace K1 := ((((K1.setCell (p := ⟨b203, 0, none⟩) (Nat.not_lt.2 LK1_b203) (.int .i64 zr.k)).setCell (p := ⟨b203, 1, none⟩) (Nat.not_lt.2 LK1_b203) (.string (str zr.nm))).setCell (p := ⟨b203, 2, none⟩) (Nat.not_lt.2 LK1_b203) (.int .i64 zr.i)).setCell (p := ⟨b203, 3, none⟩) (Nat.not_lt.2 LK1_b203) (.slice az zr.args.length cz))
                replace K2 := ((((K2.setCell (p := ⟨b203, 0, none⟩) (Nat.not_lt.2 LK2_b203) (.int .i64 zr.k)).setCell (p := ⟨b203, 1, none⟩) (Nat.not_lt.2 LK2_b203) (.string (str zr.nm))).setCell (p := ⟨b203, 2, none⟩) (Nat.not_lt.2 LK2_b203) (.int .i64 zr.i)).setCell (p := ⟨b203, 3, none⟩) (Nat.not_lt.2 LK2_b203) (.slice az zr.args.length cz))
                replace K3 := ((((K3.setCell (p := ⟨b203, 0, none⟩) (Nat.not_lt.2 LK3_b203) (.int .i64 zr.k)).setCell (p := ⟨b203, 1, none⟩) (Nat.not_lt.2 LK3_b203) (.string (str zr.nm))).setCell (p := ⟨b203, 2, none⟩) (Nat.not_lt.2 LK3_b203) (.int .i64 zr.i)).setCell (p := ⟨b203, 3, none⟩) (Nat.not_lt.2 LK3_b203) (.slice az zr.args.length cz))
                replace KV := ((((KV.setCell (p := ⟨b203, 0, none⟩) (Nat.not_lt.2 LKV_b203) (.int .i64 zr.k)).setCell (p := ⟨b203, 1, none⟩) (Nat.not_lt.2 LKV_b203) (.string (str zr.nm))).setCell (p := ⟨b203, 2, none⟩) (Nat.not_lt.2 LKV_b203) (.int .i64 zr.i)).setCell (p := ⟨b203, 3, none⟩) (Nat.not_lt.2 LKV_b203) (.slice az zr.args.length cz))
                replace KD := ((((KD.setCell (p := ⟨b203, 0, none⟩) (Nat.not_lt.2 LKD_b203) (.int .i64 zr.k)).setCell (p := ⟨b203, 1, none⟩) (Nat.not_lt.2 LKD_b203) (.string (str zr.nm))).setCell (p := ⟨b203, 2, none⟩) (Nat.not_lt.2 LKD_b203) (.int .i64 zr.i)).setCell (p := ⟨b203, 3, none⟩) (Nat.not_lt.2 LKD_b203) (.slice az zr.args.length cz))
                replace K5 := ((((K5.setCell (p := ⟨b203, 0, none⟩) (Nat.not_lt.2 LK5_b203) (.int .i64 zr.k)).setCell (p := ⟨b203, 1, none⟩) (Nat.not_lt.2 LK5_b203) (.string (str zr.nm))).setCell (p := ⟨b203, 2, none⟩) (Nat.not_lt.2 LK5_b203) (.int .i64 zr.i)).setCell (p := ⟨b203, 3, none⟩) (Nat.not_lt.2 LK5_b203) (.slice az zr.args.length cz))
                replace K6 := ((((K6.setCell (p := ⟨b203, 0, none⟩) (Nat.not_lt.2 LK6_b203) (.int .i64 zr.k)).setCell (p := ⟨b203, 1, none⟩) (Nat.not_lt.2 LK6_b203) (.string (str zr.nm))).setCell (p := ⟨b203, 2, none⟩) (Nat.not_lt.2 LK6_b203) (.int .i64 zr.i)).setCell (p := ⟨b203, 3, none⟩) (Nat.not_lt.2 LK6_b203) (.slice az zr.args.length cz))
                replace B1 := ((((B1.far (p := ⟨b203, 0, none⟩) Nb1_b203 (.int .i64 zr.k)).far (p := ⟨b203, 1, none⟩) Nb1_b203 (.string (str zr.nm))).far (p := ⟨b203, 2, none⟩) Nb1_b203 (.int .i64 zr.i)).far (p := ⟨b203, 3, none⟩) Nb1_b203 (.slice az zr.args.length cz))
                replace B5 := ((((B5.far (p := ⟨b203, 0, none⟩) Nb5_b203 (.int .i64 zr.k)).far (p := ⟨b203, 1, none⟩) Nb5_b203 (.string (str zr.nm))).far (p := ⟨b203, 2, none⟩) Nb5_b203 (.int .i64 zr.i)).far (p := ⟨b203, 3, none⟩) Nb5_b203 (.slice az zr.args.length cz))
                replace B29 := ((((B29.far (p := ⟨b203, 0, none⟩) Nb29_b203 (.int .i64 zr.k)).far (p := ⟨b203, 1, none⟩) Nb29_b203 (.string (str zr.nm))).far (p := ⟨b203, 2, none⟩) Nb29_b203 (.int .i64 zr.i)).far (p := ⟨b203, 3, none⟩) Nb29_b203 (.slice az zr.args.length cz))
                replace B49 := ((((B49.far (p := ⟨b203, 0, none⟩) Nb49_b203 (.int .i64 zr.k)).far (p := ⟨b203, 1, none⟩) Nb49_b203 (.string (str zr.nm))).far (p := ⟨b203, 2, none⟩) Nb49_b203 (.int .i64 zr.i)).far (p := ⟨b203, 3, none⟩) Nb49_b203 (.slice az zr.args.length cz))
                replace B203 : Blk ((((w204.setCell ⟨b203, 0, none⟩ (.int .i64 zr.k)).setCell ⟨b203, 1, none⟩ (.string (str zr.nm))).setCell ⟨b203, 2, none⟩ (.int .i64 zr.i)).setCell ⟨b203, 3, none⟩ (.slice az zr.args.length cz)) b203 24 #[.int .i64 zr.k, .string (str zr.nm), .int .i64 zr.i, .slice az zr.args.length cz] := ((((B203.set_ 0 (.int .i64 zr.k)).set_ 1 (.string (str zr.nm))).set_ 2 (.int .i64 zr.i)).set_ 3 (.slice az zr.args.length cz))
                generalize ((((w204.setCell ⟨b203, 0, none⟩ (.int .i64 zr.k)).setCell ⟨b203, 1, none⟩ (.string (str zr.nm))).setCell ⟨b203, 2, none⟩ (.int .i64 zr.i)).setCell ⟨b203, 3, none⟩ (.slice az zr.args.length cz)) = w207 at Y K1 K2 K3 KV KD K5 K6 B1 B5 B29 B49 B203
                refine st_skip g5_30_7 rfl (wanted_free rfl) Y ?_; clear Y
                have Y : (execOp a205.eval o5_30_8).run Try.prog w207 = .ok (.value (.int .i64 e3)) w207 := by unfold o5_30_8; go_simp
                refine st_val g5_30_8 rfl (wanted_free rfl) Y fun a208 e => ?_; clear Y
                have g22 := R.at_ e (by decide); replace R := R.put e; replace h6 := so e h6; replace h7 := so e h7; replace h11 := so e h11; replace h21 := so e h21; replace h63 := so e h63; replace h64 := so e h64; replace h65 := so e h65; replace h66 := so e h66; replace h72 := so e h72; replace h73 := so e h73; replace h74 := so e h74; replace h75 := so e h75; clear h115 h116; have h22 := g22; clear g22; clear e
                refine st_end ?_
                change (c5_111).wp _ _ _ _
                refine wp_seq (x := c5_112) (y := c5_119) ?_
                refine wp_seq (x := c5_113) (y := c5_114) ?_
                change (Code.region 31 O5_31 false).wp _ _ _ _
                refine reg_in (l := [0, 1]) rfl ?_
                have Y : (execOp a208.eval o5_31_0).run Try.prog w207 = .ok (.value (.int .i64 e3)) w207 := by unfold o5_31_0; go_simp
                refine st_val g5_31_0 rfl (wanted_free rfl) Y fun a210 e => ?_; clear Y
                have g117 := R.at_ e (by decide); replace R := R.put e; replace h6 := so e h6; replace h7 := so e h7; replace h11 := so e h11; replace h21 := so e h21; replace h22 := so e h22; replace h63 := so e h63; replace h64 := so e h64; replace h65 := so e h65; replace h66 := so e h66; replace h72 := so e h72; replace h73 := so e h73; replace h74 := so e h74; replace h75 := so e h75; have h117 := g117; clear g117; clear e
                obtain ⟨b212, hb212⟩ : ∃ x, (((e3 : Int) != (0 : Int))) = x := ⟨_, rfl⟩
                have Y : (execOp a210.eval o5_31_1).run Try.prog w207 = .ok (.value (.bool b212)) w207 := by rw [← hb212]; unfold o5_31_1; go_simp
                refine st_val g5_31_1 rfl (wanted_free rfl) Y fun a213 e => ?_; clear Y
                have g118 := R.at_ e (by decide); replace R := R.put e; replace h6 := so e h6; replace h7 := so e h7; replace h11 := so e h11; replace h21 := so e h21; replace h22 := so e h22; replace h63 := so e h63; replace h64 := so e h64; replace h65 := so e h65; replace h66 := so e h66; replace h72 := so e h72; replace h73 := so e h73; replace h74 := so e h74; replace h75 := so e h75; clear h117; have h118 := g118; clear g118; clear e
                refine st_end ?_
                change (c5_114).wp _ _ _ _
                cases b212 with
                | false =>
                  have fb212 := hb212; clear hb212
                  simp only [decide_eq_true_eq, decide_eq_false_iff_not, bne_iff_ne, bne_eq_false_iff_eq, beq_iff_eq, beq_eq_false_iff_ne, ne_eq, Bool.not_eq_true', Bool.not_eq_false', Bool.not_eq_eq_eq_not, Bool.not_true, Bool.not_false] at fb212
                  refine wp_cond_false (x := c5_115) (y := Code.skip) (eval_slot h118) ?_
                  refine wp_skip ?_
                  change (c5_119).wp _ _ _ _
                  refine wp_seq (x := c5_120) (y := c5_121) ?_
                  change (Code.region 33 O5_33 false).wp _ _ _ _
                  refine reg_in (l := [0, 1, 2, 3, 4, 5, 6, 7, 8, 9]) rfl ?_
                  have Y : (execOp a213.eval o5_33_0).run Try.prog w207 = .ok (.value (.agg #[.int .i64 zr.k, .string (str zr.nm), .int .i64 zr.i, .slice az zr.args.length cz])) w207 := by have qq0 : w207.cell? ⟨b203, 0, none⟩ = some (.int .i64 zr.k) := B203.cell 0; have qq1 : w207.cell? ⟨b203, 1, none⟩ = some (.string (str zr.nm)) := B203.cell 1; have qq2 : w207.cell? ⟨b203, 2, none⟩ = some (.int .i64 zr.i) := B203.cell 2; have qq3 : w207.cell? ⟨b203, 3, none⟩ = some (.slice az zr.args.length cz) := B203.cell 3; unfold o5_33_0; go_simp
                  refine st_val g5_33_0 rfl (wanted_free rfl) Y fun a215 e => ?_; clear Y
                  have g122 := R.at_ e (by decide); replace R := R.put e; replace h6 := so e h6; replace h7 := so e h7; replace h11 := so e h11; replace h63 := so e h63; replace h64 := so e h64; replace h65 := so e h65; replace h66 := so e h66; replace h72 := so e h72; replace h73 := so e h73; replace h74 := so e h74; replace h75 := so e h75; clear h21 h22 h118; have h122 := g122; clear g122; clear e
                  have Y : (execOp a215.eval o5_33_1).run Try.prog w207 = .ok (.enter 32 #[.agg #[.int .i64 zr.k, .string (str zr.nm), .int .i64 zr.i, .slice az zr.args.length cz], .int .i64 1099511627776]) w207 := by unfold o5_33_1; go_simp
                  have hzr := (HAP.out.2 (by omega)).1
                  have hcr := rename_sx (HZ.out.on K6) (m := 1099511627776) (by decide) (rnV_eq hzr (by decide) (by decide)); clear hzr
                  refine st_call g5_33_1 rfl (wanted_free rfl) Y ((hcr).mono ?_); clear Y
                  rintro e9 w217 ⟨aw, cw, rfl, hx, kk⟩
                  replace K1 := keep_onto K1 kk
                  replace K2 := keep_onto K2 kk
                  replace K3 := keep_onto K3 kk
                  replace KV := keep_onto KV kk
                  replace KD := keep_onto KD kk
                  replace K5 := keep_onto K5 kk
                  replace K6 := keep_onto K6 kk
                  replace B1 := blk_on B1 kk
                  replace B5 := blk_on B5 kk
                  replace B29 := blk_on B29 kk
                  replace B49 := blk_on B49 kk
                  replace B203 := blk_on B203 kk
                  clear kk
                  clear hcr
                  have HW := Lib.hid hx; clear hx
                  have K7 := Keep.refl (fun g => g < w217.heap.size) w217
                  refine ⟨_, rfl, fun a218 e => ?_⟩
                  have g123 := R.at_ e (by decide); replace R := R.put e; replace h6 := so e h6; replace h7 := so e h7; replace h11 := so e h11; replace h63 := so e h63; replace h64 := so e h64; replace h65 := so e h65; replace h66 := so e h66; replace h72 := so e h72; replace h73 := so e h73; replace h74 := so e h74; replace h75 := so e h75; clear h122; have h123 := g123; clear g123; clear e
                  have Y : (execOp a218.eval o5_33_2).run Try.prog w217 = .ok (.value (.tuple #[.agg #[.int .i64 ((zr.tree.ren 1099511627776).tm.k), .string (str (zr.tree.ren 1099511627776).tm.nm), .int .i64 ((zr.tree.ren 1099511627776).tm.i), .slice aw (zr.tree.ren 1099511627776).tm.args.length cw], .int .i64 (1099511627776 + (zr.tree.vars.length : Int)), .int .i64 0])) w217 := by unfold o5_33_2; go_simp
                  refine st_val g5_33_2 rfl (wanted_free rfl) Y fun a220 e => ?_; clear Y
                  have g121 := R.at_ e (by decide); replace R := R.put e; replace h6 := so e h6; replace h7 := so e h7; replace h11 := so e h11; replace h63 := so e h63; replace h64 := so e h64; replace h65 := so e h65; replace h66 := so e h66; replace h72 := so e h72; replace h73 := so e h73; replace h74 := so e h74; replace h75 := so e h75; clear h123; have h121 := g121; clear g121; clear e
                  have Y : (execOp a220.eval o5_33_3).run Try.prog w217 = .ok (.value (.agg #[.int .i64 ((zr.tree.ren 1099511627776).tm.k), .string (str (zr.tree.ren 1099511627776).tm.nm), .int .i64 ((zr.tree.ren 1099511627776).tm.i), .slice aw (zr.tree.ren 1099511627776).tm.args.length cw])) w217 := by unfold o5_33_3; go_simp
                  refine st_val g5_33_3 rfl (wanted_free rfl) Y fun a222 e => ?_; clear Y
                  have g124 := R.at_ e (by decide); replace R := R.put e; replace h6 := so e h6; replace h7 := so e h7; replace h11 := so e h11; replace h63 := so e h63; replace h64 := so e h64; replace h65 := so e h65; replace h66 := so e h66; replace h72 := so e h72; replace h73 := so e h73; replace h74 := so e h74; replace h75 := so e h75; replace h121 := so e h121; have h124 := g124; clear g124; clear e
                  have Y : (execOp a222.eval o5_33_4).run Try.prog w217 = .ok (.value (.int .i64 (1099511627776 + (zr.tree.vars.length : Int)))) w217 := by unfold o5_33_4; go_simp
                  refine st_val g5_33_4 rfl (wanted_free rfl) Y fun a224 e => ?_; clear Y
                  have g125 := R.at_ e (by decide); replace R := R.put e; replace h6 := so e h6; replace h7 := so e h7; replace h11 := so e h11; replace h63 := so e h63; replace h64 := so e h64; replace h65 := so e h65; replace h66 := so e h66; replace h72 := so e h72; replace h73 := so e h73; replace h74 := so e h74; replace h75 := so e h75; replace h121 := so e h121; replace h124 := so e h124; have h125 := g125; clear g125; clear e
                  have Y : (execOp a224.eval o5_33_5).run Try.prog w217 = .ok (.value (.int .i64 0)) w217 := by unfold o5_33_5; go_simp
                  refine st_val g5_33_5 rfl (wanted_free rfl) Y fun a226 e => ?_; clear Y
                  have g126 := R.at_ e (by decide); replace R := R.put e; replace h6 := so e h6; replace h7 := so e h7; replace h11 := so e h11; replace h63 := so e h63; replace h64 := so e h64; replace h65 := so e h65; replace h66 := so e h66; replace h72 := so e h72; replace h73 := so e h73; replace h74 := so e h74; replace h75 := so e h75; replace h124 := so e h124; replace h125 := so e h125; clear h121; have h126 := g126; clear g126; clear e
                  have MK1 := K1
                  have MK2 := K2
                  have MK3 := K3
                  have MKV := KV
                  have MKD := KD
                  have MK5 := K5
                  have MK6 := K6
                  have MK7 := K7
                  have Y : (execOp a226.eval o5_33_6).run Try.prog w217 = .ok (.value (.pointer (some ⟨w217.heap.size, 0, none⟩))) (w217.alloc (.cells #[.int .i64 0, .string (⟨#[]⟩), .int .i64 0, .slice none 0 0] 24)) := by unfold o5_33_6; go_simp
                  have B228 := Blk.new w217 24 #[.int .i64 0, .string (⟨#[]⟩), .int .i64 0, .slice none 0 0]
                  replace K1 := K1.alloc (.cells #[.int .i64 0, .string (⟨#[]⟩), .int .i64 0, .slice none 0 0] 24)
                  replace K2 := K2.alloc (.cells #[.int .i64 0, .string (⟨#[]⟩), .int .i64 0, .slice none 0 0] 24)
                  replace K3 := K3.alloc (.cells #[.int .i64 0, .string (⟨#[]⟩), .int .i64 0, .slice none 0 0] 24)
                  replace KV := KV.alloc (.cells #[.int .i64 0, .string (⟨#[]⟩), .int .i64 0, .slice none 0 0] 24)
                  replace KD := KD.alloc (.cells #[.int .i64 0, .string (⟨#[]⟩), .int .i64 0, .slice none 0 0] 24)
                  replace K5 := K5.alloc (.cells #[.int .i64 0, .string (⟨#[]⟩), .int .i64 0, .slice none 0 0] 24)
                  replace K6 := K6.alloc (.cells #[.int .i64 0, .string (⟨#[]⟩), .int .i64 0, .slice none 0 0] 24)
                  replace K7 := K7.alloc (.cells #[.int .i64 0, .string (⟨#[]⟩), .int .i64 0, .slice none 0 0] 24)
                  have Nb1_b228 := Nat.ne_of_lt B1.lt; replace B1 := B1.alloc (.cells #[.int .i64 0, .string (⟨#[]⟩), .int .i64 0, .slice none 0 0] 24)
                  have Nb5_b228 := Nat.ne_of_lt B5.lt; replace B5 := B5.alloc (.cells #[.int .i64 0, .string (⟨#[]⟩), .int .i64 0, .slice none 0 0] 24)
                  have Nb29_b228 := Nat.ne_of_lt B29.lt; replace B29 := B29.alloc (.cells #[.int .i64 0, .string (⟨#[]⟩), .int .i64 0, .slice none 0 0] 24)
                  have Nb49_b228 := Nat.ne_of_lt B49.lt; replace B49 := B49.alloc (.cells #[.int .i64 0, .string (⟨#[]⟩), .int .i64 0, .slice none 0 0] 24)
                  have Nb203_b228 := Nat.ne_of_lt B203.lt; replace B203 := B203.alloc (.cells #[.int .i64 0, .string (⟨#[]⟩), .int .i64 0, .slice none 0 0] 24)
                  obtain ⟨w229, hw229⟩ : ∃ x, x = w217.alloc (.cells #[.int .i64 0, .string (⟨#[]⟩), .int .i64 0, .slice none 0 0] 24) := ⟨_, rfl⟩
                  rw [← hw229] at Y B228 K1 K2 K3 KV KD K5 K6 K7 B1 B5 B29 B49 B203
                  obtain ⟨b228, hb228⟩ : ∃ x, x = w217.heap.size := ⟨_, rfl⟩
                  rw [← hb228] at Y B228 Nb1_b228 Nb5_b228 Nb29_b228 Nb49_b228 Nb203_b228
                  have LK1_b228 : W.heap.size ≤ b228 := by rw [hb228]; first | exact Nat.le_refl _ | exact MK1.size
                  have LK2_b228 : w20.heap.size ≤ b228 := by rw [hb228]; first | exact Nat.le_refl _ | exact MK2.size
                  have LK3_b228 : w40.heap.size ≤ b228 := by rw [hb228]; first | exact Nat.le_refl _ | exact MK3.size
                  have LKV_b228 : w8.heap.size ≤ b228 := by rw [hb228]; first | exact Nat.le_refl _ | exact MKV.size
                  have LKD_b228 : w99.heap.size ≤ b228 := by rw [hb228]; first | exact Nat.le_refl _ | exact MKD.size
                  have LK5_b228 : w144.heap.size ≤ b228 := by rw [hb228]; first | exact Nat.le_refl _ | exact MK5.size
                  have LK6_b228 : w194.heap.size ≤ b228 := by rw [hb228]; first | exact Nat.le_refl _ | exact MK6.size
                  have LK7_b228 : w217.heap.size ≤ b228 := by rw [hb228]; first | exact Nat.le_refl _ | exact MK7.size
                  clear hw229 hb228 MK1 MK2 MK3 MKV MKD MK5 MK6 MK7
                  refine st_val g5_33_6 rfl (wanted_free rfl) Y fun a230 e => ?_; clear Y
                  have g23 := R.at_ e (by decide); replace R := R.put e; replace h6 := so e h6; replace h7 := so e h7; replace h11 := so e h11; replace h63 := so e h63; replace h64 := so e h64; replace h65 := so e h65; replace h66 := so e h66; replace h72 := so e h72; replace h73 := so e h73; replace h74 := so e h74; replace h75 := so e h75; replace h124 := so e h124; replace h125 := so e h125; replace h126 := so e h126; have h23 := g23; clear g23; clear e
                  have Y : (execOp a230.eval o5_33_7).run Try.prog w229 = .ok .skip ((((w229.setCell ⟨b228, 0, none⟩ (.int .i64 ((zr.tree.ren 1099511627776).tm.k))).setCell ⟨b228, 1, none⟩ (.string (str (zr.tree.ren 1099511627776).tm.nm))).setCell ⟨b228, 2, none⟩ (.int .i64 ((zr.tree.ren 1099511627776).tm.i))).setCell ⟨b228, 3, none⟩ (.slice aw (zr.tree.ren 1099511627776).tm.args.length cw)) := by have qq0 : w229.cell? ⟨b228, 0, none⟩ = some (.int .i64 0) := B228.cell 0; have qq1 : w229.cell? ⟨b228, 1, none⟩ = some (.string (⟨#[]⟩)) := B228.cell 1; have qq2 : w229.cell? ⟨b228, 2, none⟩ = some (.int .i64 0) := B228.cell 2; have qq3 : w229.cell? ⟨b228, 3, none⟩ = some (.slice none 0 0) := B228.cell 3; have z0 := B228.frozen 0; have z1 := B228.frozen 1; have z2 := B228.frozen 2; have z3 := B228.frozen 3; unfold o5_33_7; go_simp
                  replace K1 := ((((K1.setCell (p := ⟨b228, 0, none⟩) (Nat.not_lt.2 LK1_b228) (.int .i64 ((zr.tree.ren 1099511627776).tm.k))).setCell (p := ⟨b228, 1, none⟩) (Nat.not_lt.2 LK1_b228) (.string (str (zr.tree.ren 1099511627776).tm.nm))).setCell (p := ⟨b228, 2, none⟩) (Nat.not_lt.2 LK1_b228) (.int .i64 ((zr.tree.ren 1099511627776).tm.i))).setCell (p := ⟨b228, 3, none⟩) (Nat.not_lt.2 LK1_b228) (.slice aw (zr.tree.ren 1099511627776).tm.args.length cw))
                  replace K2 := ((((K2.setCell (p := ⟨b228, 0, none⟩) (Nat.not_lt.2 LK2_b228) (.int .i64 ((zr.tree.ren 1099511627776).tm.k))).setCell (p := ⟨b228, 1, none⟩) (Nat.not_lt.2 LK2_b228) (.string (str (zr.tree.ren 1099511627776).tm.nm))).setCell (p := ⟨b228, 2, none⟩) (Nat.not_lt.2 LK2_b228) (.int .i64 ((zr.tree.ren 1099511627776).tm.i))).setCell (p := ⟨b228, 3, none⟩) (Nat.not_lt.2 LK2_b228) (.slice aw (zr.tree.ren 1099511627776).tm.args.length cw))
                  replace K3 := ((((K3.setCell (p := ⟨b228, 0, none⟩) (Nat.not_lt.2 LK3_b228) (.int .i64 ((zr.tree.ren 1099511627776).tm.k))).setCell (p := ⟨b228, 1, none⟩) (Nat.not_lt.2 LK3_b228) (.string (str (zr.tree.ren 1099511627776).tm.nm))).setCell (p := ⟨b228, 2, none⟩) (Nat.not_lt.2 LK3_b228) (.int .i64 ((zr.tree.ren 1099511627776).tm.i))).setCell (p := ⟨b228, 3, none⟩) (Nat.not_lt.2 LK3_b228) (.slice aw (zr.tree.ren 1099511627776).tm.args.length cw))
                  replace KV := ((((KV.setCell (p := ⟨b228, 0, none⟩) (Nat.not_lt.2 LKV_b228) (.int .i64 ((zr.tree.ren 1099511627776).tm.k))).setCell (p := ⟨b228, 1, none⟩) (Nat.not_lt.2 LKV_b228) (.string (str (zr.tree.ren 1099511627776).tm.nm))).setCell (p := ⟨b228, 2, none⟩) (Nat.not_lt.2 LKV_b228) (.int .i64 ((zr.tree.ren 1099511627776).tm.i))).setCell (p := ⟨b228, 3, none⟩) (Nat.not_lt.2 LKV_b228) (.slice aw (zr.tree.ren 1099511627776).tm.args.length cw))
                  replace KD := ((((KD.setCell (p := ⟨b228, 0, none⟩) (Nat.not_lt.2 LKD_b228) (.int .i64 ((zr.tree.ren 1099511627776).tm.k))).setCell (p := ⟨b228, 1, none⟩) (Nat.not_lt.2 LKD_b228) (.string (str (zr.tree.ren 1099511627776).tm.nm))).setCell (p := ⟨b228, 2, none⟩) (Nat.not_lt.2 LKD_b228) (.int .i64 ((zr.tree.ren 1099511627776).tm.i))).setCell (p := ⟨b228, 3, none⟩) (Nat.not_lt.2 LKD_b228) (.slice aw (zr.tree.ren 1099511627776).tm.args.length cw))
                  replace K5 := ((((K5.setCell (p := ⟨b228, 0, none⟩) (Nat.not_lt.2 LK5_b228) (.int .i64 ((zr.tree.ren 1099511627776).tm.k))).setCell (p := ⟨b228, 1, none⟩) (Nat.not_lt.2 LK5_b228) (.string (str (zr.tree.ren 1099511627776).tm.nm))).setCell (p := ⟨b228, 2, none⟩) (Nat.not_lt.2 LK5_b228) (.int .i64 ((zr.tree.ren 1099511627776).tm.i))).setCell (p := ⟨b228, 3, none⟩) (Nat.not_lt.2 LK5_b228) (.slice aw (zr.tree.ren 1099511627776).tm.args.length cw))
                  replace K6 := ((((K6.setCell (p := ⟨b228, 0, none⟩) (Nat.not_lt.2 LK6_b228) (.int .i64 ((zr.tree.ren 1099511627776).tm.k))).setCell (p := ⟨b228, 1, none⟩) (Nat.not_lt.2 LK6_b228) (.string (str (zr.tree.ren 1099511627776).tm.nm))).setCell (p := ⟨b228, 2, none⟩) (Nat.not_lt.2 LK6_b228) (.int .i64 ((zr.tree.ren 1099511627776).tm.i))).setCell (p := ⟨b228, 3, none⟩) (Nat.not_lt.2 LK6_b228) (.slice aw (zr.tree.ren 1099511627776).tm.args.length cw))
                  replace K7 := ((((K7.setCell (p := ⟨b228, 0, none⟩) (Nat.not_lt.2 LK7_b228) (.int .i64 ((zr.tree.ren 1099511627776).tm.k))).setCell (p := ⟨b228, 1, none⟩) (Nat.not_lt.2 LK7_b228) (.string (str (zr.tree.ren 1099511627776).tm.nm))).setCell (p := ⟨b228, 2, none⟩) (Nat.not_lt.2 LK7_b228) (.int .i64 ((zr.tree.ren 1099511627776).tm.i))).setCell (p := ⟨b228, 3, none⟩) (Nat.not_lt.2 LK7_b228) (.slice aw (zr.tree.ren 1099511627776).tm.args.length cw))
                  replace B1 := ((((B1.far (p := ⟨b228, 0, none⟩) Nb1_b228 (.int .i64 ((zr.tree.ren 1099511627776).tm.k))).far (p := ⟨b228, 1, none⟩) Nb1_b228 (.string (str (zr.tree.ren 1099511627776).tm.nm))).far (p := ⟨b228, 2, none⟩) Nb1_b228 (.int .i64 ((zr.tree.ren 1099511627776).tm.i))).far (p := ⟨b228, 3, none⟩) Nb1_b228 (.slice aw (zr.tree.ren 1099511627776).tm.args.length cw))
                  replace B5 := ((((B5.far (p := ⟨b228, 0, none⟩) Nb5_b228 (.int .i64 ((zr.tree.ren 1099511627776).tm.k))).far (p := ⟨b228, 1, none⟩) Nb5_b228 (.string (str (zr.tree.ren 1099511627776).tm.nm))).far (p := ⟨b228, 2, none⟩) Nb5_b228 (.int .i64 ((zr.tree.ren 1099511627776).tm.i))).far (p := ⟨b228, 3, none⟩) Nb5_b228 (.slice aw (zr.tree.ren 1099511627776).tm.args.length cw))
                  replace B29 := ((((B29.far (p := ⟨b228, 0, none⟩) Nb29_b228 (.int .i64 ((zr.tree.ren 1099511627776).tm.k))).far (p := ⟨b228, 1, none⟩) Nb29_b228 (.string (str (zr.tree.ren 1099511627776).tm.nm))).far (p := ⟨b228, 2, none⟩) Nb29_b228 (.int .i64 ((zr.tree.ren 1099511627776).tm.i))).far (p := ⟨b228, 3, none⟩) Nb29_b228 (.slice aw (zr.tree.ren 1099511627776).tm.args.length cw))
                  replace B49 := ((((B49.far (p := ⟨b228, 0, none⟩) Nb49_b228 (.int .i64 ((zr.tree.ren 1099511627776).tm.k))).far (p := ⟨b228, 1, none⟩) Nb49_b228 (.string (str (zr.tree.ren 1099511627776).tm.nm))).far (p := ⟨b228, 2, none⟩) Nb49_b228 (.int .i64 ((zr.tree.ren 1099511627776).tm.i))).far (p := ⟨b228, 3, none⟩) Nb49_b228 (.slice aw (zr.tree.ren 1099511627776).tm.args.length cw))
                  replace B203 := ((((B203.far (p := ⟨b228, 0, none⟩) Nb203_b228 (.int .i64 ((zr.tree.ren 1099511627776).tm.k))).far (p := ⟨b228, 1, none⟩) Nb203_b228 (.string (str (zr.tree.ren 1099511627776).tm.nm))).far (p := ⟨b228, 2, none⟩) Nb203_b228 (.int .i64 ((zr.tree.ren 1099511627776).tm.i))).far (p := ⟨b228, 3, none⟩) Nb203_b228 (.slice aw (zr.tree.ren 1099511627776).tm.args.length cw))
                  replace B228 : Blk ((((w229.setCell ⟨b228, 0, none⟩ (.int .i64 ((zr.tree.ren 1099511627776).tm.k))).setCell ⟨b228, 1, none⟩ (.string (str (zr.tree.ren 1099511627776).tm.nm))).setCell ⟨b228, 2, none⟩ (.int .i64 ((zr.tree.ren 1099511627776).tm.i))).setCell ⟨b228, 3, none⟩ (.slice aw (zr.tree.ren 1099511627776).tm.args.length cw)) b228 24 #[.int .i64 ((zr.tree.ren 1099511627776).tm.k), .string (str (zr.tree.ren 1099511627776).tm.nm), .int .i64 ((zr.tree.ren 1099511627776).tm.i), .slice aw (zr.tree.ren 1099511627776).tm.args.length cw] := ((((B228.set_ 0 (.int .i64 ((zr.tree.ren 1099511627776).tm.k))).set_ 1 (.string (str (zr.tree.ren 1099511627776).tm.nm))).set_ 2 (.int .i64 ((zr.tree.ren 1099511627776).tm.i))).set_ 3 (.slice aw (zr.tree.ren 1099511627776).tm.args.length cw))
                  generalize ((((w229.setCell ⟨b228, 0, none⟩ (.int .i64 ((zr.tree.ren 1099511627776).tm.k))).setCell ⟨b228, 1, none⟩ (.string (str (zr.tree.ren 1099511627776).tm.nm))).setCell ⟨b228, 2, none⟩ (.int .i64 ((zr.tree.ren 1099511627776).tm.i))).setCell ⟨b228, 3, none⟩ (.slice aw (zr.tree.ren 1099511627776).tm.args.length cw)) = w232 at Y K1 K2 K3 KV KD K5 K6 K7 B1 B5 B29 B49 B203 B228
                  refine st_skip g5_33_7 rfl (wanted_free rfl) Y ?_; clear Y
                  have Y : (execOp a230.eval o5_33_8).run Try.prog w232 = .ok (.value (.int .i64 (1099511627776 + (zr.tree.vars.length : Int)))) w232 := by unfold o5_33_8; go_simp
                  refine st_val g5_33_8 rfl (wanted_free rfl) Y fun a233 e => ?_; clear Y
                  replace R := R.put e; replace h6 := so e h6; replace h7 := so e h7; replace h11 := so e h11; replace h23 := so e h23; replace h63 := so e h63; replace h64 := so e h64; replace h65 := so e h65; replace h66 := so e h66; replace h72 := so e h72; replace h73 := so e h73; replace h74 := so e h74; replace h75 := so e h75; replace h126 := so e h126; clear h124 h125; clear e
                  have Y : (execOp a233.eval o5_33_9).run Try.prog w232 = .ok (.value (.int .i64 0)) w232 := by unfold o5_33_9; go_simp
                  refine st_val g5_33_9 rfl (wanted_free rfl) Y fun a235 e => ?_; clear Y
                  have g25 := R.at_ e (by decide); replace R := R.put e; replace h6 := so e h6; replace h7 := so e h7; replace h11 := so e h11; replace h23 := so e h23; replace h63 := so e h63; replace h64 := so e h64; replace h65 := so e h65; replace h66 := so e h66; replace h72 := so e h72; replace h73 := so e h73; replace h74 := so e h74; replace h75 := so e h75; clear h126; have h25 := g25; clear g25; clear e
                  refine st_end ?_
                  change (c5_121).wp _ _ _ _
                  refine wp_seq (x := c5_122) (y := c5_129) ?_
                  refine wp_seq (x := c5_123) (y := c5_124) ?_
                  change (Code.region 34 O5_34 false).wp _ _ _ _
                  refine reg_in (l := [0, 1]) rfl ?_
                  have Y : (execOp a235.eval o5_34_0).run Try.prog w232 = .ok (.value (.int .i64 0)) w232 := by unfold o5_34_0; go_simp
                  refine st_val g5_34_0 rfl (wanted_free rfl) Y fun a237 e => ?_; clear Y
                  have g127 := R.at_ e (by decide); replace R := R.put e; replace h6 := so e h6; replace h7 := so e h7; replace h11 := so e h11; replace h23 := so e h23; replace h63 := so e h63; replace h64 := so e h64; replace h65 := so e h65; replace h66 := so e h66; replace h72 := so e h72; replace h73 := so e h73; replace h74 := so e h74; replace h75 := so e h75; clear h25; have h127 := g127; clear g127; clear e
                  have Y : (execOp a237.eval o5_34_1).run Try.prog w232 = .ok (.value (.bool false)) w232 := by unfold o5_34_1; go_simp
                  refine st_val g5_34_1 rfl (wanted_free rfl) Y fun a239 e => ?_; clear Y
                  have g128 := R.at_ e (by decide); replace R := R.put e; replace h6 := so e h6; replace h7 := so e h7; replace h11 := so e h11; replace h23 := so e h23; replace h63 := so e h63; replace h64 := so e h64; replace h65 := so e h65; replace h66 := so e h66; replace h72 := so e h72; replace h73 := so e h73; replace h74 := so e h74; replace h75 := so e h75; clear h127; have h128 := g128; clear g128; clear e
                  refine st_end ?_
                  change (c5_124).wp _ _ _ _
                  refine wp_cond_false (x := c5_125) (y := Code.skip) (eval_slot h128) ?_
                  refine wp_skip ?_
                  change (c5_129).wp _ _ _ _
                  refine wp_seq (x := c5_130) (y := c5_131) ?_
                  change (Code.region 36 O5_36 false).wp _ _ _ _
                  refine reg_in (l := [0, 1, 2, 3, 4, 5, 6, 7, 8, 9]) rfl ?_
                  have Y : (execOp a239.eval o5_36_0).run Try.prog w232 = .ok (.value (.agg #[.int .i64 ((zr.tree.ren 1099511627776).tm.k), .string (str (zr.tree.ren 1099511627776).tm.nm), .int .i64 ((zr.tree.ren 1099511627776).tm.i), .slice aw (zr.tree.ren 1099511627776).tm.args.length cw])) w232 := by have qq0 : w232.cell? ⟨b228, 0, none⟩ = some (.int .i64 ((zr.tree.ren 1099511627776).tm.k)) := B228.cell 0; have qq1 : w232.cell? ⟨b228, 1, none⟩ = some (.string (str (zr.tree.ren 1099511627776).tm.nm)) := B228.cell 1; have qq2 : w232.cell? ⟨b228, 2, none⟩ = some (.int .i64 ((zr.tree.ren 1099511627776).tm.i)) := B228.cell 2; have qq3 : w232.cell? ⟨b228, 3, none⟩ = some (.slice aw (zr.tree.ren 1099511627776).tm.args.length cw) := B228.cell 3; unfold o5_36_0; go_simp
                  refine st_val g5_36_0 rfl (wanted_free rfl) Y fun a241 e => ?_; clear Y
                  have g130 := R.at_ e (by decide); replace R := R.put e; replace h6 := so e h6; replace h7 := so e h7; replace h11 := so e h11; replace h63 := so e h63; replace h64 := so e h64; replace h65 := so e h65; replace h66 := so e h66; replace h72 := so e h72; replace h73 := so e h73; replace h74 := so e h74; replace h75 := so e h75; clear h23 h128; have h130 := g130; clear g130; clear e
                  have Y : (execOp a241.eval o5_36_1).run Try.prog w232 = .ok (.value (.agg #[.int .i64 xr.k, .string (str xr.nm), .int .i64 xr.i, .slice ax xr.args.length cx])) w232 := by have qq0 : w232.cell? ⟨b29, 0, none⟩ = some (.int .i64 xr.k) := B29.cell 0; have qq1 : w232.cell? ⟨b29, 1, none⟩ = some (.string (str xr.nm)) := B29.cell 1; have qq2 : w232.cell? ⟨b29, 2, none⟩ = some (.int .i64 xr.i) := B29.cell 2; have qq3 : w232.cell? ⟨b29, 3, none⟩ = some (.slice ax xr.args.length cx) := B29.cell 3; unfold o5_36_1; go_simp
                  refine st_val g5_36_1 rfl (wanted_free rfl) Y fun a243 e => ?_; clear Y
                  have g131 := R.at_ e (by decide); replace R := R.put e; replace h6 := so e h6; replace h11 := so e h11; replace h63 := so e h63; replace h64 := so e h64; replace h65 := so e h65; replace h66 := so e h66; replace h72 := so e h72; replace h73 := so e h73; replace h74 := so e h74; replace h75 := so e h75; replace h130 := so e h130; clear h7; have h131 := g131; clear g131; clear e
                  have Y : (execOp a243.eval o5_36_2).run Try.prog w232 = .ok (.enter 28 #[.agg #[.int .i64 ((zr.tree.ren 1099511627776).tm.k), .string (str (zr.tree.ren 1099511627776).tm.nm), .int .i64 ((zr.tree.ren 1099511627776).tm.i), .slice aw (zr.tree.ren 1099511627776).tm.args.length cw], .agg #[.int .i64 xr.k, .string (str xr.nm), .int .i64 xr.i, .slice ax xr.args.length cx]]) w232 := by unfold o5_36_2; go_simp
                  refine st_call g5_36_2 rfl (wanted_free rfl) Y ((solve_sx (HW.out.on K7) (HX.out.on K2)).mono ?_); clear Y
                  rintro e9 w245 ⟨va6, vc6, ds, ok6, er6, rfl, hs, kk⟩
                  replace K1 := keep_onto K1 kk
                  replace K2 := keep_onto K2 kk
                  replace K3 := keep_onto K3 kk
                  replace KV := keep_onto KV kk
                  replace KD := keep_onto KD kk
                  replace K5 := keep_onto K5 kk
                  replace K6 := keep_onto K6 kk
                  replace K7 := keep_onto K7 kk
                  replace B1 := blk_on B1 kk
                  replace B5 := blk_on B5 kk
                  replace B29 := blk_on B29 kk
                  replace B49 := blk_on B49 kk
                  replace B203 := blk_on B203 kk
                  replace B228 := blk_on B228 kk
                  clear kk
                  have he1 : e1 = 0 := by omega
                  have he2 : e2 = 0 := by omega
                  have hzz := HAP.out.2 (by omega)
                  have HFT := Lib.hid (least_fits (by rw [← he1]; exact HA1.out) (by rw [← he2]; exact HA2.out) HZS.out HF.out hzz.2 hzz.1 (by decide) HBX.out hs.1); clear hs he1 he2 hzz
                  refine ⟨_, rfl, fun a246 e => ?_⟩
                  have g132 := R.at_ e (by decide); replace R := R.put e; replace h6 := so e h6; replace h11 := so e h11; replace h63 := so e h63; replace h64 := so e h64; replace h65 := so e h65; replace h66 := so e h66; replace h72 := so e h72; replace h73 := so e h73; replace h74 := so e h74; replace h75 := so e h75; clear h130 h131; have h132 := g132; clear g132; clear e
                  have Y : (execOp a246.eval o5_36_3).run Try.prog w245 = .ok (.value (.tuple #[.slice va6 ds.length vc6, .bool ok6, .int .i64 er6])) w245 := by unfold o5_36_3; go_simp
                  refine st_val g5_36_3 rfl (wanted_free rfl) Y fun a248 e => ?_; clear Y
                  have g129 := R.at_ e (by decide); replace R := R.put e; replace h6 := so e h6; replace h11 := so e h11; replace h63 := so e h63; replace h64 := so e h64; replace h65 := so e h65; replace h66 := so e h66; replace h72 := so e h72; replace h73 := so e h73; replace h74 := so e h74; replace h75 := so e h75; clear h132; have h129 := g129; clear g129; clear e
                  have Y : (execOp a248.eval o5_36_4).run Try.prog w245 = .ok (.value (.slice va6 ds.length vc6)) w245 := by unfold o5_36_4; go_simp
                  refine st_val g5_36_4 rfl (wanted_free rfl) Y fun a250 e => ?_; clear Y
                  have g133 := R.at_ e (by decide); replace R := R.put e; replace h6 := so e h6; replace h11 := so e h11; replace h63 := so e h63; replace h64 := so e h64; replace h65 := so e h65; replace h66 := so e h66; replace h72 := so e h72; replace h73 := so e h73; replace h74 := so e h74; replace h75 := so e h75; replace h129 := so e h129; have h133 := g133; clear g133; clear e
                  have Y : (execOp a250.eval o5_36_5).run Try.prog w245 = .ok (.value (.bool ok6)) w245 := by unfold o5_36_5; go_simp
                  refine st_val g5_36_5 rfl (wanted_free rfl) Y fun a252 e => ?_; clear Y
                  have g134 := R.at_ e (by decide); replace R := R.put e; replace h6 := so e h6; replace h11 := so e h11; replace h63 := so e h63; replace h64 := so e h64; replace h65 := so e h65; replace h66 := so e h66; replace h72 := so e h72; replace h73 := so e h73; replace h74 := so e h74; replace h75 := so e h75; replace h129 := so e h129; replace h133 := so e h133; have h134 := g134; clear g134; clear e
                  have Y : (execOp a252.eval o5_36_6).run Try.prog w245 = .ok (.value (.int .i64 er6)) w245 := by unfold o5_36_6; go_simp
                  refine st_val g5_36_6 rfl (wanted_free rfl) Y fun a254 e => ?_; clear Y
                  have g135 := R.at_ e (by decide); replace R := R.put e; replace h6 := so e h6; replace h11 := so e h11; replace h63 := so e h63; replace h64 := so e h64; replace h65 := so e h65; replace h66 := so e h66; replace h72 := so e h72; replace h73 := so e h73; replace h74 := so e h74; replace h75 := so e h75; replace h133 := so e h133; replace h134 := so e h134; clear h129; have h135 := g135; clear g135; clear e
                  have Y : (execOp a254.eval o5_36_7).run Try.prog w245 = .ok (.value (.slice va6 ds.length vc6)) w245 := by unfold o5_36_7; go_simp
                  refine st_val g5_36_7 rfl (wanted_free rfl) Y fun a256 e => ?_; clear Y
                  replace R := R.put e; replace h6 := so e h6; replace h11 := so e h11; replace h63 := so e h63; replace h64 := so e h64; replace h65 := so e h65; replace h66 := so e h66; replace h72 := so e h72; replace h73 := so e h73; replace h74 := so e h74; replace h75 := so e h75; replace h134 := so e h134; replace h135 := so e h135; clear h133; clear e
                  have Y : (execOp a256.eval o5_36_8).run Try.prog w245 = .ok (.value (.bool ok6)) w245 := by unfold o5_36_8; go_simp
                  refine st_val g5_36_8 rfl (wanted_free rfl) Y fun a258 e => ?_; clear Y
                  have g27 := R.at_ e (by decide); replace R := R.put e; replace h6 := so e h6; replace h11 := so e h11; replace h63 := so e h63; replace h64 := so e h64; replace h65 := so e h65; replace h66 := so e h66; replace h72 := so e h72; replace h73 := so e h73; replace h74 := so e h74; replace h75 := so e h75; replace h135 := so e h135; clear h134; have h27 := g27; clear g27; clear e
                  have Y : (execOp a258.eval o5_36_9).run Try.prog w245 = .ok (.value (.int .i64 er6)) w245 := by unfold o5_36_9; go_simp
                  refine st_val g5_36_9 rfl (wanted_free rfl) Y fun a260 e => ?_; clear Y
                  have g28 := R.at_ e (by decide); replace R := R.put e; replace h6 := so e h6; replace h11 := so e h11; replace h27 := so e h27; replace h63 := so e h63; replace h64 := so e h64; replace h65 := so e h65; replace h66 := so e h66; replace h72 := so e h72; replace h73 := so e h73; replace h74 := so e h74; replace h75 := so e h75; clear h135; have h28 := g28; clear g28; clear e
                  refine st_end ?_
                  change (c5_131).wp _ _ _ _
                  refine wp_seq (x := c5_132) (y := Code.ret) ?_
                  change (Code.region 37 O5_37 false).wp _ _ _ _
                  refine reg_in (l := [0, 1, 2, 3, 4, 5]) rfl ?_
                  have Y : (execOp a260.eval o5_37_0).run Try.prog w245 = .ok (.value (.bool ok6)) w245 := by unfold o5_37_0; go_simp
                  refine st_val g5_37_0 rfl (wanted_free rfl) Y fun a262 e => ?_; clear Y
                  have g136 := R.at_ e (by decide); replace R := R.put e; replace h6 := so e h6; replace h11 := so e h11; replace h28 := so e h28; replace h63 := so e h63; replace h64 := so e h64; replace h65 := so e h65; replace h66 := so e h66; replace h72 := so e h72; replace h73 := so e h73; replace h74 := so e h74; replace h75 := so e h75; clear h27; have h136 := g136; clear g136; clear e
                  have Y : (execOp a262.eval o5_37_1).run Try.prog w245 = .ok (.value (.bool ok6)) w245 := by unfold o5_37_1; go_simp
                  refine st_val g5_37_1 rfl (wanted_free rfl) Y fun a264 e => ?_; clear Y
                  have g137 := R.at_ e (by decide); replace R := R.put e; replace h6 := so e h6; replace h11 := so e h11; replace h28 := so e h28; replace h63 := so e h63; replace h64 := so e h64; replace h65 := so e h65; replace h66 := so e h66; replace h72 := so e h72; replace h73 := so e h73; replace h74 := so e h74; replace h75 := so e h75; clear h136; have h137 := g137; clear g137; clear e
                  cases ok6 with
                  | false =>
                    have Y : (execOp a264.eval o5_37_2).run Try.prog w245 = .ok (.value (.int .i64 er6)) w245 := by unfold o5_37_2; go_simp
                    refine st_val g5_37_2 rfl (wanted_is (j := 1) (d := 137) rfl rfl h137 rfl) Y fun a266 e => ?_; clear Y
                    have g138 := R.at_ e (by decide); replace R := R.put e; replace h6 := so e h6; replace h11 := so e h11; replace h63 := so e h63; replace h64 := so e h64; replace h65 := so e h65; replace h66 := so e h66; replace h72 := so e h72; replace h73 := so e h73; replace h74 := so e h74; replace h75 := so e h75; replace h137 := so e h137; clear h28; have h138 := g138; clear g138; clear e
                    have Y : (execOp a266.eval o5_37_3).run Try.prog w245 = .ok (.value (.bool true)) w245 := by have h2 : er6 = 2 := (by rcases HFT.out with h | h; exact absurd h (by decide); exact h); unfold o5_37_3; go_simp
                    refine st_val g5_37_3 rfl (wanted_is (j := 1) (d := 137) rfl rfl h137 rfl) Y fun a268 e => ?_; clear Y
                    have g139 := R.at_ e (by decide); replace R := R.put e; replace h6 := so e h6; replace h11 := so e h11; replace h63 := so e h63; replace h64 := so e h64; replace h65 := so e h65; replace h66 := so e h66; replace h72 := so e h72; replace h73 := so e h73; replace h74 := so e h74; replace h75 := so e h75; replace h137 := so e h137; clear h138; have h139 := g139; clear g139; clear e
                    have Y : (execOp a268.eval o5_37_4).run Try.prog w245 = .ok (.value (.bool true)) w245 := by unfold o5_37_4; go_simp
                    refine st_val g5_37_4 rfl (wanted_free rfl) Y fun a270 e => ?_; clear Y
                    have g140 := R.at_ e (by decide); replace R := R.put e; replace h6 := so e h6; replace h11 := so e h11; replace h63 := so e h63; replace h64 := so e h64; replace h65 := so e h65; replace h66 := so e h66; replace h72 := so e h72; replace h73 := so e h73; replace h74 := so e h74; replace h75 := so e h75; clear h137 h139; have h140 := g140; clear g140; clear e
                    have Y : (execOp a270.eval o5_37_5).run Try.prog w245 = .ok (.value (.bool true)) w245 := by unfold o5_37_5; go_simp
                    refine st_val g5_37_5 rfl (wanted_free rfl) Y fun a272 e => ?_; clear Y
                    have g6 := R.at_ e (by decide); replace R := R.put e; replace h11 := so e h11; replace h63 := so e h63; replace h64 := so e h64; replace h65 := so e h65; replace h66 := so e h66; replace h72 := so e h72; replace h73 := so e h73; replace h74 := so e h74; replace h75 := so e h75; clear h6 h140; have h6 := g6; clear g6; clear e
                    refine st_end ?_
                    change (Code.ret).wp _ _ _ _
                    refine wp_ret ?_
                    change bodyPost Try.prog Try.f5 (fun e w' => e = .returned (.bool true) ∧ Keep (fun g => g < W.heap.size) W w') .ret a272 w245
                    refine ret_one rfl R h6 ?_
                    exact ⟨rfl, K1⟩
                  | true =>
                    refine st_not g5_37_2 rfl (wanted_is (j := 1) (d := 137) rfl rfl h137 rfl) fun a274 e => ?_
                    have g138 := R.at_ e (by decide); replace R := R.put e; replace h6 := so e h6; replace h11 := so e h11; replace h63 := so e h63; replace h64 := so e h64; replace h65 := so e h65; replace h66 := so e h66; replace h72 := so e h72; replace h73 := so e h73; replace h74 := so e h74; replace h75 := so e h75; replace h137 := so e h137; clear h28; have h138 := g138; clear g138; clear e
                    refine st_not g5_37_3 rfl (wanted_is (j := 1) (d := 137) rfl rfl h137 rfl) fun a276 e => ?_
                    have g139 := R.at_ e (by decide); replace R := R.put e; replace h6 := so e h6; replace h11 := so e h11; replace h63 := so e h63; replace h64 := so e h64; replace h65 := so e h65; replace h66 := so e h66; replace h72 := so e h72; replace h73 := so e h73; replace h74 := so e h74; replace h75 := so e h75; replace h137 := so e h137; clear h138; have h139 := g139; clear g139; clear e
                    have Y : (execOp a276.eval o5_37_4).run Try.prog w245 = .ok (.value (.bool true)) w245 := by unfold o5_37_4; go_simp
                    refine st_val g5_37_4 rfl (wanted_free rfl) Y fun a278 e => ?_; clear Y
                    have g140 := R.at_ e (by decide); replace R := R.put e; replace h6 := so e h6; replace h11 := so e h11; replace h63 := so e h63; replace h64 := so e h64; replace h65 := so e h65; replace h66 := so e h66; replace h72 := so e h72; replace h73 := so e h73; replace h74 := so e h74; replace h75 := so e h75; clear h137 h139; have h140 := g140; clear g140; clear e
                    have Y : (execOp a278.eval o5_37_5).run Try.prog w245 = .ok (.value (.bool true)) w245 := by unfold o5_37_5; go_simp
                    refine st_val g5_37_5 rfl (wanted_free rfl) Y fun a280 e => ?_; clear Y
                    have g6 := R.at_ e (by decide); replace R := R.put e; replace h11 := so e h11; replace h63 := so e h63; replace h64 := so e h64; replace h65 := so e h65; replace h66 := so e h66; replace h72 := so e h72; replace h73 := so e h73; replace h74 := so e h74; replace h75 := so e h75; clear h6 h140; have h6 := g6; clear g6; clear e
                    refine st_end ?_
                    change (Code.ret).wp _ _ _ _
                    refine wp_ret ?_
                    change bodyPost Try.prog Try.f5 (fun e w' => e = .returned (.bool true) ∧ Keep (fun g => g < W.heap.size) W w') .ret a280 w245
                    refine ret_one rfl R h6 ?_
                    exact ⟨rfl, K1⟩
                | true =>
                  have fb212 := hb212; clear hb212
                  simp only [decide_eq_true_eq, decide_eq_false_iff_not, bne_iff_ne, bne_eq_false_iff_eq, beq_iff_eq, beq_eq_false_iff_ne, ne_eq, Bool.not_eq_true', Bool.not_eq_false', Bool.not_eq_eq_eq_not, Bool.not_true, Bool.not_false] at fb212
                  refine wp_cond_true (x := c5_115) (y := Code.skip) (eval_slot h118) ?_
                  refine wp_seq (x := c5_116) (y := Code.ret) ?_
                  change (Code.region 32 O5_32 false).wp _ _ _ _
                  refine reg_in (l := [0, 1, 2]) rfl ?_
                  have Y : (execOp a213.eval o5_32_0).run Try.prog w207 = .ok (.value (.int .i64 e3)) w207 := by unfold o5_32_0; go_simp
                  refine st_val g5_32_0 rfl (wanted_free rfl) Y fun a282 e => ?_; clear Y
                  have g119 := R.at_ e (by decide); replace R := R.put e; replace h6 := so e h6; replace h7 := so e h7; replace h11 := so e h11; replace h21 := so e h21; replace h63 := so e h63; replace h64 := so e h64; replace h65 := so e h65; replace h66 := so e h66; replace h72 := so e h72; replace h73 := so e h73; replace h74 := so e h74; replace h75 := so e h75; clear h22 h118; have h119 := g119; clear g119; clear e
                  have Y : (execOp a282.eval o5_32_1).run Try.prog w207 = .ok (.value (.bool true)) w207 := by have h2 : e3 = 2 := (by rcases HAP.out.1 with h | h; exact h; omega); unfold o5_32_1; go_simp
                  refine st_val g5_32_1 rfl (wanted_free rfl) Y fun a284 e => ?_; clear Y
                  have g120 := R.at_ e (by decide); replace R := R.put e; replace h6 := so e h6; replace h7 := so e h7; replace h11 := so e h11; replace h21 := so e h21; replace h63 := so e h63; replace h64 := so e h64; replace h65 := so e h65; replace h66 := so e h66; replace h72 := so e h72; replace h73 := so e h73; replace h74 := so e h74; replace h75 := so e h75; clear h119; have h120 := g120; clear g120; clear e
                  have Y : (execOp a284.eval o5_32_2).run Try.prog w207 = .ok (.value (.bool true)) w207 := by unfold o5_32_2; go_simp
                  refine st_val g5_32_2 rfl (wanted_free rfl) Y fun a286 e => ?_; clear Y
                  have g6 := R.at_ e (by decide); replace R := R.put e; replace h7 := so e h7; replace h11 := so e h11; replace h21 := so e h21; replace h63 := so e h63; replace h64 := so e h64; replace h65 := so e h65; replace h66 := so e h66; replace h72 := so e h72; replace h73 := so e h73; replace h74 := so e h74; replace h75 := so e h75; clear h6 h120; have h6 := g6; clear g6; clear e
                  refine st_end ?_
                  change (Code.ret).wp _ _ _ _
                  refine wp_ret ?_
                  change bodyPost Try.prog Try.f5 (fun e w' => e = .returned (.bool true) ∧ Keep (fun g => g < W.heap.size) W w') .ret a286 w207
                  refine ret_one rfl R h6 ?_
                  exact ⟨rfl, K1⟩
            | true =>
              have fb163 := hb163; clear hb163
              simp only [decide_eq_true_eq, decide_eq_false_iff_not, bne_iff_ne, bne_eq_false_iff_eq, beq_iff_eq, beq_eq_false_iff_ne, ne_eq, Bool.not_eq_true', Bool.not_eq_false', Bool.not_eq_eq_eq_not, Bool.not_true, Bool.not_false] at fb163
              refine wp_cond_true (x := c5_97) (y := Code.skip) (eval_slot h104) ?_
              refine wp_seq (x := c5_98) (y := Code.ret) ?_
              change (Code.region 27 O5_27 false).wp _ _ _ _
              refine reg_in (l := [0]) rfl ?_
              have Y : (execOp a164.eval o5_27_0).run Try.prog w144 = .ok (.value (.bool true)) w144 := by unfold o5_27_0; go_simp
              refine st_val g5_27_0 rfl (wanted_free rfl) Y fun a288 e => ?_; clear Y
              have g6 := R.at_ e (by decide); replace R := R.put e; replace h3 := so e h3; replace h7 := so e h7; replace h11 := so e h11; replace h18 := so e h18; replace h19 := so e h19; replace h20 := so e h20; replace h63 := so e h63; replace h64 := so e h64; replace h65 := so e h65; replace h66 := so e h66; replace h72 := so e h72; replace h73 := so e h73; replace h74 := so e h74; replace h75 := so e h75; clear h6 h104; have h6 := g6; clear g6; clear e
              refine st_end ?_
              change (Code.ret).wp _ _ _ _
              refine wp_ret ?_
              change bodyPost Try.prog Try.f5 (fun e w' => e = .returned (.bool true) ∧ Keep (fun g => g < W.heap.size) W w') .ret a288 w144
              refine ret_one rfl R h6 ?_
              exact ⟨rfl, K1⟩
          | true =>
            have fb137 := hb137; clear hb137
            simp only [decide_eq_true_eq, decide_eq_false_iff_not, bne_iff_ne, bne_eq_false_iff_eq, beq_iff_eq, beq_eq_false_iff_ne, ne_eq, Bool.not_eq_true', Bool.not_eq_false', Bool.not_eq_eq_eq_not, Bool.not_true, Bool.not_false] at fb137
            refine wp_cond_true (x := Code.skip) (y := c5_57) (eval_slot h75) ?_
            refine wp_skip ?_
            change (c5_58).wp _ _ _ _
            refine wp_seq (x := c5_59) (y := c5_90) ?_
            refine wp_block (id := 3) (c := c5_60) ?_
            refine wp_seq (x := c5_61) (y := c5_62) ?_
            change (Code.region 16 O5_16 false).wp _ _ _ _
            refine reg_in (l := [0, 1, 2, 3]) rfl ?_
            obtain ⟨bA, oA2, hsA, -⟩ := bsl_addr (bsl_on HS.out K1) (show j < sm.length by omega)
            have hltA : (j : Int) < (sm.length : Int) := by omega
            have Y : (execOp a138.eval o5_16_0).run Try.prog w135 = .ok (.value (.pointer (some ⟨bA, oA2 + j * 5, none⟩))) w135 := by unfold o5_16_0; go_simp
            refine st_val g5_16_0 rfl (wanted_free rfl) Y fun a290 e => ?_; clear Y
            have g76 := R.at_ e (by decide); replace R := R.put e; replace h3 := so e h3; replace h4 := so e h4; replace h6 := so e h6; replace h7 := so e h7; replace h11 := so e h11; replace h63 := so e h63; replace h64 := so e h64; replace h65 := so e h65; replace h66 := so e h66; replace h72 := so e h72; replace h73 := so e h73; replace h74 := so e h74; replace h75 := so e h75; have h76 := g76; clear g76; clear e
            obtain ⟨p, hp⟩ : ∃ q, sm[j]? = some q := ⟨_, List.getElem?_eq_getElem (by omega)⟩
            have Y : (execOp a290.eval o5_16_1).run Try.prog w135 = .ok (.value (.agg #[.int .i64 p.1, .int .i64 p.2.1.k, .string (str p.2.1.nm), .int .i64 p.2.1.i, .slice p.2.2.1 p.2.1.args.length p.2.2.2])) w135 := by obtain ⟨⟨c0, c1, c2, c3, c4⟩, -⟩ := bsl_at (bsl_on HS.out K1) hsA hp; unfold o5_16_1; go_simp
            refine st_val g5_16_1 rfl (wanted_free rfl) Y fun a292 e => ?_; clear Y
            have g77 := R.at_ e (by decide); replace R := R.put e; replace h3 := so e h3; replace h4 := so e h4; replace h6 := so e h6; replace h7 := so e h7; replace h11 := so e h11; replace h63 := so e h63; replace h64 := so e h64; replace h65 := so e h65; replace h66 := so e h66; replace h72 := so e h72; replace h73 := so e h73; replace h74 := so e h74; replace h75 := so e h75; replace h76 := so e h76; have h77 := g77; clear g77; clear e
            have MK1 := K1
            have MK2 := K2
            have MK3 := K3
            have MKV := KV
            have MKD := KD
            have Y : (execOp a292.eval o5_16_2).run Try.prog w135 = .ok (.value (.pointer (some ⟨w135.heap.size, 0, none⟩))) (w135.alloc (.cells #[.int .i64 0, .int .i64 0, .string (⟨#[]⟩), .int .i64 0, .slice none 0 0] 41)) := by unfold o5_16_2; go_simp
            have B294 := Blk.new w135 41 #[.int .i64 0, .int .i64 0, .string (⟨#[]⟩), .int .i64 0, .slice none 0 0]
            replace K1 := K1.alloc (.cells #[.int .i64 0, .int .i64 0, .string (⟨#[]⟩), .int .i64 0, .slice none 0 0] 41)
            replace K2 := K2.alloc (.cells #[.int .i64 0, .int .i64 0, .string (⟨#[]⟩), .int .i64 0, .slice none 0 0] 41)
            replace K3 := K3.alloc (.cells #[.int .i64 0, .int .i64 0, .string (⟨#[]⟩), .int .i64 0, .slice none 0 0] 41)
            replace KV := KV.alloc (.cells #[.int .i64 0, .int .i64 0, .string (⟨#[]⟩), .int .i64 0, .slice none 0 0] 41)
            replace KD := KD.alloc (.cells #[.int .i64 0, .int .i64 0, .string (⟨#[]⟩), .int .i64 0, .slice none 0 0] 41)
            have Nb1_b294 := Nat.ne_of_lt B1.lt; replace B1 := B1.alloc (.cells #[.int .i64 0, .int .i64 0, .string (⟨#[]⟩), .int .i64 0, .slice none 0 0] 41)
            have Nb5_b294 := Nat.ne_of_lt B5.lt; replace B5 := B5.alloc (.cells #[.int .i64 0, .int .i64 0, .string (⟨#[]⟩), .int .i64 0, .slice none 0 0] 41)
            have Nb29_b294 := Nat.ne_of_lt B29.lt; replace B29 := B29.alloc (.cells #[.int .i64 0, .int .i64 0, .string (⟨#[]⟩), .int .i64 0, .slice none 0 0] 41)
            have Nb49_b294 := Nat.ne_of_lt B49.lt; replace B49 := B49.alloc (.cells #[.int .i64 0, .int .i64 0, .string (⟨#[]⟩), .int .i64 0, .slice none 0 0] 41)
            obtain ⟨w295, hw295⟩ : ∃ x, x = w135.alloc (.cells #[.int .i64 0, .int .i64 0, .string (⟨#[]⟩), .int .i64 0, .slice none 0 0] 41) := ⟨_, rfl⟩
            rw [← hw295] at Y B294 K1 K2 K3 KV KD B1 B5 B29 B49
            obtain ⟨b294, hb294⟩ : ∃ x, x = w135.heap.size := ⟨_, rfl⟩
            rw [← hb294] at Y B294 Nb1_b294 Nb5_b294 Nb29_b294 Nb49_b294
            have LK1_b294 : W.heap.size ≤ b294 := by rw [hb294]; first | exact Nat.le_refl _ | exact MK1.size
            have LK2_b294 : w20.heap.size ≤ b294 := by rw [hb294]; first | exact Nat.le_refl _ | exact MK2.size
            have LK3_b294 : w40.heap.size ≤ b294 := by rw [hb294]; first | exact Nat.le_refl _ | exact MK3.size
            have LKV_b294 : w8.heap.size ≤ b294 := by rw [hb294]; first | exact Nat.le_refl _ | exact MKV.size
            have LKD_b294 : w99.heap.size ≤ b294 := by rw [hb294]; first | exact Nat.le_refl _ | exact MKD.size
            clear hw295 hb294 MK1 MK2 MK3 MKV MKD
            refine st_val g5_16_2 rfl (wanted_free rfl) Y fun a296 e => ?_; clear Y
            have g15 := R.at_ e (by decide); replace R := R.put e; replace h3 := so e h3; replace h4 := so e h4; replace h6 := so e h6; replace h7 := so e h7; replace h11 := so e h11; replace h63 := so e h63; replace h64 := so e h64; replace h65 := so e h65; replace h66 := so e h66; replace h72 := so e h72; replace h73 := so e h73; replace h74 := so e h74; replace h75 := so e h75; replace h76 := so e h76; replace h77 := so e h77; have h15 := g15; clear g15; clear e
            have Y : (execOp a296.eval o5_16_3).run Try.prog w295 = .ok .skip (((((w295.setCell ⟨b294, 0, none⟩ (.int .i64 p.1)).setCell ⟨b294, 1, none⟩ (.int .i64 p.2.1.k)).setCell ⟨b294, 2, none⟩ (.string (str p.2.1.nm))).setCell ⟨b294, 3, none⟩ (.int .i64 p.2.1.i)).setCell ⟨b294, 4, none⟩ (.slice p.2.2.1 p.2.1.args.length p.2.2.2)) := by have qq0 : w295.cell? ⟨b294, 0, none⟩ = some (.int .i64 0) := B294.cell 0; have qq1 : w295.cell? ⟨b294, 1, none⟩ = some (.int .i64 0) := B294.cell 1; have qq2 : w295.cell? ⟨b294, 2, none⟩ = some (.string (⟨#[]⟩)) := B294.cell 2; have qq3 : w295.cell? ⟨b294, 3, none⟩ = some (.int .i64 0) := B294.cell 3; have qq4 : w295.cell? ⟨b294, 4, none⟩ = some (.slice none 0 0) := B294.cell 4; have z0 := B294.frozen 0; have z1 := B294.frozen 1; have z2 := B294.frozen 2; have z3 := B294.frozen 3; have z4 := B294.frozen 4; unfold o5_16_3; go_simp
            replace K1 := (((((K1.setCell (p := ⟨b294, 0, none⟩) (Nat.not_lt.2 LK1_b294) (.int .i64 p.1)).setCell (p := ⟨b294, 1, none⟩) (Nat.not_lt.2 LK1_b294) (.int .i64 p.2.1.k)).setCell (p := ⟨b294, 2, none⟩) (Nat.not_lt.2 LK1_b294) (.string (str p.2.1.nm))).setCell (p := ⟨b294, 3, none⟩) (Nat.not_lt.2 LK1_b294) (.int .i64 p.2.1.i)).setCell (p := ⟨b294, 4, none⟩) (Nat.not_lt.2 LK1_b294) (.slice p.2.2.1 p.2.1.args.length p.2.2.2))
            replace K2 := (((((K2.setCell (p := ⟨b294, 0, none⟩) (Nat.not_lt.2 LK2_b294) (.int .i64 p.1)).setCell (p := ⟨b294, 1, none⟩) (Nat.not_lt.2 LK2_b294) (.int .i64 p.2.1.k)).setCell (p := ⟨b294, 2, none⟩) (Nat.not_lt.2 LK2_b294) (.string (str p.2.1.nm))).setCell (p := ⟨b294, 3, none⟩) (Nat.not_lt.2 LK2_b294) (.int .i64 p.2.1.i)).setCell (p := ⟨b294, 4, none⟩) (Nat.not_lt.2 LK2_b294) (.slice p.2.2.1 p.2.1.args.length p.2.2.2))
            replace K3 := (((((K3.setCell (p := ⟨b294, 0, none⟩) (Nat.not_lt.2 LK3_b294) (.int .i64 p.1)).setCell (p := ⟨b294, 1, none⟩) (Nat.not_lt.2 LK3_b294) (.int .i64 p.2.1.k)).setCell (p := ⟨b294, 2, none⟩) (Nat.not_lt.2 LK3_b294) (.string (str p.2.1.nm))).setCell (p := ⟨b294, 3, none⟩) (Nat.not_lt.2 LK3_b294) (.int .i64 p.2.1.i)).setCell (p := ⟨b294, 4, none⟩) (Nat.not_lt.2 LK3_b294) (.slice p.2.2.1 p.2.1.args.length p.2.2.2))
            replace KV := (((((KV.setCell (p := ⟨b294, 0, none⟩) (Nat.not_lt.2 LKV_b294) (.int .i64 p.1)).setCell (p := ⟨b294, 1, none⟩) (Nat.not_lt.2 LKV_b294) (.int .i64 p.2.1.k)).setCell (p := ⟨b294, 2, none⟩) (Nat.not_lt.2 LKV_b294) (.string (str p.2.1.nm))).setCell (p := ⟨b294, 3, none⟩) (Nat.not_lt.2 LKV_b294) (.int .i64 p.2.1.i)).setCell (p := ⟨b294, 4, none⟩) (Nat.not_lt.2 LKV_b294) (.slice p.2.2.1 p.2.1.args.length p.2.2.2))
            replace KD := (((((KD.setCell (p := ⟨b294, 0, none⟩) (Nat.not_lt.2 LKD_b294) (.int .i64 p.1)).setCell (p := ⟨b294, 1, none⟩) (Nat.not_lt.2 LKD_b294) (.int .i64 p.2.1.k)).setCell (p := ⟨b294, 2, none⟩) (Nat.not_lt.2 LKD_b294) (.string (str p.2.1.nm))).setCell (p := ⟨b294, 3, none⟩) (Nat.not_lt.2 LKD_b294) (.int .i64 p.2.1.i)).setCell (p := ⟨b294, 4, none⟩) (Nat.not_lt.2 LKD_b294) (.slice p.2.2.1 p.2.1.args.length p.2.2.2))
            replace B1 := (((((B1.far (p := ⟨b294, 0, none⟩) Nb1_b294 (.int .i64 p.1)).far (p := ⟨b294, 1, none⟩) Nb1_b294 (.int .i64 p.2.1.k)).far (p := ⟨b294, 2, none⟩) Nb1_b294 (.string (str p.2.1.nm))).far (p := ⟨b294, 3, none⟩) Nb1_b294 (.int .i64 p.2.1.i)).far (p := ⟨b294, 4, none⟩) Nb1_b294 (.slice p.2.2.1 p.2.1.args.length p.2.2.2))
            replace B5 := (((((B5.far (p := ⟨b294, 0, none⟩) Nb5_b294 (.int .i64 p.1)).far (p := ⟨b294, 1, none⟩) Nb5_b294 (.int .i64 p.2.1.k)).far (p := ⟨b294, 2, none⟩) Nb5_b294 (.string (str p.2.1.nm))).far (p := ⟨b294, 3, none⟩) Nb5_b294 (.int .i64 p.2.1.i)).far (p := ⟨b294, 4, none⟩) Nb5_b294 (.slice p.2.2.1 p.2.1.args.length p.2.2.2))
            replace B29 := (((((B29.far (p := ⟨b294, 0, none⟩) Nb29_b294 (.int .i64 p.1)).far (p := ⟨b294, 1, none⟩) Nb29_b294 (.int .i64 p.2.1.k)).far (p := ⟨b294, 2, none⟩) Nb29_b294 (.string (str p.2.1.nm))).far (p := ⟨b294, 3, none⟩) Nb29_b294 (.int .i64 p.2.1.i)).far (p := ⟨b294, 4, none⟩) Nb29_b294 (.slice p.2.2.1 p.2.1.args.length p.2.2.2))
            replace B49 := (((((B49.far (p := ⟨b294, 0, none⟩) Nb49_b294 (.int .i64 p.1)).far (p := ⟨b294, 1, none⟩) Nb49_b294 (.int .i64 p.2.1.k)).far (p := ⟨b294, 2, none⟩) Nb49_b294 (.string (str p.2.1.nm))).far (p := ⟨b294, 3, none⟩) Nb49_b294 (.int .i64 p.2.1.i)).far (p := ⟨b294, 4, none⟩) Nb49_b294 (.slice p.2.2.1 p.2.1.args.length p.2.2.2))
            replace B294 : Blk (((((w295.setCell ⟨b294, 0, none⟩ (.int .i64 p.1)).setCell ⟨b294, 1, none⟩ (.int .i64 p.2.1.k)).setCell ⟨b294, 2, none⟩ (.string (str p.2.1.nm))).setCell ⟨b294, 3, none⟩ (.int .i64 p.2.1.i)).setCell ⟨b294, 4, none⟩ (.slice p.2.2.1 p.2.1.args.length p.2.2.2)) b294 41 #[.int .i64 p.1, .int .i64 p.2.1.k, .string (str p.2.1.nm), .int .i64 p.2.1.i, .slice p.2.2.1 p.2.1.args.length p.2.2.2] := (((((B294.set_ 0 (.int .i64 p.1)).set_ 1 (.int .i64 p.2.1.k)).set_ 2 (.string (str p.2.1.nm))).set_ 3 (.int .i64 p.2.1.i)).set_ 4 (.slice p.2.2.1 p.2.1.args.length p.2.2.2))
            generalize (((((w295.setCell ⟨b294, 0, none⟩ (.int .i64 p.1)).setCell ⟨b294, 1, none⟩ (.int .i64 p.2.1.k)).setCell ⟨b294, 2, none⟩ (.string (str p.2.1.nm))).setCell ⟨b294, 3, none⟩ (.int .i64 p.2.1.i)).setCell ⟨b294, 4, none⟩ (.slice p.2.2.1 p.2.1.args.length p.2.2.2)) = w298 at Y K1 K2 K3 KV KD B1 B5 B29 B49 B294
            refine st_skip g5_16_3 rfl (wanted_free rfl) Y ?_; clear Y
            refine st_end ?_
            change (c5_62).wp _ _ _ _
            refine wp_seq (x := c5_63) (y := c5_68) ?_
            refine wp_seq (x := c5_64) (y := c5_65) ?_
            change (Code.region 17 O5_17 false).wp _ _ _ _
            refine reg_in (l := [0, 1, 2, 3, 4]) rfl ?_
            have Y : (execOp a296.eval o5_17_0).run Try.prog w298 = .ok (.value (.slice ra l2.length rc)) w298 := by unfold o5_17_0; go_simp
            refine st_val g5_17_0 rfl (wanted_free rfl) Y fun a299 e => ?_; clear Y
            have g78 := R.at_ e (by decide); replace R := R.put e; replace h3 := so e h3; replace h4 := so e h4; replace h6 := so e h6; replace h7 := so e h7; replace h11 := so e h11; replace h15 := so e h15; replace h63 := so e h63; replace h64 := so e h64; replace h65 := so e h65; replace h66 := so e h66; replace h72 := so e h72; replace h73 := so e h73; replace h74 := so e h74; replace h75 := so e h75; replace h76 := so e h76; replace h77 := so e h77; have h78 := g78; clear g78; clear e
            have Y : (execOp a299.eval o5_17_1).run Try.prog w298 = .ok (.value (.pointer (some ⟨b294, 0, none⟩))) w298 := by unfold o5_17_1; go_simp
            refine st_val g5_17_1 rfl (wanted_free rfl) Y fun a301 e => ?_; clear Y
            have g79 := R.at_ e (by decide); replace R := R.put e; replace h3 := so e h3; replace h4 := so e h4; replace h6 := so e h6; replace h7 := so e h7; replace h11 := so e h11; replace h15 := so e h15; replace h63 := so e h63; replace h64 := so e h64; replace h65 := so e h65; replace h66 := so e h66; replace h72 := so e h72; replace h73 := so e h73; replace h74 := so e h74; replace h75 := so e h75; replace h76 := so e h76; replace h77 := so e h77; replace h78 := so e h78; have h79 := g79; clear g79; clear e
            have Y : (execOp a301.eval o5_17_2).run Try.prog w298 = .ok (.value (.int .i64 p.1)) w298 := by have qq0 : w298.cell? ⟨b294, 0, none⟩ = some (.int .i64 p.1) := B294.cell 0; have qq1 : w298.cell? ⟨b294, 1, none⟩ = some (.int .i64 p.2.1.k) := B294.cell 1; have qq2 : w298.cell? ⟨b294, 2, none⟩ = some (.string (str p.2.1.nm)) := B294.cell 2; have qq3 : w298.cell? ⟨b294, 3, none⟩ = some (.int .i64 p.2.1.i) := B294.cell 3; have qq4 : w298.cell? ⟨b294, 4, none⟩ = some (.slice p.2.2.1 p.2.1.args.length p.2.2.2) := B294.cell 4; unfold o5_17_2; go_simp
            refine st_val g5_17_2 rfl (wanted_free rfl) Y fun a303 e => ?_; clear Y
            have g80 := R.at_ e (by decide); replace R := R.put e; replace h3 := so e h3; replace h4 := so e h4; replace h6 := so e h6; replace h7 := so e h7; replace h11 := so e h11; replace h15 := so e h15; replace h63 := so e h63; replace h64 := so e h64; replace h65 := so e h65; replace h66 := so e h66; replace h72 := so e h72; replace h73 := so e h73; replace h74 := so e h74; replace h75 := so e h75; replace h76 := so e h76; replace h77 := so e h77; replace h78 := so e h78; replace h79 := so e h79; have h80 := g80; clear g80; clear e
            have Y : (execOp a303.eval o5_17_3).run Try.prog w298 = .ok (.enter 31 #[.slice ra l2.length rc, .int .i64 p.1]) w298 := by unfold o5_17_3; go_simp
            obtain ⟨bm305, hbm⟩ : ∃ y, among l2 p.1 = y := ⟨_, rfl⟩
            have hlg := haslong_l (uc := rc) (z := p.1) (longs_on HVS.out.1 KV) (Nat.le_trans HML2.out (by decide))
            rw [hbm] at hlg; clear hbm
            refine st_call g5_17_3 rfl (wanted_free rfl) Y ((hlg).mono ?_); clear Y
            rintro e9 w306 ⟨rfl, kk⟩
            replace K1 := keep_onto K1 kk
            replace K2 := keep_onto K2 kk
            replace K3 := keep_onto K3 kk
            replace KV := keep_onto KV kk
            replace KD := keep_onto KD kk
            replace B1 := blk_on B1 kk
            replace B5 := blk_on B5 kk
            replace B29 := blk_on B29 kk
            replace B49 := blk_on B49 kk
            replace B294 := blk_on B294 kk
            clear kk
            clear hlg
            refine ⟨_, rfl, fun a307 e => ?_⟩
            have g81 := R.at_ e (by decide); replace R := R.put e; replace h3 := so e h3; replace h4 := so e h4; replace h6 := so e h6; replace h7 := so e h7; replace h11 := so e h11; replace h15 := so e h15; replace h63 := so e h63; replace h64 := so e h64; replace h65 := so e h65; replace h66 := so e h66; replace h72 := so e h72; replace h73 := so e h73; replace h74 := so e h74; replace h75 := so e h75; replace h76 := so e h76; replace h77 := so e h77; replace h78 := so e h78; replace h79 := so e h79; replace h80 := so e h80; have h81 := g81; clear g81; clear e
            cases bm305 with
            | false =>
              have Y : (execOp a307.eval o5_17_4).run Try.prog w306 = .ok (.value (.bool true)) w306 := by unfold o5_17_4; go_simp
              refine st_val g5_17_4 rfl (wanted_free rfl) Y fun a309 e => ?_; clear Y
              have g82 := R.at_ e (by decide); replace R := R.put e; replace h3 := so e h3; replace h4 := so e h4; replace h6 := so e h6; replace h7 := so e h7; replace h11 := so e h11; replace h15 := so e h15; replace h63 := so e h63; replace h64 := so e h64; replace h65 := so e h65; replace h66 := so e h66; replace h72 := so e h72; replace h73 := so e h73; replace h74 := so e h74; replace h75 := so e h75; replace h76 := so e h76; replace h77 := so e h77; replace h78 := so e h78; replace h79 := so e h79; replace h80 := so e h80; replace h81 := so e h81; have h82 := g82; clear g82; clear e
              refine st_end ?_
              change (c5_65).wp _ _ _ _
              refine wp_cond_true (x := c5_66) (y := Code.skip) (eval_slot h82) ?_
              refine wp_exit ?_
              change (c5_90).wp _ _ _ _
              change (Code.region 24 O5_24 false).wp _ _ _ _
              refine reg_in (l := [0, 1]) rfl ?_
              have Y : (execOp a309.eval o5_24_0).run Try.prog w306 = .ok (.value (.int .i64 ((j : Int) + 1))) w306 := by unfold o5_24_0; go_simp
              refine st_val g5_24_0 rfl (wanted_free rfl) Y fun a311 e => ?_; clear Y
              have g95 := R.at_ e (by decide); replace R := R.put e; replace h3 := so e h3; replace h4 := so e h4; replace h6 := so e h6; replace h7 := so e h7; replace h11 := so e h11; replace h15 := so e h15; replace h63 := so e h63; replace h64 := so e h64; replace h65 := so e h65; replace h66 := so e h66; replace h72 := so e h72; replace h73 := so e h73; replace h74 := so e h74; replace h75 := so e h75; replace h76 := so e h76; replace h77 := so e h77; replace h78 := so e h78; replace h79 := so e h79; replace h80 := so e h80; replace h81 := so e h81; replace h82 := so e h82; have h95 := g95; clear g95; clear e
              have Y : (execOp a311.eval o5_24_1).run Try.prog w306 = .ok (.value (.int .i64 ((j : Int) + 1))) w306 := by unfold o5_24_1; go_simp
              refine st_val g5_24_1 rfl (wanted_free rfl) Y fun a313 e => ?_; clear Y
              have g74 := R.at_ e (by decide); replace R := R.put e; replace h3 := so e h3; replace h4 := so e h4; replace h6 := so e h6; replace h7 := so e h7; replace h11 := so e h11; replace h15 := so e h15; replace h63 := so e h63; replace h64 := so e h64; replace h65 := so e h65; replace h66 := so e h66; replace h72 := so e h72; replace h73 := so e h73; replace h75 := so e h75; replace h76 := so e h76; replace h77 := so e h77; replace h78 := so e h78; replace h79 := so e h79; replace h80 := so e h80; replace h81 := so e h81; replace h82 := so e h82; replace h95 := so e h95; clear h74; have h74 := g74; clear g74; clear e
              refine st_end ?_
              exact ⟨_, by omega, j + 1, rfl, R, h3, h4, h6, h7, h11, h63, h64, h65, h66, h72, h73, h74, K1, K2, K3, KV, KD, B1, B5, B29, B49, (by omega)⟩
            | true =>
              have Y : (execOp a307.eval o5_17_4).run Try.prog w306 = .ok (.value (.bool false)) w306 := by unfold o5_17_4; go_simp
              refine st_val g5_17_4 rfl (wanted_free rfl) Y fun a315 e => ?_; clear Y
              have g82 := R.at_ e (by decide); replace R := R.put e; replace h3 := so e h3; replace h4 := so e h4; replace h6 := so e h6; replace h7 := so e h7; replace h11 := so e h11; replace h15 := so e h15; replace h63 := so e h63; replace h64 := so e h64; replace h65 := so e h65; replace h66 := so e h66; replace h72 := so e h72; replace h73 := so e h73; replace h74 := so e h74; replace h75 := so e h75; replace h76 := so e h76; replace h77 := so e h77; replace h78 := so e h78; replace h79 := so e h79; replace h80 := so e h80; replace h81 := so e h81; have h82 := g82; clear g82; clear e
              refine st_end ?_
              change (c5_65).wp _ _ _ _
              refine wp_cond_false (x := c5_66) (y := Code.skip) (eval_slot h82) ?_
              refine wp_skip ?_
              change (c5_68).wp _ _ _ _
              refine wp_seq (x := c5_69) (y := c5_70) ?_
              change (Code.region 18 O5_18 false).wp _ _ _ _
              refine reg_in (l := [0, 1, 2, 3, 4]) rfl ?_
              have Y : (execOp a315.eval o5_18_0).run Try.prog w306 = .ok (.value (.pointer (some ⟨b294, 1, none⟩))) w306 := by unfold o5_18_0; go_simp
              refine st_val g5_18_0 rfl (wanted_free rfl) Y fun a317 e => ?_; clear Y
              have g83 := R.at_ e (by decide); replace R := R.put e; replace h3 := so e h3; replace h4 := so e h4; replace h6 := so e h6; replace h7 := so e h7; replace h11 := so e h11; replace h15 := so e h15; replace h63 := so e h63; replace h64 := so e h64; replace h65 := so e h65; replace h66 := so e h66; replace h72 := so e h72; replace h73 := so e h73; replace h74 := so e h74; replace h75 := so e h75; replace h76 := so e h76; replace h77 := so e h77; replace h78 := so e h78; replace h79 := so e h79; replace h80 := so e h80; replace h81 := so e h81; replace h82 := so e h82; have h83 := g83; clear g83; clear e
              have Y : (execOp a317.eval o5_18_1).run Try.prog w306 = .ok (.value (.agg #[.int .i64 p.2.1.k, .string (str p.2.1.nm), .int .i64 p.2.1.i, .slice p.2.2.1 p.2.1.args.length p.2.2.2])) w306 := by have qq0 : w306.cell? ⟨b294, 0, none⟩ = some (.int .i64 p.1) := B294.cell 0; have qq1 : w306.cell? ⟨b294, 1, none⟩ = some (.int .i64 p.2.1.k) := B294.cell 1; have qq2 : w306.cell? ⟨b294, 2, none⟩ = some (.string (str p.2.1.nm)) := B294.cell 2; have qq3 : w306.cell? ⟨b294, 3, none⟩ = some (.int .i64 p.2.1.i) := B294.cell 3; have qq4 : w306.cell? ⟨b294, 4, none⟩ = some (.slice p.2.2.1 p.2.1.args.length p.2.2.2) := B294.cell 4; unfold o5_18_1; go_simp
              refine st_val g5_18_1 rfl (wanted_free rfl) Y fun a319 e => ?_; clear Y
              have g84 := R.at_ e (by decide); replace R := R.put e; replace h3 := so e h3; replace h4 := so e h4; replace h6 := so e h6; replace h7 := so e h7; replace h11 := so e h11; replace h15 := so e h15; replace h63 := so e h63; replace h64 := so e h64; replace h65 := so e h65; replace h66 := so e h66; replace h72 := so e h72; replace h73 := so e h73; replace h74 := so e h74; replace h75 := so e h75; replace h76 := so e h76; replace h77 := so e h77; replace h78 := so e h78; replace h79 := so e h79; replace h80 := so e h80; replace h81 := so e h81; replace h82 := so e h82; replace h83 := so e h83; have h84 := g84; clear g84; clear e
              have Y : (execOp a319.eval o5_18_2).run Try.prog w306 = .ok (.enter 18 #[.agg #[.int .i64 p.2.1.k, .string (str p.2.1.nm), .int .i64 p.2.1.i, .slice p.2.2.1 p.2.1.args.length p.2.2.2]]) w306 := by unfold o5_18_2; go_simp
              refine st_call g5_18_2 rfl (wanted_free rfl) Y ((vars_row (bsl_at (bsl_on HS.out K1) hsA hp).2.2 (l := vaV p.2.1) rfl).mono ?_); clear Y
              rintro e9 w321 ⟨va4, vc4, rfl, hr, kk⟩
              replace K1 := keep_onto K1 kk
              replace K2 := keep_onto K2 kk
              replace K3 := keep_onto K3 kk
              replace KV := keep_onto KV kk
              replace KD := keep_onto KD kk
              replace B1 := blk_on B1 kk
              replace B5 := blk_on B5 kk
              replace B29 := blk_on B29 kk
              replace B49 := blk_on B49 kk
              replace B294 := blk_on B294 kk
              clear kk
              have HL4 := Lib.hid hr.2.1; clear hr
              have K4 := Keep.refl (fun g => g < w321.heap.size) w321
              refine ⟨_, rfl, fun a322 e => ?_⟩
              have g85 := R.at_ e (by decide); replace R := R.put e; replace h3 := so e h3; replace h4 := so e h4; replace h6 := so e h6; replace h7 := so e h7; replace h11 := so e h11; replace h15 := so e h15; replace h63 := so e h63; replace h64 := so e h64; replace h65 := so e h65; replace h66 := so e h66; replace h72 := so e h72; replace h73 := so e h73; replace h74 := so e h74; replace h75 := so e h75; replace h76 := so e h76; replace h77 := so e h77; replace h78 := so e h78; replace h79 := so e h79; replace h80 := so e h80; replace h81 := so e h81; replace h82 := so e h82; replace h83 := so e h83; replace h84 := so e h84; have h85 := g85; clear g85; clear e
              have Y : (execOp a322.eval o5_18_3).run Try.prog w321 = .ok (.value (.int .i64 ((vaV p.2.1).length))) w321 := by unfold o5_18_3; go_simp
              refine st_val g5_18_3 rfl (wanted_free rfl) Y fun a324 e => ?_; clear Y
              have g86 := R.at_ e (by decide); replace R := R.put e; replace h3 := so e h3; replace h4 := so e h4; replace h6 := so e h6; replace h7 := so e h7; replace h11 := so e h11; replace h15 := so e h15; replace h63 := so e h63; replace h64 := so e h64; replace h65 := so e h65; replace h66 := so e h66; replace h72 := so e h72; replace h73 := so e h73; replace h74 := so e h74; replace h75 := so e h75; replace h76 := so e h76; replace h77 := so e h77; replace h78 := so e h78; replace h79 := so e h79; replace h80 := so e h80; replace h81 := so e h81; replace h82 := so e h82; replace h83 := so e h83; replace h84 := so e h84; replace h85 := so e h85; have h86 := g86; clear g86; clear e
              have Y : (execOp a324.eval o5_18_4).run Try.prog w321 = .ok (.value (.int .i64 0)) w321 := by unfold o5_18_4; go_simp
              refine st_val g5_18_4 rfl (wanted_free rfl) Y fun a326 e => ?_; clear Y
              have g87 := R.at_ e (by decide); replace R := R.put e; replace h3 := so e h3; replace h4 := so e h4; replace h6 := so e h6; replace h7 := so e h7; replace h11 := so e h11; replace h15 := so e h15; replace h63 := so e h63; replace h64 := so e h64; replace h65 := so e h65; replace h66 := so e h66; replace h72 := so e h72; replace h73 := so e h73; replace h74 := so e h74; replace h75 := so e h75; replace h76 := so e h76; replace h77 := so e h77; replace h78 := so e h78; replace h79 := so e h79; replace h80 := so e h80; replace h81 := so e h81; replace h82 := so e h82; replace h83 := so e h83; replace h84 := so e h84; replace h85 := so e h85; replace h86 := so e h86; have h87 := g87; clear g87; clear e
              refine st_end ?_
              change (c5_70).wp _ _ _ _
              refine wp_block (id := 4) (c := c5_71) ?_
              clear B294
              refine wp_loop_ghost (c := c5_72) (fun n f9 w9 => ∃ m : Nat, n = (vaV p.2.1).length - m ∧ FrS 141 f9 ∧ f9.tmps[3]? = some (.pointer (some ⟨b1, 0, none⟩)) ∧ f9.tmps[4]? = some (.pointer (some ⟨b5, 0, none⟩)) ∧ f9.tmps[6]? = some (.bool false) ∧ f9.tmps[7]? = some (.pointer (some ⟨b29, 0, none⟩)) ∧ f9.tmps[11]? = some (.slice ra l2.length rc) ∧ f9.tmps[15]? = some (.pointer (some ⟨b294, 0, none⟩)) ∧ f9.tmps[63]? = some (.slice rb l3.length rd) ∧ f9.tmps[64]? = some (.int .i64 l3.length) ∧ f9.tmps[65]? = some (.int .i64 (i : Int)) ∧ f9.tmps[66]? = some (.bool false) ∧ f9.tmps[72]? = some (.slice sa sm.length sc) ∧ f9.tmps[73]? = some (.int .i64 sm.length) ∧ f9.tmps[74]? = some (.int .i64 (j : Int)) ∧ f9.tmps[75]? = some (.bool true) ∧ f9.tmps[76]? = some (.pointer (some ⟨bA, oA2 + j * 5, none⟩)) ∧ f9.tmps[77]? = some (.agg #[.int .i64 p.1, .int .i64 p.2.1.k, .string (str p.2.1.nm), .int .i64 p.2.1.i, .slice p.2.2.1 p.2.1.args.length p.2.2.2]) ∧ f9.tmps[78]? = some (.slice ra l2.length rc) ∧ f9.tmps[79]? = some (.pointer (some ⟨b294, 0, none⟩)) ∧ f9.tmps[80]? = some (.int .i64 p.1) ∧ f9.tmps[81]? = some (.bool true) ∧ f9.tmps[82]? = some (.bool false) ∧ f9.tmps[83]? = some (.pointer (some ⟨b294, 1, none⟩)) ∧ f9.tmps[84]? = some (.agg #[.int .i64 p.2.1.k, .string (str p.2.1.nm), .int .i64 p.2.1.i, .slice p.2.2.1 p.2.1.args.length p.2.2.2]) ∧ f9.tmps[85]? = some (.slice va4 ((vaV p.2.1).length) vc4) ∧ f9.tmps[86]? = some (.int .i64 ((vaV p.2.1).length)) ∧ f9.tmps[87]? = some (.int .i64 (m : Int)) ∧ Keep (fun g => g < W.heap.size) W w9 ∧ Keep (fun g => g < w20.heap.size) w20 w9 ∧ Keep (fun g => g < w40.heap.size) w40 w9 ∧ Keep (fun g => g < w8.heap.size) w8 w9 ∧ Keep (fun g => g < w99.heap.size) w99 w9 ∧ Keep (fun g => g < w321.heap.size) w321 w9 ∧ Blk w9 b1 24 #[.int .i64 t.k, .string (str t.nm), .int .i64 t.i, .slice ta t.args.length tc] ∧ Blk w9 b5 24 #[.int .i64 u.k, .string (str u.nm), .int .i64 u.i, .slice ua u.args.length uc] ∧ Blk w9 b29 24 #[.int .i64 xr.k, .string (str xr.nm), .int .i64 xr.i, .slice ax xr.args.length cx] ∧ Blk w9 b49 24 #[.int .i64 yr.k, .string (str yr.nm), .int .i64 yr.i, .slice ay yr.args.length cy] ∧ m ≤ (vaV p.2.1).length) ((vaV p.2.1).length - 0) ⟨0, rfl, R, h3, h4, h6, h7, h11, h15, h63, h64, h65, h66, h72, h73, h74, h75, h76, h77, h78, h79, h80, h81, h82, h83, h84, h85, h86, h87, K1, K2, K3, KV, KD, K4, B1, B5, B29, B49, Nat.zero_le _⟩ ?_
              clear R h3 h4 h6 h7 h11 h15 h63 h64 h65 h66 h72 h73 h74 h75 h76 h77 h78 h79 h80 h81 h82 h83 h84 h85 h86 h87 K1 K2 K3 KV KD K4 B1 B5 B29 B49
              rintro n330 a328 w329 ⟨m, rfl, R, h3, h4, h6, h7, h11, h15, h63, h64, h65, h66, h72, h73, h74, h75, h76, h77, h78, h79, h80, h81, h82, h83, h84, h85, h86, h87, K1, K2, K3, KV, KD, K4, B1, B5, B29, B49, hm⟩
              have hbm := HVL.out.2.2 p.2.1
              have hwm : IntKind.i64.wrap ((m : Int) + 1) = (m : Int) + 1 := by rw [IntKind.wrap_i64]; omega
              refine wp_seq (x := c5_73) (y := c5_74) ?_
              change (Code.region 19 O5_19 false).wp _ _ _ _
              refine reg_in (l := [0]) rfl ?_
              obtain ⟨b331, hb331⟩ : ∃ x, (decide ((m : Int) < ((vaV p.2.1).length : Int))) = x := ⟨_, rfl⟩
              have Y : (execOp a328.eval o5_19_0).run Try.prog w329 = .ok (.value (.bool b331)) w329 := by rw [← hb331]; unfold o5_19_0; go_simp
              refine st_val g5_19_0 rfl (wanted_free rfl) Y fun a332 e => ?_; clear Y
              have g88 := R.at_ e (by decide); replace R := R.put e; replace h3 := so e h3; replace h4 := so e h4; replace h6 := so e h6; replace h7 := so e h7; replace h11 := so e h11; replace h15 := so e h15; replace h63 := so e h63; replace h64 := so e h64; replace h65 := so e h65; replace h66 := so e h66; replace h72 := so e h72; replace h73 := so e h73; replace h74 := so e h74; replace h75 := so e h75; replace h76 := so e h76; replace h77 := so e h77; replace h78 := so e h78; replace h79 := so e h79; replace h80 := so e h80; replace h81 := so e h81; replace h82 := so e h82; replace h83 := so e h83; replace h84 := so e h84; replace h85 := so e h85; replace h86 := so e h86; replace h87 := so e h87; have h88 := g88; clear g88; clear e
              refine st_end ?_
              change (c5_74).wp _ _ _ _
              refine wp_seq (x := c5_75) (y := c5_78) ?_
              cases b331 with
              | false =>
                have fb331 := hb331; clear hb331
                simp only [decide_eq_true_eq, decide_eq_false_iff_not, bne_iff_ne, bne_eq_false_iff_eq, beq_iff_eq, beq_eq_false_iff_ne, ne_eq, Bool.not_eq_true', Bool.not_eq_false', Bool.not_eq_eq_eq_not, Bool.not_true, Bool.not_false] at fb331
                refine wp_cond_false (x := Code.skip) (y := c5_77) (eval_slot h88) ?_
                refine wp_exit ?_
                change (c5_90).wp _ _ _ _
                change (Code.region 24 O5_24 false).wp _ _ _ _
                refine reg_in (l := [0, 1]) rfl ?_
                have Y : (execOp a332.eval o5_24_0).run Try.prog w329 = .ok (.value (.int .i64 ((j : Int) + 1))) w329 := by unfold o5_24_0; go_simp
                refine st_val g5_24_0 rfl (wanted_free rfl) Y fun a334 e => ?_; clear Y
                have g95 := R.at_ e (by decide); replace R := R.put e; replace h3 := so e h3; replace h4 := so e h4; replace h6 := so e h6; replace h7 := so e h7; replace h11 := so e h11; replace h15 := so e h15; replace h63 := so e h63; replace h64 := so e h64; replace h65 := so e h65; replace h66 := so e h66; replace h72 := so e h72; replace h73 := so e h73; replace h74 := so e h74; replace h75 := so e h75; replace h76 := so e h76; replace h77 := so e h77; replace h78 := so e h78; replace h79 := so e h79; replace h80 := so e h80; replace h81 := so e h81; replace h82 := so e h82; replace h83 := so e h83; replace h84 := so e h84; replace h85 := so e h85; replace h86 := so e h86; replace h87 := so e h87; replace h88 := so e h88; have h95 := g95; clear g95; clear e
                have Y : (execOp a334.eval o5_24_1).run Try.prog w329 = .ok (.value (.int .i64 ((j : Int) + 1))) w329 := by unfold o5_24_1; go_simp
                refine st_val g5_24_1 rfl (wanted_free rfl) Y fun a336 e => ?_; clear Y
                have g74 := R.at_ e (by decide); replace R := R.put e; replace h3 := so e h3; replace h4 := so e h4; replace h6 := so e h6; replace h7 := so e h7; replace h11 := so e h11; replace h15 := so e h15; replace h63 := so e h63; replace h64 := so e h64; replace h65 := so e h65; replace h66 := so e h66; replace h72 := so e h72; replace h73 := so e h73; replace h75 := so e h75; replace h76 := so e h76; replace h77 := so e h77; replace h78 := so e h78; replace h79 := so e h79; replace h80 := so e h80; replace h81 := so e h81; replace h82 := so e h82; replace h83 := so e h83; replace h84 := so e h84; replace h85 := so e h85; replace h86 := so e h86; replace h87 := so e h87; replace h88 := so e h88; replace h95 := so e h95; clear h74; have h74 := g74; clear g74; clear e
                refine st_end ?_
                exact ⟨_, by omega, j + 1, rfl, R, h3, h4, h6, h7, h11, h63, h64, h65, h66, h72, h73, h74, K1, K2, K3, KV, KD, B1, B5, B29, B49, (by omega)⟩
              | true =>
                have fb331 := hb331; clear hb331
                simp only [decide_eq_true_eq, decide_eq_false_iff_not, bne_iff_ne, bne_eq_false_iff_eq, beq_iff_eq, beq_eq_false_iff_ne, ne_eq, Bool.not_eq_true', Bool.not_eq_false', Bool.not_eq_eq_eq_not, Bool.not_true, Bool.not_false] at fb331
                refine wp_cond_true (x := Code.skip) (y := c5_77) (eval_slot h88) ?_
                refine wp_skip ?_
                change (c5_78).wp _ _ _ _
                refine wp_seq (x := c5_79) (y := c5_89) ?_
                refine wp_block (id := 5) (c := c5_80) ?_
                refine wp_seq (x := c5_81) (y := c5_82) ?_
                change (Code.region 20 O5_20 false).wp _ _ _ _
                refine reg_in (l := [0, 1, 2]) rfl ?_
                obtain ⟨gB, oB, hgB, -⟩ := HL4.out m (show m < (vaV p.2.1).length by omega)
                have hlB : (m : Int) < ((vaV p.2.1).length : Int) := by omega
                have Y : (execOp a332.eval o5_20_0).run Try.prog w329 = .ok (.value (.pointer (some ⟨gB, oB + m, none⟩))) w329 := by unfold o5_20_0; go_simp
                refine st_val g5_20_0 rfl (wanted_free rfl) Y fun a338 e => ?_; clear Y
                have g89 := R.at_ e (by decide); replace R := R.put e; replace h3 := so e h3; replace h4 := so e h4; replace h6 := so e h6; replace h7 := so e h7; replace h11 := so e h11; replace h15 := so e h15; replace h63 := so e h63; replace h64 := so e h64; replace h65 := so e h65; replace h66 := so e h66; replace h72 := so e h72; replace h73 := so e h73; replace h74 := so e h74; replace h75 := so e h75; replace h76 := so e h76; replace h77 := so e h77; replace h78 := so e h78; replace h79 := so e h79; replace h80 := so e h80; replace h81 := so e h81; replace h82 := so e h82; replace h83 := so e h83; replace h84 := so e h84; replace h85 := so e h85; replace h86 := so e h86; replace h87 := so e h87; replace h88 := so e h88; have h89 := g89; clear g89; clear e
                obtain ⟨z4, hz4⟩ : ∃ q, (vaV p.2.1).getD m 0 = q := ⟨_, rfl⟩
                have Y : (execOp a338.eval o5_20_1).run Try.prog w329 = .ok (.value (.int .i64 z4)) w329 := by obtain ⟨g9, o9, hg9, hl9, hc9⟩ := longs_on (HL4.out) K4 m (show m < (vaV p.2.1).length by omega); rw [hz4] at hc9; rw [hgB] at hg9; cases hg9; clear hz4; unfold o5_20_1; go_simp
                refine st_val g5_20_1 rfl (wanted_free rfl) Y fun a340 e => ?_; clear Y
                have g90 := R.at_ e (by decide); replace R := R.put e; replace h3 := so e h3; replace h4 := so e h4; replace h6 := so e h6; replace h7 := so e h7; replace h11 := so e h11; replace h15 := so e h15; replace h63 := so e h63; replace h64 := so e h64; replace h65 := so e h65; replace h66 := so e h66; replace h72 := so e h72; replace h73 := so e h73; replace h74 := so e h74; replace h75 := so e h75; replace h76 := so e h76; replace h77 := so e h77; replace h78 := so e h78; replace h79 := so e h79; replace h80 := so e h80; replace h81 := so e h81; replace h82 := so e h82; replace h83 := so e h83; replace h84 := so e h84; replace h85 := so e h85; replace h86 := so e h86; replace h87 := so e h87; replace h88 := so e h88; replace h89 := so e h89; have h90 := g90; clear g90; clear e
                have Y : (execOp a340.eval o5_20_2).run Try.prog w329 = .ok (.value (.int .i64 z4)) w329 := by unfold o5_20_2; go_simp
                refine st_val g5_20_2 rfl (wanted_free rfl) Y fun a342 e => ?_; clear Y
                have g17 := R.at_ e (by decide); replace R := R.put e; replace h3 := so e h3; replace h4 := so e h4; replace h6 := so e h6; replace h7 := so e h7; replace h11 := so e h11; replace h15 := so e h15; replace h63 := so e h63; replace h64 := so e h64; replace h65 := so e h65; replace h66 := so e h66; replace h72 := so e h72; replace h73 := so e h73; replace h74 := so e h74; replace h75 := so e h75; replace h76 := so e h76; replace h77 := so e h77; replace h78 := so e h78; replace h79 := so e h79; replace h80 := so e h80; replace h81 := so e h81; replace h82 := so e h82; replace h83 := so e h83; replace h84 := so e h84; replace h85 := so e h85; replace h86 := so e h86; replace h87 := so e h87; replace h88 := so e h88; replace h89 := so e h89; replace h90 := so e h90; have h17 := g17; clear g17; clear e
                refine st_end ?_
                change (c5_82).wp _ _ _ _
                refine wp_seq (x := c5_83) (y := c5_84) ?_
                change (Code.region 21 O5_21 false).wp _ _ _ _
                refine reg_in (l := [0, 1, 2]) rfl ?_
                have Y : (execOp a342.eval o5_21_0).run Try.prog w329 = .ok (.value (.slice ra l2.length rc)) w329 := by unfold o5_21_0; go_simp
                refine st_val g5_21_0 rfl (wanted_free rfl) Y fun a344 e => ?_; clear Y
                have g91 := R.at_ e (by decide); replace R := R.put e; replace h3 := so e h3; replace h4 := so e h4; replace h6 := so e h6; replace h7 := so e h7; replace h11 := so e h11; replace h15 := so e h15; replace h17 := so e h17; replace h63 := so e h63; replace h64 := so e h64; replace h65 := so e h65; replace h66 := so e h66; replace h72 := so e h72; replace h73 := so e h73; replace h74 := so e h74; replace h75 := so e h75; replace h76 := so e h76; replace h77 := so e h77; replace h78 := so e h78; replace h79 := so e h79; replace h80 := so e h80; replace h81 := so e h81; replace h82 := so e h82; replace h83 := so e h83; replace h84 := so e h84; replace h85 := so e h85; replace h86 := so e h86; replace h87 := so e h87; replace h88 := so e h88; replace h89 := so e h89; replace h90 := so e h90; have h91 := g91; clear g91; clear e
                have Y : (execOp a344.eval o5_21_1).run Try.prog w329 = .ok (.value (.int .i64 z4)) w329 := by unfold o5_21_1; go_simp
                refine st_val g5_21_1 rfl (wanted_free rfl) Y fun a346 e => ?_; clear Y
                have g92 := R.at_ e (by decide); replace R := R.put e; replace h3 := so e h3; replace h4 := so e h4; replace h6 := so e h6; replace h7 := so e h7; replace h11 := so e h11; replace h15 := so e h15; replace h17 := so e h17; replace h63 := so e h63; replace h64 := so e h64; replace h65 := so e h65; replace h66 := so e h66; replace h72 := so e h72; replace h73 := so e h73; replace h74 := so e h74; replace h75 := so e h75; replace h76 := so e h76; replace h77 := so e h77; replace h78 := so e h78; replace h79 := so e h79; replace h80 := so e h80; replace h81 := so e h81; replace h82 := so e h82; replace h83 := so e h83; replace h84 := so e h84; replace h85 := so e h85; replace h86 := so e h86; replace h87 := so e h87; replace h88 := so e h88; replace h89 := so e h89; replace h90 := so e h90; replace h91 := so e h91; have h92 := g92; clear g92; clear e
                have Y : (execOp a346.eval o5_21_2).run Try.prog w329 = .ok (.enter 31 #[.slice ra l2.length rc, .int .i64 z4]) w329 := by unfold o5_21_2; go_simp
                obtain ⟨bm348, hbm⟩ : ∃ y, among l2 z4 = y := ⟨_, rfl⟩
                have hlg := haslong_l (uc := rc) (z := z4) (longs_on HVS.out.1 KV) (Nat.le_trans HML2.out (by decide))
                rw [hbm] at hlg; clear hbm
                refine st_call g5_21_2 rfl (wanted_free rfl) Y ((hlg).mono ?_); clear Y
                rintro e9 w349 ⟨rfl, kk⟩
                replace K1 := keep_onto K1 kk
                replace K2 := keep_onto K2 kk
                replace K3 := keep_onto K3 kk
                replace KV := keep_onto KV kk
                replace KD := keep_onto KD kk
                replace K4 := keep_onto K4 kk
                replace B1 := blk_on B1 kk
                replace B5 := blk_on B5 kk
                replace B29 := blk_on B29 kk
                replace B49 := blk_on B49 kk
                clear kk
                clear hlg
                refine ⟨_, rfl, fun a350 e => ?_⟩
                have g93 := R.at_ e (by decide); replace R := R.put e; replace h3 := so e h3; replace h4 := so e h4; replace h6 := so e h6; replace h7 := so e h7; replace h11 := so e h11; replace h15 := so e h15; replace h17 := so e h17; replace h63 := so e h63; replace h64 := so e h64; replace h65 := so e h65; replace h66 := so e h66; replace h72 := so e h72; replace h73 := so e h73; replace h74 := so e h74; replace h75 := so e h75; replace h76 := so e h76; replace h77 := so e h77; replace h78 := so e h78; replace h79 := so e h79; replace h80 := so e h80; replace h81 := so e h81; replace h82 := so e h82; replace h83 := so e h83; replace h84 := so e h84; replace h85 := so e h85; replace h86 := so e h86; replace h87 := so e h87; replace h88 := so e h88; replace h89 := so e h89; replace h90 := so e h90; replace h91 := so e h91; replace h92 := so e h92; have h93 := g93; clear g93; clear e
                refine st_end ?_
                change (c5_84).wp _ _ _ _
                cases bm348 with
                | false =>
                  refine wp_cond_false (x := c5_85) (y := Code.skip) (eval_slot h93) ?_
                  refine wp_skip ?_
                  change (c5_89).wp _ _ _ _
                  change (Code.region 23 O5_23 false).wp _ _ _ _
                  refine reg_in (l := [0, 1]) rfl ?_
                  have Y : (execOp a350.eval o5_23_0).run Try.prog w349 = .ok (.value (.int .i64 ((m : Int) + 1))) w349 := by unfold o5_23_0; go_simp
                  refine st_val g5_23_0 rfl (wanted_free rfl) Y fun a352 e => ?_; clear Y
                  have g94 := R.at_ e (by decide); replace R := R.put e; replace h3 := so e h3; replace h4 := so e h4; replace h6 := so e h6; replace h7 := so e h7; replace h11 := so e h11; replace h15 := so e h15; replace h17 := so e h17; replace h63 := so e h63; replace h64 := so e h64; replace h65 := so e h65; replace h66 := so e h66; replace h72 := so e h72; replace h73 := so e h73; replace h74 := so e h74; replace h75 := so e h75; replace h76 := so e h76; replace h77 := so e h77; replace h78 := so e h78; replace h79 := so e h79; replace h80 := so e h80; replace h81 := so e h81; replace h82 := so e h82; replace h83 := so e h83; replace h84 := so e h84; replace h85 := so e h85; replace h86 := so e h86; replace h87 := so e h87; replace h88 := so e h88; replace h89 := so e h89; replace h90 := so e h90; replace h91 := so e h91; replace h92 := so e h92; replace h93 := so e h93; have h94 := g94; clear g94; clear e
                  have Y : (execOp a352.eval o5_23_1).run Try.prog w349 = .ok (.value (.int .i64 ((m : Int) + 1))) w349 := by unfold o5_23_1; go_simp
                  refine st_val g5_23_1 rfl (wanted_free rfl) Y fun a354 e => ?_; clear Y
                  have g87 := R.at_ e (by decide); replace R := R.put e; replace h3 := so e h3; replace h4 := so e h4; replace h6 := so e h6; replace h7 := so e h7; replace h11 := so e h11; replace h15 := so e h15; replace h17 := so e h17; replace h63 := so e h63; replace h64 := so e h64; replace h65 := so e h65; replace h66 := so e h66; replace h72 := so e h72; replace h73 := so e h73; replace h74 := so e h74; replace h75 := so e h75; replace h76 := so e h76; replace h77 := so e h77; replace h78 := so e h78; replace h79 := so e h79; replace h80 := so e h80; replace h81 := so e h81; replace h82 := so e h82; replace h83 := so e h83; replace h84 := so e h84; replace h85 := so e h85; replace h86 := so e h86; replace h88 := so e h88; replace h89 := so e h89; replace h90 := so e h90; replace h91 := so e h91; replace h92 := so e h92; replace h93 := so e h93; replace h94 := so e h94; clear h87; have h87 := g87; clear g87; clear e
                  refine st_end ?_
                  exact ⟨_, by omega, m + 1, rfl, R, h3, h4, h6, h7, h11, h15, h63, h64, h65, h66, h72, h73, h74, h75, h76, h77, h78, h79, h80, h81, h82, h83, h84, h85, h86, h87, K1, K2, K3, KV, KD, K4, B1, B5, B29, B49, (by omega)⟩
                | true =>
                  refine wp_cond_true (x := c5_85) (y := Code.skip) (eval_slot h93) ?_
                  refine wp_seq (x := c5_86) (y := Code.ret) ?_
                  change (Code.region 22 O5_22 false).wp _ _ _ _
                  refine reg_in (l := [0]) rfl ?_
                  have Y : (execOp a350.eval o5_22_0).run Try.prog w349 = .ok (.value (.bool true)) w349 := by unfold o5_22_0; go_simp
                  refine st_val g5_22_0 rfl (wanted_free rfl) Y fun a356 e => ?_; clear Y
                  have g6 := R.at_ e (by decide); replace R := R.put e; replace h3 := so e h3; replace h4 := so e h4; replace h7 := so e h7; replace h11 := so e h11; replace h15 := so e h15; replace h17 := so e h17; replace h63 := so e h63; replace h64 := so e h64; replace h65 := so e h65; replace h66 := so e h66; replace h72 := so e h72; replace h73 := so e h73; replace h74 := so e h74; replace h75 := so e h75; replace h76 := so e h76; replace h77 := so e h77; replace h78 := so e h78; replace h79 := so e h79; replace h80 := so e h80; replace h81 := so e h81; replace h82 := so e h82; replace h83 := so e h83; replace h84 := so e h84; replace h85 := so e h85; replace h86 := so e h86; replace h87 := so e h87; replace h88 := so e h88; replace h89 := so e h89; replace h90 := so e h90; replace h91 := so e h91; replace h92 := so e h92; replace h93 := so e h93; clear h6; have h6 := g6; clear g6; clear e
                  refine st_end ?_
                  change (Code.ret).wp _ _ _ _
                  refine wp_ret ?_
                  change bodyPost Try.prog Try.f5 (fun e w' => e = .returned (.bool true) ∧ Keep (fun g => g < W.heap.size) W w') .ret a356 w349
                  refine ret_one rfl R h6 ?_
                  exact ⟨rfl, K1⟩
        | true =>
          have fb125 := hb125; clear hb125
          simp only [decide_eq_true_eq, decide_eq_false_iff_not, bne_iff_ne, bne_eq_false_iff_eq, beq_iff_eq, beq_eq_false_iff_ne, ne_eq, Bool.not_eq_true', Bool.not_eq_false', Bool.not_eq_eq_eq_not, Bool.not_true, Bool.not_false] at fb125
          refine wp_cond_true (x := Code.skip) (y := c5_34) (eval_slot h66) ?_
          refine wp_skip ?_
          change (c5_35).wp _ _ _ _
          refine wp_seq (x := c5_36) (y := c5_46) ?_
          refine wp_block (id := 1) (c := c5_37) ?_
          refine wp_seq (x := c5_38) (y := c5_39) ?_
          change (Code.region 10 O5_10 false).wp _ _ _ _
          refine reg_in (l := [0, 1, 2]) rfl ?_
          obtain ⟨gA, oA, hgA, -⟩ := HV3.out.1 i (show i < l3.length by omega)
          have hlA : (i : Int) < (l3.length : Int) := by omega
          have Y : (execOp a126.eval o5_10_0).run Try.prog w123 = .ok (.value (.pointer (some ⟨gA, oA + i, none⟩))) w123 := by unfold o5_10_0; go_simp
          refine st_val g5_10_0 rfl (wanted_free rfl) Y fun a358 e => ?_; clear Y
          have g67 := R.at_ e (by decide); replace R := R.put e; replace h2 := so e h2; replace h3 := so e h3; replace h4 := so e h4; replace h6 := so e h6; replace h7 := so e h7; replace h11 := so e h11; replace h63 := so e h63; replace h64 := so e h64; replace h65 := so e h65; replace h66 := so e h66; have h67 := g67; clear g67; clear e
          obtain ⟨z, hz⟩ : ∃ q, l3.getD i 0 = q := ⟨_, rfl⟩
          have Y : (execOp a358.eval o5_10_1).run Try.prog w123 = .ok (.value (.int .i64 z)) w123 := by obtain ⟨g9, o9, hg9, hl9, hc9⟩ := longs_on (HV3.out.1) KD i (show i < l3.length by omega); rw [hz] at hc9; rw [hgA] at hg9; cases hg9; clear hz; unfold o5_10_1; go_simp
          refine st_val g5_10_1 rfl (wanted_free rfl) Y fun a360 e => ?_; clear Y
          have g68 := R.at_ e (by decide); replace R := R.put e; replace h2 := so e h2; replace h3 := so e h3; replace h4 := so e h4; replace h6 := so e h6; replace h7 := so e h7; replace h11 := so e h11; replace h63 := so e h63; replace h64 := so e h64; replace h65 := so e h65; replace h66 := so e h66; replace h67 := so e h67; have h68 := g68; clear g68; clear e
          have Y : (execOp a360.eval o5_10_2).run Try.prog w123 = .ok (.value (.int .i64 z)) w123 := by unfold o5_10_2; go_simp
          refine st_val g5_10_2 rfl (wanted_free rfl) Y fun a362 e => ?_; clear Y
          have g13 := R.at_ e (by decide); replace R := R.put e; replace h2 := so e h2; replace h3 := so e h3; replace h4 := so e h4; replace h6 := so e h6; replace h7 := so e h7; replace h11 := so e h11; replace h63 := so e h63; replace h64 := so e h64; replace h65 := so e h65; replace h66 := so e h66; replace h67 := so e h67; replace h68 := so e h68; have h13 := g13; clear g13; clear e
          refine st_end ?_
          change (c5_39).wp _ _ _ _
          refine wp_seq (x := c5_40) (y := c5_41) ?_
          change (Code.region 11 O5_11 false).wp _ _ _ _
          refine reg_in (l := [0, 1]) rfl ?_
          have Y : (execOp a362.eval o5_11_0).run Try.prog w123 = .ok (.value (.int .i64 z)) w123 := by unfold o5_11_0; go_simp
          refine st_val g5_11_0 rfl (wanted_free rfl) Y fun a364 e => ?_; clear Y
          have g69 := R.at_ e (by decide); replace R := R.put e; replace h2 := so e h2; replace h3 := so e h3; replace h4 := so e h4; replace h6 := so e h6; replace h7 := so e h7; replace h11 := so e h11; replace h13 := so e h13; replace h63 := so e h63; replace h64 := so e h64; replace h65 := so e h65; replace h66 := so e h66; replace h67 := so e h67; replace h68 := so e h68; have h69 := g69; clear g69; clear e
          obtain ⟨b366, hb366⟩ : ∃ x, (decide ((1099511627776 : Int) ≤ (z : Int))) = x := ⟨_, rfl⟩
          have Y : (execOp a364.eval o5_11_1).run Try.prog w123 = .ok (.value (.bool b366)) w123 := by rw [← hb366]; unfold o5_11_1; go_simp
          refine st_val g5_11_1 rfl (wanted_free rfl) Y fun a367 e => ?_; clear Y
          have g70 := R.at_ e (by decide); replace R := R.put e; replace h2 := so e h2; replace h3 := so e h3; replace h4 := so e h4; replace h6 := so e h6; replace h7 := so e h7; replace h11 := so e h11; replace h13 := so e h13; replace h63 := so e h63; replace h64 := so e h64; replace h65 := so e h65; replace h66 := so e h66; replace h67 := so e h67; replace h68 := so e h68; replace h69 := so e h69; have h70 := g70; clear g70; clear e
          refine st_end ?_
          change (c5_41).wp _ _ _ _
          cases b366 with
          | false =>
            have fb366 := hb366; clear hb366
            simp only [decide_eq_true_eq, decide_eq_false_iff_not, bne_iff_ne, bne_eq_false_iff_eq, beq_iff_eq, beq_eq_false_iff_ne, ne_eq, Bool.not_eq_true', Bool.not_eq_false', Bool.not_eq_eq_eq_not, Bool.not_true, Bool.not_false] at fb366
            refine wp_cond_false (x := c5_42) (y := Code.skip) (eval_slot h70) ?_
            refine wp_skip ?_
            change (c5_46).wp _ _ _ _
            change (Code.region 13 O5_13 false).wp _ _ _ _
            refine reg_in (l := [0, 1]) rfl ?_
            have Y : (execOp a367.eval o5_13_0).run Try.prog w123 = .ok (.value (.int .i64 ((i : Int) + 1))) w123 := by unfold o5_13_0; go_simp
            refine st_val g5_13_0 rfl (wanted_free rfl) Y fun a369 e => ?_; clear Y
            have g71 := R.at_ e (by decide); replace R := R.put e; replace h2 := so e h2; replace h3 := so e h3; replace h4 := so e h4; replace h6 := so e h6; replace h7 := so e h7; replace h11 := so e h11; replace h13 := so e h13; replace h63 := so e h63; replace h64 := so e h64; replace h65 := so e h65; replace h66 := so e h66; replace h67 := so e h67; replace h68 := so e h68; replace h69 := so e h69; replace h70 := so e h70; have h71 := g71; clear g71; clear e
            have Y : (execOp a369.eval o5_13_1).run Try.prog w123 = .ok (.value (.int .i64 ((i : Int) + 1))) w123 := by unfold o5_13_1; go_simp
            refine st_val g5_13_1 rfl (wanted_free rfl) Y fun a371 e => ?_; clear Y
            have g65 := R.at_ e (by decide); replace R := R.put e; replace h2 := so e h2; replace h3 := so e h3; replace h4 := so e h4; replace h6 := so e h6; replace h7 := so e h7; replace h11 := so e h11; replace h13 := so e h13; replace h63 := so e h63; replace h64 := so e h64; replace h66 := so e h66; replace h67 := so e h67; replace h68 := so e h68; replace h69 := so e h69; replace h70 := so e h70; replace h71 := so e h71; clear h65; have h65 := g65; clear g65; clear e
            refine st_end ?_
            exact ⟨_, by omega, i + 1, rfl, R, h2, h3, h4, h6, h7, h11, h63, h64, h65, K1, K2, K3, KV, KD, B1, B5, B29, B49, (by omega), (Lib.hid fun k hk => by rcases Nat.lt_or_ge k i with h | h; exact HBN.out k h; (have h9 : k = i := by omega); rw [h9, hz]; omega)⟩
          | true =>
            have fb366 := hb366; clear hb366
            simp only [decide_eq_true_eq, decide_eq_false_iff_not, bne_iff_ne, bne_eq_false_iff_eq, beq_iff_eq, beq_eq_false_iff_ne, ne_eq, Bool.not_eq_true', Bool.not_eq_false', Bool.not_eq_eq_eq_not, Bool.not_true, Bool.not_false] at fb366
            refine wp_cond_true (x := c5_42) (y := Code.skip) (eval_slot h70) ?_
            refine wp_seq (x := c5_43) (y := Code.ret) ?_
            change (Code.region 12 O5_12 false).wp _ _ _ _
            refine reg_in (l := [0]) rfl ?_
            have Y : (execOp a367.eval o5_12_0).run Try.prog w123 = .ok (.value (.bool true)) w123 := by unfold o5_12_0; go_simp
            refine st_val g5_12_0 rfl (wanted_free rfl) Y fun a373 e => ?_; clear Y
            have g6 := R.at_ e (by decide); replace R := R.put e; replace h2 := so e h2; replace h3 := so e h3; replace h4 := so e h4; replace h7 := so e h7; replace h11 := so e h11; replace h13 := so e h13; replace h63 := so e h63; replace h64 := so e h64; replace h65 := so e h65; replace h66 := so e h66; replace h67 := so e h67; replace h68 := so e h68; replace h69 := so e h69; replace h70 := so e h70; clear h6; have h6 := g6; clear g6; clear e
            refine st_end ?_
            change (Code.ret).wp _ _ _ _
            refine wp_ret ?_
            change bodyPost Try.prog Try.f5 (fun e w' => e = .returned (.bool true) ∧ Keep (fun g => g < W.heap.size) W w') .ret a373 w123
            refine ret_one rfl R h6 ?_
            exact ⟨rfl, K1⟩
    | true =>
      have fb65 := hb65; clear hb65
      simp only [decide_eq_true_eq, decide_eq_false_iff_not, bne_iff_ne, bne_eq_false_iff_eq, beq_iff_eq, beq_eq_false_iff_ne, ne_eq, Bool.not_eq_true', Bool.not_eq_false', Bool.not_eq_eq_eq_not, Bool.not_true, Bool.not_false] at fb65
      refine st_not g5_5_7 rfl (wanted_is (j := 6) (d := 49) rfl rfl h49 rfl) fun a375 e => ?_
      have g50 := R.at_ e (by decide); replace R := R.put e; replace h2 := so e h2; replace h3 := so e h3; replace h4 := so e h4; replace h6 := so e h6; replace h7 := so e h7; replace h9 := so e h9; replace h49 := so e h49; have h50 := g50; clear g50; clear e
      refine st_not g5_5_8 rfl (wanted_is (j := 6) (d := 49) rfl rfl h49 rfl) fun a377 e => ?_
      have g51 := R.at_ e (by decide); replace R := R.put e; replace h2 := so e h2; replace h3 := so e h3; replace h4 := so e h4; replace h6 := so e h6; replace h7 := so e h7; replace h49 := so e h49; replace h50 := so e h50; clear h9; have h51 := g51; clear g51; clear e
      refine st_not g5_5_9 rfl (wanted_is (j := 6) (d := 49) rfl rfl h49 rfl) fun a379 e => ?_
      have g52 := R.at_ e (by decide); replace R := R.put e; replace h2 := so e h2; replace h3 := so e h3; replace h4 := so e h4; replace h6 := so e h6; replace h7 := so e h7; replace h49 := so e h49; clear h50 h51; have h52 := g52; clear g52; clear e
      refine st_not g5_5_10 rfl (wanted_is (j := 6) (d := 49) rfl rfl h49 rfl) fun a381 e => ?_
      have g53 := R.at_ e (by decide); replace R := R.put e; replace h2 := so e h2; replace h3 := so e h3; replace h4 := so e h4; replace h6 := so e h6; replace h7 := so e h7; replace h49 := so e h49; clear h52; have h53 := g53; clear g53; clear e
      have Y : (execOp a381.eval o5_5_11).run Try.prog w53 = .ok (.value (.bool true)) w53 := by unfold o5_5_11; go_simp
      refine st_val g5_5_11 rfl (wanted_free rfl) Y fun a383 e => ?_; clear Y
      have g54 := R.at_ e (by decide); replace R := R.put e; replace h2 := so e h2; replace h3 := so e h3; replace h4 := so e h4; replace h6 := so e h6; replace h7 := so e h7; clear h49 h53; have h54 := g54; clear g54; clear e
      refine st_end ?_
      change (c5_17).wp _ _ _ _
      refine wp_cond_true (x := c5_18) (y := Code.skip) (eval_slot h54) ?_
      refine wp_seq (x := c5_19) (y := Code.ret) ?_
      change (Code.region 6 O5_6 false).wp _ _ _ _
      refine reg_in (l := [0]) rfl ?_
      have Y : (execOp a383.eval o5_6_0).run Try.prog w53 = .ok (.value (.bool true)) w53 := by unfold o5_6_0; go_simp
      refine st_val g5_6_0 rfl (wanted_free rfl) Y fun a385 e => ?_; clear Y
      have g6 := R.at_ e (by decide); replace R := R.put e; replace h2 := so e h2; replace h3 := so e h3; replace h4 := so e h4; replace h7 := so e h7; clear h6 h54; have h6 := g6; clear g6; clear e
      refine st_end ?_
      change (Code.ret).wp _ _ _ _
      refine wp_ret ?_
      change bodyPost Try.prog Try.f5 (fun e w' => e = .returned (.bool true) ∧ Keep (fun g => g < W.heap.size) W w') .ret a385 w53
      refine ret_one rfl R h6 ?_
      exact ⟨rfl, K1⟩
  | true =>
    have fb58 := hb58; clear hb58
    simp only [decide_eq_true_eq, decide_eq_false_iff_not, bne_iff_ne, bne_eq_false_iff_eq, beq_iff_eq, beq_eq_false_iff_ne, ne_eq, Bool.not_eq_true', Bool.not_eq_false', Bool.not_eq_eq_eq_not, Bool.not_true, Bool.not_false] at fb58
    refine st_not g5_5_3 rfl (wanted_is (j := 2) (d := 45) rfl rfl h45 rfl) fun a387 e => ?_
    have g46 := R.at_ e (by decide); replace R := R.put e; replace h2 := so e h2; replace h3 := so e h3; replace h4 := so e h4; replace h6 := so e h6; replace h7 := so e h7; replace h9 := so e h9; replace h45 := so e h45; clear h10; have h46 := g46; clear g46; clear e
    refine st_not g5_5_4 rfl (wanted_is (j := 2) (d := 45) rfl rfl h45 rfl) fun a389 e => ?_
    have g47 := R.at_ e (by decide); replace R := R.put e; replace h2 := so e h2; replace h3 := so e h3; replace h4 := so e h4; replace h6 := so e h6; replace h7 := so e h7; replace h9 := so e h9; replace h45 := so e h45; clear h46; have h47 := g47; clear g47; clear e
    have Y : (execOp a389.eval o5_5_5).run Try.prog w53 = .ok (.value (.bool true)) w53 := by unfold o5_5_5; go_simp
    refine st_val g5_5_5 rfl (wanted_free rfl) Y fun a391 e => ?_; clear Y
    have g48 := R.at_ e (by decide); replace R := R.put e; replace h2 := so e h2; replace h3 := so e h3; replace h4 := so e h4; replace h6 := so e h6; replace h7 := so e h7; replace h9 := so e h9; clear h45 h47; have h48 := g48; clear g48; clear e
    have Y : (execOp a391.eval o5_5_6).run Try.prog w53 = .ok (.value (.bool true)) w53 := by unfold o5_5_6; go_simp
    refine st_val g5_5_6 rfl (wanted_free rfl) Y fun a393 e => ?_; clear Y
    have g49 := R.at_ e (by decide); replace R := R.put e; replace h2 := so e h2; replace h3 := so e h3; replace h4 := so e h4; replace h6 := so e h6; replace h7 := so e h7; replace h9 := so e h9; clear h48; have h49 := g49; clear g49; clear e
    refine st_not g5_5_7 rfl (wanted_is (j := 6) (d := 49) rfl rfl h49 rfl) fun a395 e => ?_
    have g50 := R.at_ e (by decide); replace R := R.put e; replace h2 := so e h2; replace h3 := so e h3; replace h4 := so e h4; replace h6 := so e h6; replace h7 := so e h7; replace h9 := so e h9; replace h49 := so e h49; have h50 := g50; clear g50; clear e
    refine st_not g5_5_8 rfl (wanted_is (j := 6) (d := 49) rfl rfl h49 rfl) fun a397 e => ?_
    have g51 := R.at_ e (by decide); replace R := R.put e; replace h2 := so e h2; replace h3 := so e h3; replace h4 := so e h4; replace h6 := so e h6; replace h7 := so e h7; replace h49 := so e h49; replace h50 := so e h50; clear h9; have h51 := g51; clear g51; clear e
    refine st_not g5_5_9 rfl (wanted_is (j := 6) (d := 49) rfl rfl h49 rfl) fun a399 e => ?_
    have g52 := R.at_ e (by decide); replace R := R.put e; replace h2 := so e h2; replace h3 := so e h3; replace h4 := so e h4; replace h6 := so e h6; replace h7 := so e h7; replace h49 := so e h49; clear h50 h51; have h52 := g52; clear g52; clear e
    refine st_not g5_5_10 rfl (wanted_is (j := 6) (d := 49) rfl rfl h49 rfl) fun a401 e => ?_
    have g53 := R.at_ e (by decide); replace R := R.put e; replace h2 := so e h2; replace h3 := so e h3; replace h4 := so e h4; replace h6 := so e h6; replace h7 := so e h7; replace h49 := so e h49; clear h52; have h53 := g53; clear g53; clear e
    have Y : (execOp a401.eval o5_5_11).run Try.prog w53 = .ok (.value (.bool true)) w53 := by unfold o5_5_11; go_simp
    refine st_val g5_5_11 rfl (wanted_free rfl) Y fun a403 e => ?_; clear Y
    have g54 := R.at_ e (by decide); replace R := R.put e; replace h2 := so e h2; replace h3 := so e h3; replace h4 := so e h4; replace h6 := so e h6; replace h7 := so e h7; clear h49 h53; have h54 := g54; clear g54; clear e
    refine st_end ?_
    change (c5_17).wp _ _ _ _
    refine wp_cond_true (x := c5_18) (y := Code.skip) (eval_slot h54) ?_
    refine wp_seq (x := c5_19) (y := Code.ret) ?_
    change (Code.region 6 O5_6 false).wp _ _ _ _
    refine reg_in (l := [0]) rfl ?_
    have Y : (execOp a403.eval o5_6_0).run Try.prog w53 = .ok (.value (.bool true)) w53 := by unfold o5_6_0; go_simp
    refine st_val g5_6_0 rfl (wanted_free rfl) Y fun a405 e => ?_; clear Y
    have g6 := R.at_ e (by decide); replace R := R.put e; replace h2 := so e h2; replace h3 := so e h3; replace h4 := so e h4; replace h7 := so e h7; clear h6 h54; have h6 := g6; clear g6; clear e
    refine st_end ?_
    change (Code.ret).wp _ _ _ _
    refine wp_ret ?_
    change bodyPost Try.prog Try.f5 (fun e w' => e = .returned (.bool true) ∧ Keep (fun g => g < W.heap.size) W w') .ret a405 w53
    refine ret_one rfl R h6 ?_
    exact ⟨rfl, K1⟩


theorem va_len (q : Tm) : (vaV q).length ≤ 2000 := by
  unfold vaV
  split
  · rename_i h; exact Nat.le_trans (T.vars_len _) (Tm.tree_right (right_of.1 h)).2.1
  · simp
theorem least_walk {W : World} {t u : Tm} {ta ua sa : Option Addr} {tc uc sc : Nat} {sm : List BP} (hT : TmAt W.heap.size W t ta tc) (hU : TmAt W.heap.size W u ua uc) (hS : BSl W.heap.size W sa sm) (hl : sm.length ≤ 2305843009213693951) (hin : ∀ g off, sa = some ⟨g, off, none⟩ → g < W.heap.size) :
    Calls Try.prog 5 #[tv t ta tc, tv u ua uc, .slice sa sm.length sc] W fun e w' => e = .returned (.bool true) ∧ Keep (fun g => g < W.heap.size) W w' := by
  refine enter_sx Try.func5 body5 rfl (by show (3 : Nat) ≤ 141; decide) fun f0 R hs => ?_
  exact lsw R (hs 0 _ rfl) (hs 1 _ rfl) (hs 2 _ rfl) (Keep.refl _ W) (Lib.hid hT) (Lib.hid hU) (Lib.hid hS) (Lib.hid hl) (Lib.hid hin) (Lib.hid ⟨va_len t, va_len u, va_len⟩)
end Go.Proofs.Ythbofkffklejoaa
