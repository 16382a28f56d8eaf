/-
  The document's tokens (pythiaref08): a token, in memory: the others. No condition.
-/
import Derived.Test.YtjaaoljfkbbjpaaGreatDoorRx8
namespace Go.Proofs.YtjaaoljfkbbjpaaGreatDoor
open Go.RowKit Go.Shelf Go.Maps
set_option linter.unusedVariables false
set_option linter.unusedSimpArgs false

set_option maxRecDepth 1000000 in
set_option maxHeartbeats 16000000 in
theorem rToken_solo (L : List UInt8) (a : Nat) (hl : L.length ≤ 16384) {c : UInt8} {r : List UInt8} (hd : L.drop a = c :: r) (h1b : smallB c = false) (h2b : capB c = false) (h3b : digB c = false) (h4b : punctB c = false) (h5b : (c == 33 || c == 59) = true) (w : World) : Calls Tryz.prog 28 #[.string (str L), .int .i64 a] w (TokP a (rtokL a (c :: r)) w) := by
  have hs := str_size L
  obtain ⟨h1, h2, HG0⟩ := str_getAt3 hd
  have HG := Lib.hid HG0
  clear HG0
  have q1 := Lib.hid (fun W => rSmall_any c W)
  rw [h1b] at q1
  unfold byteV at q1
  have q2 := Lib.hid (fun W => rCapital_any c W)
  rw [h2b] at q2
  unfold byteV at q2
  have q3 := Lib.hid (fun W => rDigit_any c W)
  rw [h3b] at q3
  unfold byteV at q3
  have HX : Hid (rtokL a (c :: r) = .good ⟨1, [c], 0, false⟩ (a + 1) r) := Lib.hid (by unfold rtokL; simp only [h1b, h2b, h3b, h4b, h5b, if_true, Bool.false_eq_true, if_false]; simp [oneL])
  have hlen := congrArg List.length hd
  rw [List.length_drop] at hlen
  simp only [List.length_cons] at hlen
  obtain ⟨N, hN⟩ : ∃ N : Nat, N = a + 1 := ⟨_, rfl⟩
  have htk := take_str L a N
  rw [hd, show N - a = 1 by omega] at htk
  have hNi : (a : Int) + 1 = (N : Int) := by omega
  have h5 : (N : Int) ≤ (L.length : Int) := by omega
  have haN : (a : Int) ≤ (N : Int) := by omega
  have HN := Lib.hid hN
  clear hN
  obtain ⟨e40, e41, e91, e93, e123, e125, e44, e124⟩ := punct_no h4b
  obtain ⟨s, hsl⟩ : ∃ s, str L = s := ⟨_, rfl⟩
  rw [hsl] at hs htk HG ⊢
  obtain ⟨hks, hsk⟩ := HG.out
  have HCL := Lib.hid trivial
  obtain ⟨X, hX⟩ : ∃ X, rtokL a (c :: r) = X := ⟨_, rfl⟩
  rw [hX] at HX ⊢
  obtain ⟨f4, hz, hk⟩ := four_is w a
  obtain ⟨W4, hW4⟩ : ∃ W4, four w a = W4 := ⟨_, rfl⟩
  rw [hW4] at f4 hz hk
  have HW := Lib.hid hW4
  have HF := Lib.hid f4
  have HK := Lib.hid hk
  rw [eqInt c 33, eqInt c 59] at h5b
  change (((c.toNat : Int) == 33) || ((c.toNat : Int) == 59)) = true at h5b
  rcases e33 : ((c.toNat : Int) == 33) with _ | _
  rotate_left
  · clear h5b
    clear hd h2 hsl hX f4 hk hW4 HCL
    go_enter Tryz.func28, Tryz.ntmps28
    go_wp2_with fail
    change Calls Tryz.prog _ _ (four w a) _
    rw [HW.out]
    refine (q1.out _).mono ?_
    rintro e x1 ⟨rfl, rfl⟩
    go_wp2_with fail
    refine (q2.out _).mono ?_
    rintro e x2 ⟨rfl, rfl⟩
    go_wp2_with fail
    obtain ⟨lt, l0, l1, l2, a0, a1, a2, a3, a4, a5, b0, b1, c0, c1, c2, c3, c4, c5, d0, d1, za, zb, zc, zd⟩ := HF.out.cells
    refine (q3.out _).mono ?_
    rintro e x3 ⟨rfl, rfl⟩
    go_wp2_with fail
    go_region
    go_wp2_with fail
    refine bodyPost_ret (v := .tuple #[.agg #[.int .i64 1, .string (str [c]), .int .i64 0, .int .i64 a, .bool false, .bool false], .int .i64 (N : Int), .agg #[.int .i64 0, .int .i64 0]]) (by simp [results, Tryz.results28, go_sem, a0, a1, a2, a3, a4, a5, b0, b1]) rfl ?_
    exact ⟨_, _, _, _, _, _, _, rfl, by first | exact (((((((((HK.out.setCell (by dsimp only; omega) _).setCell (by dsimp only; omega) _).setCell (by dsimp only; omega) _).setCell (by dsimp only; omega) _).setCell (by dsimp only; omega) _).setCell (by dsimp only; omega) _).setCell (by dsimp only; omega) _).setCell (by dsimp only; omega) _).setCell (by dsimp only; omega) _).drew, by rw [HX.out]; have := HN.out; simp; omega⟩
  · have e59 : ((c.toNat : Int) == 59) = true := by rw [e33] at h5b; simpa using h5b
    clear h5b
    clear hd h2 hsl hX f4 hk hW4 HCL
    go_enter Tryz.func28, Tryz.ntmps28
    go_wp2_with fail
    change Calls Tryz.prog _ _ (four w a) _
    rw [HW.out]
    refine (q1.out _).mono ?_
    rintro e x1 ⟨rfl, rfl⟩
    go_wp2_with fail
    refine (q2.out _).mono ?_
    rintro e x2 ⟨rfl, rfl⟩
    go_wp2_with fail
    obtain ⟨lt, l0, l1, l2, a0, a1, a2, a3, a4, a5, b0, b1, c0, c1, c2, c3, c4, c5, d0, d1, za, zb, zc, zd⟩ := HF.out.cells
    refine (q3.out _).mono ?_
    rintro e x3 ⟨rfl, rfl⟩
    go_wp2_with fail
    go_region
    go_wp2_with fail
    refine bodyPost_ret (v := .tuple #[.agg #[.int .i64 1, .string (str [c]), .int .i64 0, .int .i64 a, .bool false, .bool false], .int .i64 (N : Int), .agg #[.int .i64 0, .int .i64 0]]) (by simp [results, Tryz.results28, go_sem, a0, a1, a2, a3, a4, a5, b0, b1]) rfl ?_
    exact ⟨_, _, _, _, _, _, _, rfl, by first | exact (((((((((HK.out.setCell (by dsimp only; omega) _).setCell (by dsimp only; omega) _).setCell (by dsimp only; omega) _).setCell (by dsimp only; omega) _).setCell (by dsimp only; omega) _).setCell (by dsimp only; omega) _).setCell (by dsimp only; omega) _).setCell (by dsimp only; omega) _).setCell (by dsimp only; omega) _).drew, by rw [HX.out]; have := HN.out; simp; omega⟩
set_option maxRecDepth 1000000 in
set_option maxHeartbeats 16000000 in
theorem rToken_quoted (L : List UInt8) (a : Nat) (hl : L.length ≤ 16384) {c : UInt8} {r : List UInt8} (hd : L.drop a = c :: r) (h1b : smallB c = false) (h2b : capB c = false) (h3b : digB c = false) (h4b : punctB c = false) (h5b : (c == 33 || c == 59) = false) (h6b : (c == 39) = true) (w : World) : Calls Tryz.prog 28 #[.string (str L), .int .i64 a] w (TokP a (rtokL a (c :: r)) w) := by
  have hs := str_size L
  obtain ⟨h1, h2, HG0⟩ := str_getAt3 hd
  have HG := Lib.hid HG0
  clear HG0
  have q1 := Lib.hid (fun W => rSmall_any c W)
  rw [h1b] at q1
  unfold byteV at q1
  have q2 := Lib.hid (fun W => rCapital_any c W)
  rw [h2b] at q2
  unfold byteV at q2
  have q3 := Lib.hid (fun W => rDigit_any c W)
  rw [h3b] at q3
  unfold byteV at q3
  have HX : Hid (rtokL a (c :: r) = (match quotL a (a + 1) (L.drop (a + 1)) with | .bad e p => .bad e p | .good s n r => .good ⟨1, s, 0, true⟩ n r)) := Lib.hid (by rw [h2]; unfold rtokL; simp only [h1b, h2b, h3b, h4b, h5b, h6b, if_true, Bool.false_eq_true, if_false]; rfl)
  have qQ := Lib.hid (fun W => rQuoted_any L a hl h1 W)
  have hc39 : c = 39 := by simpa using h6b
  have e39 : ((c.toNat : Int) == 39) = true := by rw [hc39]; rfl
  have hlen := congrArg List.length hd
  rw [List.length_drop] at hlen
  simp only [List.length_cons] at hlen
  obtain ⟨e40, e41, e91, e93, e123, e125, e44, e124⟩ := punct_no h4b
  have hs2 := solo_no h5b
  obtain ⟨e33, e59⟩ := hs2
  obtain ⟨s, hsl⟩ : ∃ s, str L = s := ⟨_, rfl⟩
  rw [hsl] at hs HG qQ ⊢
  obtain ⟨hks, hsk⟩ := HG.out
  obtain ⟨Y, hY⟩ : ∃ Y, quotL a (a + 1) (L.drop (a + 1)) = Y := ⟨_, rfl⟩
  have HNZ := Lib.hid (fun c' q' (h : Y = .bad c' q') => quot_bad_code a (a + 1) (L.drop (a + 1)) (hY.trans h))
  rw [hY] at qQ HX
  obtain ⟨X, hX⟩ : ∃ X, rtokL a (c :: r) = X := ⟨_, rfl⟩
  rw [hX] at HX ⊢
  obtain ⟨f4, hz, hk⟩ := four_is w a
  obtain ⟨W4, hW4⟩ : ∃ W4, four w a = W4 := ⟨_, rfl⟩
  rw [hW4] at f4 hz hk
  have HW := Lib.hid hW4
  have HF := Lib.hid f4
  have HK := Lib.hid hk
  clear hd h2 hsl hX f4 hk hW4 hY hc39 h6b h5b
  go_enter Tryz.func28, Tryz.ntmps28
  go_wp2_with fail
  change Calls Tryz.prog _ _ (four w a) _
  rw [HW.out]
  refine (q1.out _).mono ?_
  rintro e x1 ⟨rfl, rfl⟩
  go_wp2_with fail
  refine (q2.out _).mono ?_
  rintro e x2 ⟨rfl, rfl⟩
  go_wp2_with fail
  refine (q3.out _).mono ?_
  rintro e x3 ⟨rfl, rfl⟩
  go_wp2_with fail
  have hq := qQ.out
  clear qQ
  rcases Y with ⟨c', q'⟩ | ⟨nm, m, q'⟩
  · have hc0 := HNZ.out c' q' rfl
    refine (hq _).mono ?_
    rintro e w2 ⟨rfl, hk2⟩
    have Fw2 := HF.out.keep hk2 (by show _ < _; have := HF.out.lt; omega) (by show _ < _; have := HF.out.lt; omega) (by show _ < _; have := HF.out.lt; omega) (by show _ < _; have := HF.out.lt; omega)
    have HKw2 := Lib.hid (HK.out.trans (hk2.less fun i (hi : i < w.heap.size) => by show _ < _; have := HF.out.lt; omega))
    have HFw2 := Lib.hid Fw2
    clear hk2 Fw2 hq
    obtain ⟨lt, l0, l1, l2, a0, a1, a2, a3, a4, a5, b0, b1, c0, c1, c2, c3, c4, c5, d0, d1, za, zb, zc, zd⟩ := HFw2.out.cells
    unfold QtR
    go_wp2_with fail
    have HF6 := Lib.hid (((HFw2.out.quoted true).text ⟨#[]⟩).alloc (.cells #[.int .i64 (c' : Int), .int .i64 (q' : Int)] 45))
    have HK6 := Lib.hid (((HKw2.out.setCell (p := ⟨w.heap.size + 1 + 1, 4, none⟩) (by dsimp only; omega) (.bool true)).setCell (p := ⟨w.heap.size + 1 + 1, 1, none⟩) (by dsimp only; omega) (.string ⟨#[]⟩)).alloc (.cells #[.int .i64 (c' : Int), .int .i64 (q' : Int)] 45))
    have HG6 := Lib.hid (Blk.new ((w2.setCell ⟨w.heap.size + 1 + 1, 4, none⟩ (.bool true)).setCell ⟨w.heap.size + 1 + 1, 1, none⟩ (.string ⟨#[]⟩)) 45 #[.int .i64 (c' : Int), .int .i64 (q' : Int)])
    have hzz : (((w2.setCell ⟨w.heap.size + 1 + 1, 4, none⟩ (.bool true)).setCell ⟨w.heap.size + 1 + 1, 1, none⟩ (.string ⟨#[]⟩)) : World).heap.size = w2.heap.size := by simp [World.setCell]
    rw [hzz] at HG6
    clear lt l0 l1 l2 a0 a1 a2 a3 a4 a5 b0 b1 c0 c1 c2 c3 c4 c5 d0 d1 za zb zc zd
    generalize (((w2.setCell ⟨w.heap.size + 1 + 1, 4, none⟩ (.bool true)).setCell ⟨w.heap.size + 1 + 1, 1, none⟩ (.string ⟨#[]⟩)).alloc (.cells #[.int .i64 (c' : Int), .int .i64 (q' : Int)] 45)) = W6 at HF6 HK6 HG6 ⊢
    have g0 := HG6.out.cell 0
    have g1 := HG6.out.cell 1
    have g2 := HG6.out.lt
    simp at g0 g1
    have hq1 := HFw2.out.lt
    have n0 : ¬ w2.heap.size = w.heap.size := by omega
    have n1 : ¬ w2.heap.size = w.heap.size + 1 := by omega
    have n2 : ¬ w2.heap.size = w.heap.size + 1 + 1 := by omega
    have m0 : ¬ w.heap.size = w2.heap.size := by omega
    have m1 : ¬ w.heap.size + 1 = w2.heap.size := by omega
    have m2 : ¬ w.heap.size + 1 + 1 = w2.heap.size := by omega
    clear hq1
    obtain ⟨lt, l0, l1, l2, a0, a1, a2, a3, a4, a5, b0, b1, c0, c1, c2, c3, c4, c5, d0, d1, za, zb, zc, zd⟩ := HF6.out.cells
    go_region
    go_wp2_with fail
    refine bodyPost_ret (v := .tuple #[.agg #[.int .i64 1, .string ⟨#[]⟩, .int .i64 0, .int .i64 a, .bool true, .bool false], .int .i64 0, .agg #[.int .i64 (c' : Int), .int .i64 (q' : Int)]]) (by simp [results, Tryz.results28, go_sem, a0, a1, a2, a3, a4, a5, b0, b1]) rfl ?_
    exact ⟨_, [], _, _, _, _, _, rfl, by first | exact ((((((((HK6.out.setCell (by dsimp only; omega) _).setCell (by dsimp only; omega) _).setCell (by dsimp only; omega) _).setCell (by dsimp only; omega) _).setCell (by dsimp only; omega) _).setCell (by dsimp only; omega) _).setCell (by dsimp only; omega) _).setCell (by dsimp only; omega) _).drew, by rw [HX.out]; simp; omega⟩
  · refine (hq _).mono ?_
    rintro e w2 ⟨rfl, hk2⟩
    have Fw2 := HF.out.keep hk2 (by show _ < _; have := HF.out.lt; omega) (by show _ < _; have := HF.out.lt; omega) (by show _ < _; have := HF.out.lt; omega) (by show _ < _; have := HF.out.lt; omega)
    have HKw2 := Lib.hid (HK.out.trans (hk2.less fun i (hi : i < w.heap.size) => by show _ < _; have := HF.out.lt; omega))
    have HFw2 := Lib.hid Fw2
    clear hk2 Fw2 hq
    obtain ⟨lt, l0, l1, l2, a0, a1, a2, a3, a4, a5, b0, b1, c0, c1, c2, c3, c4, c5, d0, d1, za, zb, zc, zd⟩ := HFw2.out.cells
    unfold QtR
    go_wp2_with fail
    have HF6 := Lib.hid (((HFw2.out.quoted true).text (str nm)).alloc (.cells #[.int .i64 0, .int .i64 0] 45))
    have HK6 := Lib.hid (((HKw2.out.setCell (p := ⟨w.heap.size + 1 + 1, 4, none⟩) (by dsimp only; omega) (.bool true)).setCell (p := ⟨w.heap.size + 1 + 1, 1, none⟩) (by dsimp only; omega) (.string (str nm))).alloc (.cells #[.int .i64 0, .int .i64 0] 45))
    have HG6 := Lib.hid (Blk.new ((w2.setCell ⟨w.heap.size + 1 + 1, 4, none⟩ (.bool true)).setCell ⟨w.heap.size + 1 + 1, 1, none⟩ (.string (str nm))) 45 #[.int .i64 0, .int .i64 0])
    have hzz : (((w2.setCell ⟨w.heap.size + 1 + 1, 4, none⟩ (.bool true)).setCell ⟨w.heap.size + 1 + 1, 1, none⟩ (.string (str nm))) : World).heap.size = w2.heap.size := by simp [World.setCell]
    rw [hzz] at HG6
    clear lt l0 l1 l2 a0 a1 a2 a3 a4 a5 b0 b1 c0 c1 c2 c3 c4 c5 d0 d1 za zb zc zd
    generalize (((w2.setCell ⟨w.heap.size + 1 + 1, 4, none⟩ (.bool true)).setCell ⟨w.heap.size + 1 + 1, 1, none⟩ (.string (str nm))).alloc (.cells #[.int .i64 0, .int .i64 0] 45)) = W6 at HF6 HK6 HG6 ⊢
    have g0 := HG6.out.cell 0
    have g1 := HG6.out.cell 1
    have g2 := HG6.out.lt
    simp at g0 g1
    have hq1 := HFw2.out.lt
    have n0 : ¬ w2.heap.size = w.heap.size := by omega
    have n1 : ¬ w2.heap.size = w.heap.size + 1 := by omega
    have n2 : ¬ w2.heap.size = w.heap.size + 1 + 1 := by omega
    have m0 : ¬ w.heap.size = w2.heap.size := by omega
    have m1 : ¬ w.heap.size + 1 = w2.heap.size := by omega
    have m2 : ¬ w.heap.size + 1 + 1 = w2.heap.size := by omega
    clear hq1
    obtain ⟨lt, l0, l1, l2, a0, a1, a2, a3, a4, a5, b0, b1, c0, c1, c2, c3, c4, c5, d0, d1, za, zb, zc, zd⟩ := HF6.out.cells
    go_region
    go_wp2_with fail
    refine bodyPost_ret (v := .tuple #[.agg #[.int .i64 1, .string (str nm), .int .i64 0, .int .i64 a, .bool true, .bool false], .int .i64 (m : Int), .agg #[.int .i64 0, .int .i64 0]]) (by simp [results, Tryz.results28, go_sem, a0, a1, a2, a3, a4, a5, b0, b1]) rfl ?_
    exact ⟨_, _, _, _, _, _, _, rfl, by first | exact ((((((((HK6.out.setCell (by dsimp only; omega) _).setCell (by dsimp only; omega) _).setCell (by dsimp only; omega) _).setCell (by dsimp only; omega) _).setCell (by dsimp only; omega) _).setCell (by dsimp only; omega) _).setCell (by dsimp only; omega) _).setCell (by dsimp only; omega) _).drew, by rw [HX.out]; simp⟩
set_option maxRecDepth 1000000 in
set_option maxHeartbeats 16000000 in
theorem rToken_stop (L : List UInt8) (a : Nat) (hl : L.length ≤ 16384) {c : UInt8} {r : List UInt8} (hd : L.drop a = c :: r) (h1b : smallB c = false) (h2b : capB c = false) (h3b : digB c = false) (h4b : punctB c = false) (h5b : (c == 33 || c == 59) = false) (h6b : (c == 39) = false) (h7b : stopB (c :: r) = true) (w : World) : Calls Tryz.prog 28 #[.string (str L), .int .i64 a] w (TokP a (rtokL a (c :: r)) w) := by
  have hs := str_size L
  obtain ⟨h1, h2, HG0⟩ := str_getAt3 hd
  have HG := Lib.hid HG0
  clear HG0
  have q1 := Lib.hid (fun W => rSmall_any c W)
  rw [h1b] at q1
  unfold byteV at q1
  have q2 := Lib.hid (fun W => rCapital_any c W)
  rw [h2b] at q2
  unfold byteV at q2
  have q3 := Lib.hid (fun W => rDigit_any c W)
  rw [h3b] at q3
  unfold byteV at q3
  have HX : Hid (rtokL a (c :: r) = .good ⟨5, [c], 0, false⟩ (a + 1) r) := Lib.hid (by unfold rtokL; simp only [h1b, h2b, h3b, h4b, h5b, h6b, h7b, if_true, Bool.false_eq_true, if_false]; simp [oneL])
  have q4 := Lib.hid (fun W => stop_any L a hl hd W)
  rw [h7b] at q4
  have hlen := congrArg List.length hd
  rw [List.length_drop] at hlen
  simp only [List.length_cons] at hlen
  obtain ⟨N, hN⟩ : ∃ N : Nat, N = a + 1 := ⟨_, rfl⟩
  have htk := take_str L a N
  rw [hd, show N - a = 1 by omega] at htk
  have hNi : (a : Int) + 1 = (N : Int) := by omega
  have h5 : (N : Int) ≤ (L.length : Int) := by omega
  have haN : (a : Int) ≤ (N : Int) := by omega
  have HN := Lib.hid hN
  clear hN
  obtain ⟨e40, e41, e91, e93, e123, e125, e44, e124⟩ := punct_no h4b
  have hs2 := solo_no h5b
  obtain ⟨e33, e59⟩ := hs2
  have e39 : ((c.toNat : Int) == 39) = false := by rw [eqInt c 39] at h6b; exact h6b
  obtain ⟨s, hsl⟩ : ∃ s, str L = s := ⟨_, rfl⟩
  rw [hsl] at hs htk HG q4 ⊢
  obtain ⟨hks, hsk⟩ := HG.out
  obtain ⟨X, hX⟩ : ∃ X, rtokL a (c :: r) = X := ⟨_, rfl⟩
  rw [hX] at HX ⊢
  obtain ⟨f4, hz, hk⟩ := four_is w a
  obtain ⟨W4, hW4⟩ : ∃ W4, four w a = W4 := ⟨_, rfl⟩
  rw [hW4] at f4 hz hk
  have HW := Lib.hid hW4
  have HF := Lib.hid f4
  have HK := Lib.hid hk
  clear hd h2 hsl hX f4 hk hW4 h5b h6b
  go_enter Tryz.func28, Tryz.ntmps28
  go_wp2_with fail
  change Calls Tryz.prog _ _ (four w a) _
  rw [HW.out]
  refine (q1.out _).mono ?_
  rintro e x1 ⟨rfl, rfl⟩
  go_wp2_with fail
  refine (q2.out _).mono ?_
  rintro e x2 ⟨rfl, rfl⟩
  go_wp2_with fail
  refine (q3.out _).mono ?_
  rintro e x3 ⟨rfl, rfl⟩
  go_wp2_with fail
  obtain ⟨lt, l0, l1, l2, a0, a1, a2, a3, a4, a5, b0, b1, c0, c1, c2, c3, c4, c5, d0, d1, za, zb, zc, zd⟩ := HF.out.cells
  refine (q4.out _).mono ?_
  rintro e x4 ⟨rfl, rfl⟩
  go_wp2_with fail
  go_region
  go_wp2_with fail
  refine bodyPost_ret (v := .tuple #[.agg #[.int .i64 5, .string (str [c]), .int .i64 0, .int .i64 a, .bool false, .bool false], .int .i64 (N : Int), .agg #[.int .i64 0, .int .i64 0]]) (by simp [results, Tryz.results28, go_sem, a0, a1, a2, a3, a4, a5, b0, b1]) rfl ?_
  exact ⟨_, _, _, _, _, _, _, rfl, by first | exact ((((((((((HK.out.setCell (by dsimp only; omega) _).setCell (by dsimp only; omega) _).setCell (by dsimp only; omega) _).setCell (by dsimp only; omega) _).setCell (by dsimp only; omega) _).setCell (by dsimp only; omega) _).setCell (by dsimp only; omega) _).setCell (by dsimp only; omega) _).setCell (by dsimp only; omega) _).setCell (by dsimp only; omega) _).drew, by rw [HX.out]; have := HN.out; simp; omega⟩
set_option maxRecDepth 1000000 in
set_option maxHeartbeats 16000000 in
theorem rToken_sign (L : List UInt8) (a : Nat) (hl : L.length ≤ 16384) {c : UInt8} {r : List UInt8} (hd : L.drop a = c :: r) (h1b : smallB c = false) (h2b : capB c = false) (h3b : digB c = false) (h4b : punctB c = false) (h5b : (c == 33 || c == 59) = false) (h6b : (c == 39) = false) (h7b : stopB (c :: r) = false) (h8b : signB c = true) (w : World) : Calls Tryz.prog 28 #[.string (str L), .int .i64 a] w (TokP a (rtokL a (c :: r)) w) := by
  have hs := str_size L
  obtain ⟨h1, h2, HG0⟩ := str_getAt3 hd
  have HG := Lib.hid HG0
  clear HG0
  have q1 := Lib.hid (fun W => rSmall_any c W)
  rw [h1b] at q1
  unfold byteV at q1
  have q2 := Lib.hid (fun W => rCapital_any c W)
  rw [h2b] at q2
  unfold byteV at q2
  have q3 := Lib.hid (fun W => rDigit_any c W)
  rw [h3b] at q3
  unfold byteV at q3
  have HX : Hid (rtokL a (c :: r) = .good ⟨1, (c :: r).take (signLen (c :: r)), 0, false⟩ (a + signLen (c :: r)) ((c :: r).drop (signLen (c :: r)))) := Lib.hid (by unfold rtokL; simp only [h1b, h2b, h3b, h4b, h5b, h6b, h7b, h8b, if_true, Bool.false_eq_true, if_false])
  have q5 := Lib.hid (fun W => rSign_any c W)
  rw [h8b] at q5
  unfold byteV at q5
  have qS := Lib.hid (fun W => rSigns_any L a hl (by omega) W)
  rw [hd] at qS
  have hle := signLen_le (c :: r)
  have q4 := Lib.hid (fun W => stop_any L a hl hd W)
  rw [h7b] at q4
  have hlen := congrArg List.length hd
  rw [List.length_drop] at hlen
  simp only [List.length_cons] at hlen
  have hlL : a + signLen (c :: r) ≤ L.length := by simp only [List.length_cons] at hle; omega
  have htk := take_str L a (a + signLen (c :: r))
  rw [hd, show a + signLen (c :: r) - a = signLen (c :: r) by omega] at htk
  have haN : a ≤ a + signLen (c :: r) := by omega
  obtain ⟨e40, e41, e91, e93, e123, e125, e44, e124⟩ := punct_no h4b
  have hs2 := solo_no h5b
  obtain ⟨e33, e59⟩ := hs2
  have e39 : ((c.toNat : Int) == 39) = false := by rw [eqInt c 39] at h6b; exact h6b
  obtain ⟨s, hsl⟩ : ∃ s, str L = s := ⟨_, rfl⟩
  rw [hsl] at hs htk HG qS q4 ⊢
  obtain ⟨hks, hsk⟩ := HG.out
  obtain ⟨tx, htx⟩ : ∃ tx, (c :: r).take (signLen (c :: r)) = tx := ⟨_, rfl⟩
  rw [htx] at htk HX
  obtain ⟨n, hn⟩ : ∃ n, a + signLen (c :: r) = n := ⟨_, rfl⟩
  rw [hn] at htk qS hlL haN HX
  have HTK := Lib.hid htk
  obtain ⟨X, hX⟩ : ∃ X, rtokL a (c :: r) = X := ⟨_, rfl⟩
  rw [hX] at HX ⊢
  obtain ⟨f4, hz, hk⟩ := four_is w a
  obtain ⟨W4, hW4⟩ : ∃ W4, four w a = W4 := ⟨_, rfl⟩
  rw [hW4] at f4 hz hk
  have HW := Lib.hid hW4
  have HF := Lib.hid f4
  have HK := Lib.hid hk
  clear hd h2 hsl hX f4 hk hW4 h5b h6b htx hn hle htk
  go_enter Tryz.func28, Tryz.ntmps28
  go_wp2_with fail
  change Calls Tryz.prog _ _ (four w a) _
  rw [HW.out]
  refine (q1.out _).mono ?_
  rintro e x1 ⟨rfl, rfl⟩
  go_wp2_with fail
  refine (q2.out _).mono ?_
  rintro e x2 ⟨rfl, rfl⟩
  go_wp2_with fail
  refine (q3.out _).mono ?_
  rintro e x3 ⟨rfl, rfl⟩
  go_wp2_with fail
  refine (q4.out _).mono ?_
  rintro e x4 ⟨rfl, rfl⟩
  go_wp2_with fail
  refine (q5.out _).mono ?_
  rintro e w5 ⟨rfl, hk2⟩
  have Fw5 := HF.out.keep hk2 (by show _ < _; have := HF.out.lt; omega) (by show _ < _; have := HF.out.lt; omega) (by show _ < _; have := HF.out.lt; omega) (by show _ < _; have := HF.out.lt; omega)
  have HKw5 := Lib.hid (HK.out.trans (hk2.less fun i (hi : i < w.heap.size) => by show _ < _; have := HF.out.lt; omega))
  have hzw5 := hk2.size
  have HFw5 := Lib.hid Fw5
  clear hk2 Fw5
  go_wp2_with fail
  refine (qS.out _).mono ?_
  rintro e w2 ⟨rfl, hk2⟩
  have Fw2 := HFw5.out.keep hk2 (by show _ < _; have := HFw5.out.lt; omega) (by show _ < _; have := HFw5.out.lt; omega) (by show _ < _; have := HFw5.out.lt; omega) (by show _ < _; have := HFw5.out.lt; omega)
  have HKw2 := Lib.hid (HKw5.out.trans (hk2.less fun i (hi : i < w.heap.size) => by show _ < _; have := HFw5.out.lt; omega))
  have hzw2 := hk2.size
  have HFw2 := Lib.hid Fw2
  clear hk2 Fw2
  obtain ⟨lt, l0, l1, l2, a0, a1, a2, a3, a4, a5, b0, b1, c0, c1, c2, c3, c4, c5, d0, d1, za, zb, zc, zd⟩ := HFw2.out.cells
  have htk := HTK.out
  go_wp2_with fail
  go_region
  go_wp2_with fail
  refine bodyPost_ret (v := .tuple #[.agg #[.int .i64 1, .string (str tx), .int .i64 0, .int .i64 a, .bool false, .bool false], .int .i64 n, .agg #[.int .i64 0, .int .i64 0]]) (by simp [results, Tryz.results28, go_sem, a0, a1, a2, a3, a4, a5, b0, b1]) rfl ?_
  exact ⟨_, _, _, _, _, _, _, rfl, by first | exact (((((((((HKw2.out.setCell (by dsimp only; omega) _).setCell (by dsimp only; omega) _).setCell (by dsimp only; omega) _).setCell (by dsimp only; omega) _).setCell (by dsimp only; omega) _).setCell (by dsimp only; omega) _).setCell (by dsimp only; omega) _).setCell (by dsimp only; omega) _).setCell (by dsimp only; omega) _).drew, by rw [HX.out]; simp⟩
set_option maxRecDepth 1000000 in
set_option maxHeartbeats 16000000 in
theorem rToken_none (L : List UInt8) (a : Nat) (hl : L.length ≤ 16384) {c : UInt8} {r : List UInt8} (hd : L.drop a = c :: r) (h1b : smallB c = false) (h2b : capB c = false) (h3b : digB c = false) (h4b : punctB c = false) (h5b : (c == 33 || c == 59) = false) (h6b : (c == 39) = false) (h7b : stopB (c :: r) = false) (h8b : signB c = false) (w : World) : Calls Tryz.prog 28 #[.string (str L), .int .i64 a] w (TokP a (rtokL a (c :: r)) w) := by
  have hs := str_size L
  obtain ⟨h1, h2, HG0⟩ := str_getAt3 hd
  have HG := Lib.hid HG0
  clear HG0
  have q1 := Lib.hid (fun W => rSmall_any c W)
  rw [h1b] at q1
  unfold byteV at q1
  have q2 := Lib.hid (fun W => rCapital_any c W)
  rw [h2b] at q2
  unfold byteV at q2
  have q3 := Lib.hid (fun W => rDigit_any c W)
  rw [h3b] at q3
  unfold byteV at q3
  have HX : Hid (rtokL a (c :: r) = .bad 80 a) := Lib.hid (by unfold rtokL; simp only [h1b, h2b, h3b, h4b, h5b, h6b, h7b, h8b, if_true, Bool.false_eq_true, if_false])
  have q5 := Lib.hid (fun W => rSign_any c W)
  rw [h8b] at q5
  unfold byteV at q5
  have q4 := Lib.hid (fun W => stop_any L a hl hd W)
  rw [h7b] at q4
  have hlen := congrArg List.length hd
  rw [List.length_drop] at hlen
  simp only [List.length_cons] at hlen
  obtain ⟨e40, e41, e91, e93, e123, e125, e44, e124⟩ := punct_no h4b
  have hs2 := solo_no h5b
  obtain ⟨e33, e59⟩ := hs2
  have e39 : ((c.toNat : Int) == 39) = false := by rw [eqInt c 39] at h6b; exact h6b
  obtain ⟨s, hsl⟩ : ∃ s, str L = s := ⟨_, rfl⟩
  rw [hsl] at hs HG q4 ⊢
  obtain ⟨hks, hsk⟩ := HG.out
  obtain ⟨X, hX⟩ : ∃ X, rtokL a (c :: r) = X := ⟨_, rfl⟩
  rw [hX] at HX ⊢
  obtain ⟨f4, hz, hk⟩ := four_is w a
  obtain ⟨W4, hW4⟩ : ∃ W4, four w a = W4 := ⟨_, rfl⟩
  rw [hW4] at f4 hz hk
  have HW := Lib.hid hW4
  have HF := Lib.hid f4
  have HK := Lib.hid hk
  clear hd h2 hsl hX f4 hk hW4 h5b h6b
  go_enter Tryz.func28, Tryz.ntmps28
  go_wp2_with fail
  change Calls Tryz.prog _ _ (four w a) _
  rw [HW.out]
  refine (q1.out _).mono ?_
  rintro e x1 ⟨rfl, rfl⟩
  go_wp2_with fail
  refine (q2.out _).mono ?_
  rintro e x2 ⟨rfl, rfl⟩
  go_wp2_with fail
  refine (q3.out _).mono ?_
  rintro e x3 ⟨rfl, rfl⟩
  go_wp2_with fail
  refine (q4.out _).mono ?_
  rintro e x4 ⟨rfl, rfl⟩
  go_wp2_with fail
  refine (q5.out _).mono ?_
  rintro e w2 ⟨rfl, hk2⟩
  have Fw2 := HF.out.keep hk2 (by show _ < _; have := HF.out.lt; omega) (by show _ < _; have := HF.out.lt; omega) (by show _ < _; have := HF.out.lt; omega) (by show _ < _; have := HF.out.lt; omega)
  have HKw2 := Lib.hid (HK.out.trans (hk2.less fun i (hi : i < w.heap.size) => by show _ < _; have := HF.out.lt; omega))
  have hzw2 := hk2.size
  have HFw2 := Lib.hid Fw2
  clear hk2 Fw2
  obtain ⟨lt, l0, l1, l2, a0, a1, a2, a3, a4, a5, b0, b1, c0, c1, c2, c3, c4, c5, d0, d1, za, zb, zc, zd⟩ := HFw2.out.cells
  go_wp2_with fail
  go_region
  go_wp2_with fail
  refine bodyPost_ret (v := .tuple #[.agg #[.int .i64 1, .string ⟨#[]⟩, .int .i64 0, .int .i64 a, .bool false, .bool false], .int .i64 ((a : Int) + 1), .agg #[.int .i64 80, .int .i64 (a : Int)]]) (by simp [results, Tryz.results28, go_sem, a0, a1, a2, a3, a4, a5, b0, b1]) rfl ?_
  exact ⟨_, [], _, _, _, _, _, rfl, by first | exact ((((((((((HKw2.out.setCell (by dsimp only; omega) _).setCell (by dsimp only; omega) _).setCell (by dsimp only; omega) _).setCell (by dsimp only; omega) _).setCell (by dsimp only; omega) _).setCell (by dsimp only; omega) _).setCell (by dsimp only; omega) _).setCell (by dsimp only; omega) _).setCell (by dsimp only; omega) _).setCell (by dsimp only; omega) _).drew, by rw [HX.out]; simp⟩
theorem rToken_any (L : List UInt8) (a : Nat) (hl : L.length ≤ 16384) {c : UInt8} {r : List UInt8} (hd : L.drop a = c :: r) (w : World) : Calls Tryz.prog 28 #[.string (str L), .int .i64 a] w (TokP a (rtokL a (c :: r)) w) := by
  rcases h1 : smallB c with _ | _
  rotate_left
  · exact rToken_small L a hl hd h1 w
  rcases h2 : capB c with _ | _
  rotate_left
  · exact rToken_cap L a hl hd h1 h2 w
  rcases h3 : digB c with _ | _
  rotate_left
  · exact rToken_digit L a hl hd h1 h2 h3 w
  rcases h4 : punctB c with _ | _
  rotate_left
  · exact rToken_punct L a hl hd h1 h2 h3 h4 w
  rcases h5 : (c == 33 || c == 59) with _ | _
  rotate_left
  · exact rToken_solo L a hl hd h1 h2 h3 h4 h5 w
  rcases h6 : (c == 39) with _ | _
  rotate_left
  · exact rToken_quoted L a hl hd h1 h2 h3 h4 h5 h6 w
  rcases h7 : stopB (c :: r) with _ | _
  rotate_left
  · exact rToken_stop L a hl hd h1 h2 h3 h4 h5 h6 h7 w
  rcases h8 : signB c with _ | _
  rotate_left
  · exact rToken_sign L a hl hd h1 h2 h3 h4 h5 h6 h7 h8 w
  exact rToken_none L a hl hd h1 h2 h3 h4 h5 h6 h7 h8 w
end Go.Proofs.YtjaaoljfkbbjpaaGreatDoor
